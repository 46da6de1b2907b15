import PyProof.Rows.All
import Wide.All
import OpenK.AllK
import Wide.FinOn
import PyProof.EqAt
import PyProof.EqKinds
import PyProof.TupleCall
import Lean
import PySem.Challenge.RW_samestride_k04_texts_judged
noncomputable section
set_option Elab.async false
set_option linter.all false
set_option maxRecDepth 100000
open PySem renaming wpAny_bind->Ya,Shared->Yb,wpAny_pure->Yc,mainGlobals->Yd,sysModules->Ye,wpAny_mono->Yf,World->Yg,Program->Yh,Addr->Yi,Value->Yj,wpAny_newObj_type->Yp,starEach->Yy,wpAny->Yz,sizeLine_eq->YA,Heap->YE,Around->YF,mem_of_lookup->YG,compareOp->YK,wpAny_field->YO,backTo->YQ,wpAny_Call_Name_kw->YV,wpAny_callSpecial?_slot->YX,wpAny_holding->Wa,wpAny_call_entry->Wb,wpAny_of_eq->Wg
open PySem.W renaming Frag->Yk,nsIn->Yl,findIn->YH,mg_of->YM,emptyDict->YR,subIn->YT,keepIn->YZ,instObj->Wc
open PySem.Heap renaming lt_size->Ym,get?_update_other->YL,get?_update_self->YU,get?_push_of_some->Od,get?_push_size->Oj
open PySem.NameKind renaming free->Yn
open PySem.PyData renaming strOk->Yo,eqv->YN
open List renaming mem_append_left->Yq,append_nil->Yr,length_map->Ys,replicate->YI,any_cons->YY,lookup->We,foldl_cons->Wi,find?_cons->Wj,getElem?_eq_some_iff->Ob,getElem?_set_ne->Oc,getElem?_append_left->Oe,size_toArray->Of,getElem?_eq_getElem->Og,mem_cons_of_mem->Oh,mem_cons_self->Oi,mem_of_getElem?->O1,getElem?_set_self->Ol,getElem?_append_right->Om,getElem?_map->On,map_cons->Op,mem_cons->O2,length_cons->Os,mem_append_right->Ov,mem_singleton->Ox,map_nil->Oy,append_assoc->Oz,length_append->OA,nil_append->OB,all_eq_true->OC,mem_append->OD,lookup_cons->OF,sum_cons->OI,getElem?_cons_zero->OJ,getElem?_cons_succ->O0
open Option renaming map_some->Yt,bind_some->Yw,some->Wn,none->Wo,map_eq_some_iff->Oo
open Nat renaming lt_irrefl->Yu,zero_le->Yv,le_refl->Oq,lt_of_lt_of_le->Ot,ne_of_lt->Ou,le_trans->OE,lt_succ_self->OH
open PySem.Value renaming ref->YB
open Sum renaming inr->YC
open Option.some renaming inj->YD
open Ne renaming symm->YJ
open PySem.F renaming plain_max_loop->YS
open PySem.Obj renaming data_mapFields->YW
open PyProof.Rows renaming slot_tuple_getitem->Wf
open PySem.Builtin.List renaming listTooLong->Wh
open Bool renaming or_eq_true->Wm,true->Wp,false->Wq,and_eq_true->Oa,false_ne_true->Ow,false_eq_true->OG
open Decidable renaming decide->Wr
open PySem.Str renaming ofString->O
set_option genSizeOf false
section
open PySem PySem.W PyProof.Rows
set_option maxHeartbeats 0
structure PySem.W.Fast:Prop where(tw5360048921807097569 tw4247303674739509281 tw2328549418832101463 tw13987493403249163666 tw16308464999254048988 tw14347468008110780508 tw2167585628914556612 tw4912529671306712820 tw883958108513347192 tw14396599313914152074 tw12617088396749645835 tw9633592843085601153 tw2693580360314338360 tw17824758695733272274 tw526538058042124725 tw638251423667378931 tw13538273146569716719 tw5924424902514531666 tw15013782711733283224 tw4886183089755557395 tw3803062508895425300 tw10380866979583909340 tw10783446308472614501 tw4391933906965184441 tw12772356714113397103 tw15000378830624552369 tw1448233760329133875 tw17739113049603575606 tw17443854960867350155 tw7145044304102718258 tw10328825255072165249 tw10234300951143168027 tw14690624910113106435 tw9714744429222222808 tw2754796402462296435 tw16904150942724770679 tw12598480959473736009 tw4283968613291499652 tw4288412414860457234 tw230801469123006645 tw15411850317662684188 tw901788371816697841 tw13606214307980812256 tw5653515822937137822 tw15095008029866852724 tw15052081350746877631 tw6230397743199655653 tw5593267189442259641 tw8858979873976690743 tw13957598557106608940 tw11091111473309406575 tw5647878414959024376 tw15478114044717895160 tw12089647155739382929 tw3908388086083941220 tw6552273205435889013 tw1573073476032237410 tw6475126622461697712 tw14614142728636408870 tw12848648406259223378 tw15456729557920389428 tw10208635259480348249 tw9078784961566246796 tw14111647011151381274 tw16904632431151294500 tw6876162071820079225 tw17729774619302669804 tw13120728365015444420 tw6990943036945544197 tw2155612812867372428 tw2827815420210584796 tw9177657087427255310 tw10889241241973820686 tw2849464425631714325 tw16497949349321461458 tw7250605440671143357 tw13131249625723417677 tw5341594476630564376 tw9876687910469796472 tw2893695503410149662 tw10634817466469059935 tw14004360197827627602 tw13723402987784591094 tw4307628300778290881 tw12221485235805930603 tw2721784563017220605 tw14342913500453458392 tw7107691956696296701 tw9713033850400318045 tw15072002477042388987 tw4350416441720781478 tw15098365917968460050 tw13641745132031090816 tw10918807956181331578 tw2016361886933835569 tw4100485629533263014 tw15087818128544392857 tw2919178256729749007 tw17416924937135901111 tw4075512750412614539 tw11045146988807125659 tw12231460456467062607 tw13607459485751835431 tw16606374692242469230 tw18210901250957664390 tw3996784351582667262 tw6463122111175710482 tw13085460463353936327 tw6646162029720807337 tw18411333945759131085 tw4066849838826330193 tw4192164041681710417 tw8222928485602580931 tw15508049241182164158 tw5305669490597694245 tw498635780968504433 tw3561294627863575653 tw18163968705297971971 tw10757580402352363496 tw11943981976612886747 tw9620577794943520546 tw2888963945538394148 tw15196373231196386526 tw2245852253435078866 tw11570835473060101730 tw12353272614193157100 tw15201596214896673721 tw2463114038540360015 tw1751523612318103743 tw14961672134312852813 tw9774297926015710524 tw9329442554328460520 tw3361695554368876403 tw12176158322814021010 tw3869794445557696194 tw7444884397342999040 tw11024059292605526341 tw13439643428114203152 tw8035265717902706198 tw11417542972946185637 tw17618453083825109970 tw8604332604194621662 tw6465284106293748397 tw10792668719244674178 tw6450056142995196942 tw14807817532404446590:True)
open_top K04hd for PySem.Challenge.rw_samestride_k04_texts_judged
end
namespace L2
open PySem PySem.Spec PyProof.Rows
noncomputable abbrev Key:=Sum Int Str
noncomputable def ZkF:Key->Yj->Bool
 |.inl k,v=>Value.isInt k v
 |.inr x,v=>Value.isStrOf x v
noncomputable def ZBu(w:Yg):Key->Int
 |.inl k=>hashInt k
 |.inr x=>hashStr w x
def ZU:∀{k:Key}{v:Yj},ZkF k v=Wp->(∃i t,k=Sum.inl i/\v=Value.int i t)\/(∃x t,k=YC x/\v=Value.str x t)
 |.inl i,v,h=>by obtain⟨t,e⟩:=Value.isInt_shape (k:=i) (v:=v) h;exact .inl ⟨i,t,rfl,e⟩
 |.inr x,v,h=>by obtain⟨t,e⟩:=Value.isStrOf_shape (x:=x) (v:=v) h;exact .inr ⟨x,t,rfl,e⟩
def Zqc(i:Int)(t:Tok):ZkF (.inl i) (.int i t)=Wp:=by simp[ZkF,Value.isInt]
def ZD(x:Str)(t:Tok):ZkF (.inr x) (.str x t)=Wp:=by simp[ZkF,Value.isStrOf]
def ZxA(a b:Int):Wr ((Sum.inl a:Key)=Sum.inl b)=(a==b):=by
 by_cases e:a=b
 . subst e;simp
 . have h:¬ (Sum.inl a:Key)=Sum.inl b:=λq=>e (Sum.inl.inj q);rw[decide_eq_false h];exact(beq_eq_false_iff_ne.mpr e).symm
def Zxx(a b:Str):Wr ((YC a:Key)=YC b)=Wr (a=b):=by
 by_cases e:a=b
 . subst e;simp
 . have h:¬ (YC a:Key)=YC b:=λq=>e (Sum.inr.inj q);rw[decide_eq_false h,decide_eq_false e]
def Zxz(a:Int)(b:Str):Wr ((Sum.inl a:Key)=YC b)=Wq:=decide_eq_false (λq=>nomatch q)
def Zxy(a:Str)(b:Int):Wr ((YC a:Key)=Sum.inl b)=Wq:=decide_eq_false (λq=>nomatch q)
def Z0(prog:Yh)(w:Yg):PySem.KeyKind prog w Key where
 is:=ZkF
 hash:=ZBu w
 inj:=λv a b ha hb=>by
  rcases ZU ha with ⟨i,t,rfl,rfl⟩|⟨x,t,rfl,rfl⟩
  . rcases ZU hb with ⟨j,u,rfl,e⟩|⟨y,u,rfl,e⟩
    . injection e with e1 _;rw[e1]
    . exact nomatch e
  . rcases ZU hb with ⟨j,u,rfl,e⟩|⟨y,u,rfl,e⟩
    . exact nomatch e
    . injection e with e1 _;rw[e1]
 byValue:=λk v h=>by rcases ZU h with ⟨i,t,rfl,rfl⟩|⟨x,t,rfl,rfl⟩<;>rfl
 pyHash:=λhv h=>by
  rcases ZU hv with ⟨i,t,rfl,rfl⟩|⟨x,t,rfl,rfl⟩
  . exact wpAny_pyHash_int h
  . exact wpAny_pyHash_str h
 eqBool:=λhu hv h=>by
  rcases ZU hu with ⟨i,t,rfl,rfl⟩|⟨x,t,rfl,rfl⟩
  . rcases ZU hv with ⟨j,u,rfl,rfl⟩|⟨y,u,rfl,rfl⟩
    . rw[ZxA]at h;exact wpAny_eqBool_int h
    . rw[Zxz]at h;exact SeqAt.EqAt.int_str i t y u _ _ _ _ h
  . rcases ZU hv with ⟨j,u,rfl,rfl⟩|⟨y,u,rfl,rfl⟩
    . rw[Zxy]at h;exact SeqAt.EqAt.str_int x t j u _ _ _ _ h
    . rw[Zxx]at h;exact wpAny_eqBool_str h
 «strs»:=λk x t v h=>by
  rcases ZU h with ⟨i,u,rfl,e⟩|⟨y,u,rfl,e⟩
  . exact nomatch e
  . injection e with e1 _;subst e1;cases v<;>rfl
def Zmi(prog:Yh)(w:Yg)(i:Int)(t:Tok):(Z0 prog w).is (.inl i) (.int i t)=Wp:=Zqc i t
def Zmh(prog:Yh)(w:Yg)(x:Str)(t:Tok):(Z0 prog w).is (.inr x) (.str x t)=Wp:=ZD x t
inductive V where
 |non|bl (b:Bool)|int (i:Int)|str (x:Str)|byt (b:Array UInt8)|flt (b:UInt64)|ref (a:Yi)|ty (n:String)
 deriving DecidableEq
def RelV:V->Yj->Prop
 |.non,u=>u=Value.none
 |.bl b,u=>u=Value.bool b
 |.int i,u=>∃t,u=Value.int i t
 |.str x,u=>∃t,u=Value.str x t
 |.byt b,u=>∃t,u=Value.bytes b t
 |.flt b,u=>∃t,u=Value.float b t
 |.ref a,u=>u=YB a
 |.ty n,u=>u=Value.type n
abbrev Zu:List V->List Yj->Prop:=Paired RelV
theorem Zu.length(r:Zu xs us):xs.length=us.length:=Paired.length r
theorem Zu.get:∀{xs:List V}{us:List Yj}{i:Nat}{x:V},Zu xs us->xs[i]? = Wn x->∃u,us[i]? = Wn u/\RelV x u
 |_,_,_,_,.nil,e=>by simp at e
 |_,_,0,_,.cons r _,e=>by simp at e;subst e;exact⟨_,rfl,r⟩
 |_,_,i+1,x,.cons _ t,e=>by obtain⟨u,h1,h2⟩:=Zu.get (i:=i) (x:=x) t (by simpa using e);exact⟨u,by simpa using h1,h2⟩
theorem Zu.set(r:RelV x u):∀{xs:List V}{us:List Yj} (i:Nat),Zu xs us->Zu (xs.set i x) (us.set i u)
 |_,_,_,.nil=>.nil
 |_,_,0,.cons _ t=>.cons r t
 |_,_,i+1,.cons q t=>.cons q (Zu.set r i t)
theorem Zu.append:∀{xs ys:List V}{us ws:List Yj},Zu xs us->Zu ys ws->Zu (xs++ys) (us++ws)
 |_,_,_,_,.nil,s=>s
 |_,_,_,_,.cons r t,s=>.cons r (Zu.append t s)
theorem Zu.take:∀{xs:List V}{us:List Yj} (n:Nat),Zu xs us->Zu (xs.take n) (us.take n)
 |_,_,0,_=>.nil
 |_,_,_+1,.nil=>.nil
 |_,_,n+1,.cons r t=>.cons r (Zu.take n t)
theorem Zu.drop:∀{xs:List V}{us:List Yj} (n:Nat),Zu xs us->Zu (xs.drop n) (us.drop n)
 |_,_,0,r=>r
 |_,_,_+1,.nil=>.nil
 |_,_,n+1,.cons _ t=>Zu.drop n t
def Zgq:Option V->Option Yj->Prop
 |some v,Wn u=>RelV v u
 |none,Wo=>True
 |_,_=>False
def KV:List (κ×V)->List (κ×Yj)->Prop:=Paired λ(p:κ×V) (q:κ×Yj)=>p.1=q.1/\RelV p.2 q.2
noncomputable def kV:Key->V
 |.inl i=>.int i
 |.inr x=>.str x
inductive HO where
 |lst (xs:List V)
 |tup (xs:List V)
 |dK (kvs:List (Key×V))|dT (kvs:List (List Key×V))
 |set (S_:Int->Bool) (n:Nat)
 |ins (C dx:Yi) (fs:List (Str×V))
 |own (x:Yi)
 |xd (fs:List (Str×V))
 |met (f x:Yi)
 |rng (lo hi:Int)
 |frz (o:Obj) (u:HO)
 |tbl (ps:Array Yj)
 |ext (φ:YE->Prop)
abbrev Hp:=Yi->Option HO
noncomputable def upd(H:Hp)(a:Yi)(o:HO):Hp:=λb=>if b=a then Wn o else H b
def Zo:upd H a o a=Wn o:=by unfold upd;rw[if_pos rfl]
def Zy(h:b≠a):upd H a o b=H b:=by unfold upd;rw[if_neg h]
def ZW{H:Hp}(h:H a=Wn o)(h':H b=Wo):a≠b:=by intro e;subst e;rw[h]at h';cases h'
section
variable (P:Yh) (w:Yg)
def Zbi(h:YE)(a:Yi)(items:Array Yj):Prop:=∃o,h.get? a=Wn o/\o.cls=.type "tuple" /\ o.dict=Wo/\∃n,o.data=.seq items n
theorem Zbi.tup(x:Zbi h a items):IsTup h a items:=let ⟨o,ho,hc,_,r⟩:=x;⟨o,ho,hc,r⟩
theorem Zbi.fresh(h:YE)(items:Array Yj):Zbi (h.push {cls:=.type "tuple",data:=.seq items}) h.objs.size items:=⟨_,Oj _ rfl,rfl,rfl,_,rfl⟩
def Zaq(H:Hp)(h:YE)(a:Yi):HO->Prop
 |.lst xs=>xs.length<=sizeLine/\∃(its:List Yj) (n:Nat),Zu xs its/\h.get? a=Wn {cls:=.type "list",data:=.seq its.toArray n}
 |.tup xs=>xs.length<=sizeLine/\∃its:List Yj,Zu xs its/\Zbi h a its.toArray
 |.dK kvs=>kvs.length<=sizeLine/\(a==Ye)=Wq/\∃vs,KV kvs vs/\h.DictOf (Z0 P w) a vs
 |.dT kvs=>kvs.length<=sizeLine/\(a==Ye)=Wq/\∃xs:List (List Key×Yi×Yj),
  Paired (λ(p:List Key×V) (q:List Key×Yi×Yj)=>p.1=q.1/\H q.2.1=Wn (.tup (p.1.map kV))/\RelV p.2 q.2.2) kvs xs /\
  ∃o es ep,h.get? a=Wn o/\o.ExactDict/\o.data=.dict es ep/\es.toList=xs.map (entryOfKey (tupleKind (Z0 P w)))/\(xs.map (·.1)).Nodup
 |.set S_ n=>h.SetOf (intKind P w) a S_ n
 |.ins C dx fs=>H dx=Wn (.own a)/\fs.length<=1000/\dx≠a/\h.get? a=Wn (Wc C dx) /\
  ∃mA,h.Ns1 dx mA/\(∀f,Zgq (fs.lookup f) (mA f))/\PySem.Within mA (fs.map (·.1))
 |.own _=>∃o,h.get? a=Wn o
 |.xd fs=>∃mA,h.Ns1 a mA/\∀f,Zgq (fs.lookup f) (mA f)
 |.rng lo hi=>∃t u v,h.get? a=Wn {cls:=.type "range",data:=.fields #[.int lo t,.int hi u,.int 1 v]}
 |.frz o u=>h.get? a=Wn o/\Zaq H h a u
 |.tbl ps=>h.get? a=Wn {cls:=.none,data:=.fields ps}
 |.met f x=>h.get? a=Wn (PySem.W.methodObj (.ref f) (.ref x))
 |.ext φ=>φ h/\(∃o,h.get? a=Wn o)/\∀h1 h2:YE,φ h1->(∀o,h1.get? a=Wn o->h2.get? a=Wn o)->φ h2
def HOk(H:Hp)(h:YE):Prop:=∀a o,H a=Wn o->Zaq P w H h a o
end
section
variable {P:Yh}{w:Yg}{H H':Hp}{h h':YE}{a:Yi}{o:HO}
theorem Zaq.lt(x:Zaq P w H h a o):a<h.objs.size:=by
 cases o with
 |lst xs=>obtain⟨_,_,_,_,e⟩:=x;exact Ym e
 |tup xs=>obtain⟨_,_,_,p⟩:=x;exact p.tup.lt
 |dK kvs=>obtain⟨_,_,_,_,o,_,_,e,_⟩:=x;exact Ym e
 |dT kvs=>obtain⟨_,_,_,_,o,_,_,e,_⟩:=x;exact Ym e
 |set S_ n=>obtain⟨o,_,_,_,e,_⟩:=x;exact Ym e
 |ins C dx fs=>obtain⟨_,_,_,e,_⟩:=x;exact Ym e
 |own y=>obtain⟨_,e⟩:=x;exact Ym e
 |xd fs=>obtain⟨_,⟨_,_,_,e,_⟩,_⟩:=x;exact Ym e
 |rng lo hi=>obtain⟨_,_,_,e⟩:=x;exact Ym e
 |frz ob u=>obtain⟨e,_⟩:=x;exact Ym e
 |tbl ps=>exact Ym (show h.get? a=Wn _ from x)
 |met f y=>exact Ym (show h.get? a=Wn _ from x)
 |ext φ=>obtain⟨_,⟨_,e⟩,_⟩:=x;exact Ym e
theorem Paired.mapP:∀{l₁:List α}{l₂:List β},Paired F l₁ l₂->(∀a b,F a b->G a b)->Paired G l₁ l₂
 |_,_,.nil,_=>.nil
 |_,_,.cons r t,f=>.cons (f _ _ r) (Paired.mapP t f)
def Zaq.stay(x:Zaq P w H h a o)(k:∀b u,(b=a\/H b=Wn (.own a))->h.get? b=Wn u->h'.get? b=Wn u)
 (ho:∀b,H b=Wn (.own a)->H' b=Wn (.own a)) (ht:∀b xs,H b=Wn (.tup xs)->H' b=Wn (.tup xs)):Zaq P w H' h' a o:=by
 induction o with
 |lst xs=>obtain⟨z,its,n,r,e⟩:=x;exact⟨z,its,n,r,k _ _ (.inl rfl) e⟩
 |tup xs=>obtain⟨z,its,r,ob,e,c⟩:=x;exact⟨z,its,r,ob,k _ _ (.inl rfl) e,c⟩
 |dK kvs=>obtain⟨z,y,vs,r,ob,es,ep,e,c⟩:=x;exact⟨z,y,vs,r,ob,es,ep,k _ _ (.inl rfl) e,c⟩
 |dT kvs=>obtain⟨z,y,xs,r,ob,es,ep,e,c⟩:=x;exact⟨z,y,xs,Paired.mapP r λp q z=>⟨z.1,ht _ _ z.2.1,z.2.2⟩,ob,es,ep,k _ _ (.inl rfl) e,c⟩
 |set S_ n=>obtain⟨ob,es,ep,t,e,c⟩:=x;exact⟨ob,es,ep,t,k _ _ (.inl rfl) e,c⟩
 |ins C dx fs=>obtain⟨d,z,ne,e,mA,⟨od,es,ep,e2,c⟩,r⟩:=x;exact⟨ho _ d,z,ne,k _ _ (.inl rfl) e,mA,⟨od,es,ep,k _ _ (.inr d) e2,c⟩,r⟩
 |own y=>obtain⟨ob,e⟩:=x;exact⟨ob,k _ _ (.inl rfl) e⟩
 |xd fs=>obtain⟨mA,⟨od,es,ep,e,c⟩,r⟩:=x;exact⟨mA,⟨od,es,ep,k _ _ (.inl rfl) e,c⟩,r⟩
 |rng lo hi=>obtain⟨t,u,v,e⟩:=x;exact⟨t,u,v,k _ _ (.inl rfl) e⟩
 |frz ob u ih=>obtain⟨e,q⟩:=x;exact⟨k _ _ (.inl rfl) e,ih q⟩
 |tbl ps=>have e:h.get? a=Wn {cls:=.none,data:=.fields ps}:=x;show h'.get? a=Wn {cls:=.none,data:=.fields ps};exact k a _ (.inl rfl) e
 |met f y=>have e:h.get? a=Wn (PySem.W.methodObj (.ref f) (.ref y)):=x;show h'.get? a=Wn (PySem.W.methodObj (.ref f) (.ref y));exact k a _ (.inl rfl) e
 |ext φ=>obtain⟨p,⟨o,e⟩,st⟩:=x;exact⟨st _ _ p λo q=>k _ _ (.inl rfl) q,⟨o,k _ _ (.inl rfl) e⟩,st⟩
theorem HOk.lt(x:HOk P w H h)(e:H a=Wn o):a<h.objs.size:=(x a o e).lt
def HOk.fresh(x:HOk P w H h)(e:h.objs.size<=a):H a=Wo:=by
 cases q:H a with
 |none=>rfl
 |some u=>exact absurd (Ot (x.lt q) e) (Yu _)
def HOk.kept(x:HOk P w H h)(k:∀b u,h.get? b=Wn u->h'.get? b=Wn u):HOk P w H h':=λa o e=>(x a o e).stay (λb u _ q=>k b u q) (λ_ q=>q) λ_ _ q=>q
def HOk.laid(x:HOk P w H h)(k:∀b u,h.get? b=Wn u->h'.get? b=Wn u)(hp:h.objs.size<=a)(new:Zaq P w (upd H a o) h' a o):HOk P w (upd H a o) h':=λb u e=>by
 have hn:=x.fresh hp;by_cases hb:b=a
 . subst hb;rw[Zo]at e;cases e;exact new
 . rw[Zy hb]at e;exact(x b u e).stay (λc v _ q=>k c v q) (λc q=>by rw[Zy (ZW q hn)];exact q) λc xs q=>by rw[Zy (ZW q hn)];exact q
end
def Rd(H:Hp)(a:Yi)(u:HO):Prop:=H a=Wn u\/∃o,H a=Wn (.frz o u)
def Rd.ok{P:Yh}{w:Yg}{H:Hp}{h:YE}{a:Yi}{u:HO}(r:Rd H a u)(x:HOk P w H h):Zaq P w H h a u:=by
 rcases r with r|⟨o,r⟩
 . exact x a u r
 . obtain⟨_,q⟩:=x a _ r;exact q
def Mut:Option HO->Prop
 |some (.lst _)=>True
 |some (.dK _)=>True
 |some (.dT _)=>True
 |some (.set _ _)=>True
 |some (.ins _ _ _)=>True
 |some (.ext _)=>True
 |_=>False
section
variable {P:Yh}{w:Yg}{H:Hp}{h h':YE}{x e:Yi}{o':HO}
def HOk.write(ok:HOk P w H h)(mu:Mut (H x))(he:e=x\/H e=Wn (.own x))(k:∀b u,b≠e->h.get? b=Wn u->h'.get? b=Wn u)(heo:∃u,h'.get? e=Wn u)
 (new:Zaq P w (upd H x o') h' x o'):HOk P w (upd H x o') h':=λb u q=>by
 have nown:∀c y,H c=Wn (.own y)->c≠x:=λc y r z=>by subst z;rw[r]at mu;exact mu
 have ntup:∀c xs,H c=Wn (.tup xs)->c≠x:=λc xs r z=>by subst z;rw[r]at mu;exact mu
 by_cases hb:b=x
 . subst hb;rw[Zo]at q;cases q;exact new
 . rw[Zy hb]at q;by_cases hbe:b=e
   . have q':H b=Wn (.own x):=by
      rcases he with z|z
      . exact absurd (hbe.trans z) hb
      . rw[hbe];exact z
     rw[q]at q';cases q';obtain⟨v,hv⟩:=heo;exact⟨v,by rw[hbe];exact hv⟩
   . refine(ok b u q).stay (λc v hc r=>k c v ?_ r) (λc r=>by rw[Zy (nown c b r)];exact r) λc xs r=>by rw[Zy (ntup c xs r)];exact r
     rcases hc with rfl|hc
     . exact hbe
     . rintro rfl;rcases he with z|z
       . exact nown c b hc z
       . rw[hc]at z;cases z;exact hb rfl
end
structure Un(fs ex:List Yi)(H H':Hp)(h h':YE):Prop where
 keep:∀b o,h.get? b=Wn o->H b=Wo->b ∉ fs->b ∉ ex->h'.get? b=Wn o
 slot:∀b o,h.get? b=Wn o->H b=Wo->b∈fs->b ∉ ex->∃sl,h'.get? b=Wn {o with slots:=sl}
 free:∀b o,h.get? b=Wn o->H b=Wo->b ∉ ex->H' b=Wo
 there:∀b o,h.get? b=Wn o->b ∉ ex->∃o',h'.get? b=Wn o'
 tups:∀b xs,H b=Wn (.tup xs)->H' b=Wn (.tup xs)
 frzs:∀b o u,H b=Wn (.frz o u)->H' b=Wn (.frz o u)
 tbls:∀b ps,H b=Wn (.tbl ps)->∃more,H' b=Wn (.tbl (ps++more))
section
variable {fs fs' ex ex':List Yi}{H H1 H2:Hp}{h h1 h2 h':YE}{a x e:Yi}{o:HO}
def Un.any(u:Un fs ex H H1 h h1)(q:h.get? b=Wn ob)(n:H b=Wo)(hx:b ∉ ex):∃sl,h1.get? b=Wn {ob with slots:=sl}:=by
 by_cases hb:b∈fs
 . exact u.slot b ob q n hb hx
 . exact⟨ob.slots,u.keep b ob q n hb hx⟩
def Un.trans(a:Un fs ex H H1 h h1)(b:Un fs ex H1 H2 h1 h2):Un fs ex H H2 h h2 where
 keep:=λc ob q n hc hx=>b.keep c ob (a.keep c ob q n hc hx) (a.free c ob q n hx) hc hx
 slot:=λc ob q n hc hx=>by obtain⟨sl,e1⟩:=a.slot c ob q n hc hx;obtain⟨sl',e2⟩:=b.slot c _ e1 (a.free c ob q n hx) hc hx;exact⟨sl',e2⟩
 free:=λc ob q n hx=>by obtain⟨o',e1⟩:=a.there c ob q hx;exact b.free c o' e1 (a.free c ob q n hx) hx
 there:=λc ob q hx=>by obtain⟨o',e1⟩:=a.there c ob q hx;exact b.there c o' e1 hx
 tups:=λc xs q=>b.tups c xs (a.tups c xs q)
 frzs:=λc ob xs q=>b.frzs c ob xs (a.frzs c ob xs q)
 tbls:=λc ps q=>by obtain⟨m1,e1⟩:=a.tbls c ps q;obtain⟨m2,e2⟩:=b.tbls c _ e1;exact⟨m1++m2,by rw[e2,Array.append_assoc]⟩
def Un.kept(k:∀b u,h.get? b=Wn u->h'.get? b=Wn u):Un fs ex H H h h':=⟨λb ob q _ _ _=>k b ob q,λb ob q _ _ _=>⟨ob.slots,k b ob q⟩,λ_ _ _ n _=>n,λb ob q _=>⟨ob,k b ob q⟩,λ_ _ q=>q,λ_ _ _ q=>q,λ_ ps q=>⟨#[],by rw[q];simp⟩⟩
def Un.refl:Un fs ex H H h h:=Un.kept λ_ _ q=>q
def Un.laid(k:∀b u,h.get? b=Wn u->h'.get? b=Wn u)(hp:h.objs.size<=a)(hn:H a=Wo):Un fs ex H (upd H a o) h h' where
 keep:=λb u q _ _ _=>k b u q
 slot:=λb u q _ _ _=>⟨u.slots,k b u q⟩
 free:=λb u q n _=>by rw[Zy (Ou (Ot (Ym q) hp))];exact n
 there:=λb u q _=>⟨u,k b u q⟩
 tups:=λb xs q=>by rw[Zy (ZW q hn)];exact q
 frzs:=λb u xs q=>by rw[Zy (ZW q hn)];exact q
 tbls:=λb ps q=>⟨#[],by rw[Zy (ZW q hn),q];simp⟩
def Un.write(mu:Mut (H x))(he:e=x\/H e=Wn (.own x))(k:∀b u,b≠e->h.get? b=Wn u->h'.get? b=Wn u)(heo:∃u,h'.get? e=Wn u):Un fs ex H (upd H x o) h h':=by
 have hx:∀b,H b=Wo->b≠x:=λb n z=>by subst z;rw[n]at mu;exact mu
 have hb:∀b,H b=Wo->b≠e:=λb n z=>by
  subst z;rcases he with r|r
  . exact hx b n r
  . rw[n]at r;cases r
 have hm:∀b u,H b=Wn u->¬ Mut (Wn u)->b≠x:=λb u q nm z=>by subst z;rw[q]at mu;exact nm mu
 refine⟨λb u q n _ _=>k b u (hb b n) q,λb u q n _ _=>⟨u.slots,k b u (hb b n) q⟩,λb u q n _=>by rw[Zy (hx b n)];exact n,λb u q _=>?_,
  λb xs q=>by rw[Zy (hm b _ q λz=>z)];exact q,λb u xs q=>by rw[Zy (hm b _ q λz=>z)];exact q,λb ps q=>⟨#[],by rw[Zy (hm b _ q λz=>z),q];simp⟩⟩
 by_cases hbe:b=e
 . subst hbe;exact heo
 . exact⟨u,k b u hbe q⟩
end
def trk(h:YE)(H:Hp):List Yi:=(List.range h.objs.size).filter λa=>(H a).isSome
def Zlp(h:YE)(H:Hp):YE:=PySem.W.hideAll h (trk h H)
def Zqh(h:YE)(H:Hp):(Zlp h H).objs.size=h.objs.size:=PySem.W.hideAll_size _ _
def Zsj(e:h.get? b=Wn o)(n:H b=Wo):(Zlp h H).get? b=Wn o:=
 PySem.W.hideAll_get _ e λhm=>by have q:(H b).isSome=Wp:=(List.mem_filter.mp hm).2;rw[n]at q;simp at q
def Zub(e:(Zlp h H).get? b=Wn o):h.get? b=Wn o/\H b=Wo:=by
 have e':h.get? b=Wn o:=PySem.W.of_hideAll (trk h H) e;refine⟨e',?_⟩;cases q:H b with
 |none=>rfl
 |some x=>have hm:b∈trk h H:=List.mem_filter.mpr ⟨List.mem_range.mpr (Ym e'),by simp[q]⟩;have z:(Zlp h H).get? b=Wo:=PySem.W.hideAll_none (trk h H) hm;rw[z]at e;cases e
structure Mod(K:Yk)(mg:Str->Option Yj)(base:YE):Prop where
 kin:K.In base
 glob:base.Ns Yd mg
 blt:∃mb,base.Ns builtinsNs mb/\∀x:Str,x ≠ "__name__" -> mb x=bootBuiltins x
 nolimit:base.NoLimit
structure Cx where
 prog:Yh
 w:Yg
 K:Yk
 mg:Str->Option Yj
 base:YE
 A:YF
 N:List Str
 s₀:Yb
 H₀:Hp
 env:Env
 outer:List Env
 stack:List Env
 ex:List Yi
 fn:Str->Bool
 calm:Bool
 pn:List (Yi×Obj)
 xe:Yj->Yb->Prop
noncomputable def frs(l:List Env):List Yi:=l.filterMap (·.frame)
abbrev Cx.fs(X:Cx):List Yi:=frs X.outer
def Vis(sc:Scope)(x:Str):Prop:=sc.names.lookup x=Wn .local\/sc.names.lookup x=Wn .cell\/sc.names.lookup x=Wn .free
def Loc(sc:Scope)(x:Str):Prop:=sc.names.lookup x=Wn .local\/sc.names.lookup x=Wn .cell
def Look(env:Env)(h:YE)(m:Str->Option Yj)(x:Str)(u:Yj):Prop:=(env.kindOf x=Wn .local/\m x=Wn u)\/((env.kindOf x=Wn .cell\/env.kindOf x=Wn .free)/\∃c,env.cells.lookup x=Wn c/\h.IsCell c (Wn u))
structure Cx.Ok(X:Cx):Prop where
 mod:Mod X.K X.mg X.base
 kind:X.env.scope.kind=.function
 glob:X.env.globals=Yd
 blt:X.env.builtins=builtinsNs
 above:X.s₀.heap.objs.size<=X.env.locals
 inj:∀x y c,X.env.cells.lookup x=Wn c->X.env.cells.lookup y=Wn c->x=y
 has:∀x,(X.env.kindOf x=Wn .cell\/X.env.kindOf x=Wn .free)->∃c,X.env.cells.lookup x=Wn c
 cab:∀x c,X.fn x=Wp->X.env.cells.lookup x=Wn c->X.s₀.heap.objs.size<=c
 hd:X.calm=Wp->X.A.handled=Wo
 frames:X.A.frames=Wn X.stack
 stk:X.stack=X.outer\/(X.stack=X.env::X.outer/\X.env.frame=Wn X.env.locals)
 exf:∀b∈X.ex,b≠X.env.locals/\∀x c,X.env.cells.lookup x=Wn c->c≠b
 bs:∀b o,X.base.get? b=Wn o->X.s₀.heap.get? b=Wn o/\X.H₀ b=Wo
 bsz:X.base.objs.size<=X.s₀.heap.objs.size
 noex:∀b o,X.base.get? b=Wn o->b ∉ X.ex
 exfs:∀b∈X.ex,b ∉ X.fs
 funs:X.s₀.heap.FunFrames X.base X.outer
 frf:∀b∈X.fs,X.H₀ b=Wo
structure Inv(X:Cx)(pins:List (Yi×Obj))(Z:List (Option V))(H:Hp)(s:Yb):Prop where
 ok:X.Ok
 os:s.os=X.s₀.os
 bare:AllBare s.gens
 base:Un X.fs X.ex X.H₀ H X.s₀.heap s.heap
 loc:∃m,s.heap.Ns X.env.locals m/\∀(i:Nat) (x:Str) (v:V),X.N[i]? = Wn x->Z[i]? = Wn (Wn v)->Vis X.env.scope x->∃u,RelV v u/\Look X.env s.heap m x u
 cell:∀x c,X.env.cells.lookup x=Wn c->∃v,s.heap.IsCell c v
 free:H X.env.locals=Wo
 freeC:∀x c,X.env.cells.lookup x=Wn c->H c=Wo
 pin:∀p∈X.pn++pins,s.heap.get? p.1=Wn p.2/\H p.1=Wo/\p.1≠X.env.locals/\p.1 ∉ X.fs/\∀v,p.2.data≠.cell v
 hok:HOk X.prog X.w H s.heap
 len:Z.length=X.N.length
section
variable {X:Cx}{pins:List (Yi×Obj)}{Z:List (Option V)}{H H':Hp}{s:Yb}{h':YE}
def Cx.Ok.nofr(ok:X.Ok)(e:X.base.get? b=Wn o):b ∉ X.fs:=λhb=>by have:=(ok.funs.mem hb).1;rw[e]at this;cases this
theorem Inv.bs(I:Inv X pins Z H s):∀b o,X.base.get? b=Wn o->s.heap.get? b=Wn o/\H b=Wo:=λb o e=>⟨I.base.keep b o (I.ok.bs b o e).1 (I.ok.bs b o e).2 (I.ok.nofr e) (I.ok.noex b o e),I.base.free b o (I.ok.bs b o e).1 (I.ok.bs b o e).2 (I.ok.noex b o e)⟩
def Inv.bk(I:Inv X pins Z H s):∀b o,X.base.get? b=Wn o->s.heap.get? b=Wn o:=λb o e=>(I.bs b o e).1
theorem Inv.mod(I:Inv X pins Z H s):Mod X.K X.mg X.base:=I.ok.mod
def Inv.kIn(I:Inv X pins Z H s):X.K.In s.heap:=I.ok.mod.kin.keeps I.bk
theorem Inv.lt(I:Inv X pins Z H s):X.env.locals<s.heap.objs.size:=let ⟨_,hn,_⟩:=I.loc;hn.lt
def Inv.sz(I:Inv X pins Z H s):X.s₀.heap.objs.size<=s.heap.objs.size:=OE I.ok.above (Nat.le_of_lt I.lt)
def Inv.nofs(I:Inv X pins Z H s)(h:s.heap.objs.size<=a):a ∉ X.fs:=λhb=>by obtain⟨_,o,ho,_⟩:=I.ok.funs.mem hb;exact absurd (Ot (Ym ho) (OE I.sz h)) (Yu _)
def Inv.cne(I:Inv X pins Z H s):∀x c,X.env.cells.lookup x=Wn c->c≠X.env.locals:=λx c e z=>by obtain⟨v,o,ho,hd⟩:=I.cell x c e;obtain⟨m,⟨o',es,ep,ho',hd',_⟩,_⟩:=I.loc;rw[z,ho']at ho;cases ho;rw[hd']at hd;cases hd
theorem Inv.funs(I:Inv X pins Z H s):s.heap.FunFrames X.base X.outer:=by
 have all:∀(l:List Env),(∀b∈frs l,b∈X.fs)->X.s₀.heap.FunFrames X.base l->s.heap.FunFrames X.base l:=by
  intro l;induction l with
  |nil=>intro _ _;trivial
  |cons env r ih=>intro hs hl;obtain⟨hk,⟨L,o,hf,hn,ho,hd⟩,hr⟩:=hl;have hL:L∈X.fs:=hs L (by unfold frs;rw[List.filterMap_cons,hf];exact Oi);obtain⟨sl,e⟩:=I.base.slot L o ho (I.ok.frf L hL) hL λz=>I.ok.exfs L z hL;exact⟨hk,⟨L,_,hf,hn,e,hd⟩,ih (λb hb=>hs b (by unfold frs;rw[List.filterMap_cons,hf];exact Oh _ hb)) hr⟩
 exact all X.outer (λ_ hb=>hb) I.ok.funs
theorem Inv.stack(I:Inv X pins Z H s):s.heap.FunFrames X.base X.stack:=by
 rcases I.ok.stk with e|⟨e,hf⟩
 . rw[e];exact I.funs
 . rw[e];obtain⟨m,hn,_⟩:=I.loc;refine .cons (by rw[I.ok.kind];decide) hf hn ?_ I.funs;exact Heap.get?_none_of_le (OE I.ok.bsz I.ok.above)
def Inv.stkSub(I:Inv X pins Z H s):∀b∈frs X.stack,b∈X.env.locals::X.fs:=λb hb=>by
 rcases I.ok.stk with e|⟨e,hf⟩
 . rw[e]at hb;exact Oh _ hb
 . rw[e]at hb;unfold frs at hb;rw[List.filterMap_cons,hf]at hb;exact hb
def Inv.stkFree(I:Inv X pins Z H s):∀b∈frs X.stack,H b=Wo:=λb hb=>by
 rcases O2.mp (I.stkSub b hb)with e|hb
 . rw[e];exact I.free
 . obtain⟨_,o,ho,_⟩:=I.ok.funs.mem hb;exact I.base.free b o ho (I.ok.frf b hb) λz=>I.ok.exfs b z hb
def Inv.step{g':Array GenState}{t':Nat}{d':Drawn}{ch:List Yi}(I:Inv X pins Z H s)
 (hch:∀b∈ch,(b∈X.ex\/X.s₀.heap.objs.size<=b)/\b≠X.env.locals/\(∀x c,X.env.cells.lookup x=Wn c->c≠b)/\∀p∈X.pn++pins,p.1≠b)
 (keep:∀b o,b≠X.env.locals->b ∉ X.fs->b ∉ ch->s.heap.get? b=Wn o->H b=Wo->h'.get? b=Wn o)
 (slot:∀b o,b≠X.env.locals->b∈X.fs->b ∉ ch->s.heap.get? b=Wn o->H b=Wo->∃sl,h'.get? b=Wn {o with slots:=sl}) (free:∀b o,b ∉ ch->s.heap.get? b=Wn o->H b=Wo->H' b=Wo)
 (there:∀b o,b ∉ ch->s.heap.get? b=Wn o->∃o',h'.get? b=Wn o')
 (tups:∀b xs,H b=Wn (.tup xs)->H' b=Wn (.tup xs)) (frzs:∀b o u,H b=Wn (.frz o u)->H' b=Wn (.frz o u)) (tbls:∀b ps,H b=Wn (.tbl ps)->∃more,H' b=Wn (.tbl (ps++more)))
 (ns:∀m,s.heap.Ns X.env.locals m->h'.Ns X.env.locals m) (hok:HOk X.prog X.w H' h') (hg:AllBare g') :
 Inv X pins Z H' {s with heap:=h',gens:=g',drawn:=d',toks:=t'}:=by
 have neL:∀b o,X.s₀.heap.get? b=Wn o->b≠X.env.locals:=λb o e=>Ou (Ot (Ym e) I.ok.above);have neC:∀b o,X.s₀.heap.get? b=Wn o->b ∉ X.ex->b ∉ ch:=λb o e hx hb=>by
  rcases(hch b hb).1 with z|z
  . exact hx z
  . exact absurd (Ot (Ym e) z) (Yu _)
 have cellK:∀x c,X.env.cells.lookup x=Wn c->∀v,s.heap.IsCell c v->h'.IsCell c v:=λx c e v ⟨o,ho,hd⟩=>by
  have nch:c ∉ ch:=λz=>(hch c z).2.2.1 x c e rfl;by_cases hc:c∈X.fs
  . obtain⟨sl,q⟩:=slot c o (I.cne x c e) hc nch ho (I.freeC x c e);exact⟨_,q,hd⟩
  . exact⟨o,keep c o (I.cne x c e) hc nch ho (I.freeC x c e),hd⟩
 refine⟨I.ok,I.os,hg,⟨λb o e n hb hx=>?_,λb o e n hb hx=>?_,λb o e n hx=>?_,λb o e hx=>?_,λb xs e=>tups b xs (I.base.tups b xs e),λb o xs e=>frzs b o xs (I.base.frzs b o xs e),λb ps e=>?_⟩,?_,λx c e=>?_,?_,λx c e=>?_,λp hp=>?_,hok,I.len⟩
 . exact keep b o (neL b o e) hb (neC b o e hx) (I.base.keep b o e n hb hx) (I.base.free b o e n hx)
 . obtain⟨sl,e1⟩:=I.base.slot b o e n hb hx;obtain⟨sl',e2⟩:=slot b _ (neL b o e) hb (neC b o e hx) e1 (I.base.free b o e n hx);exact⟨sl',e2⟩
 . obtain⟨o',e1⟩:=I.base.there b o e hx;exact free b o' (neC b o e hx) e1 (I.base.free b o e n hx)
 . obtain⟨o',e1⟩:=I.base.there b o e hx;exact there b o' (neC b o e hx) e1
 . obtain⟨m1,e1⟩:=I.base.tbls b ps e;obtain⟨m2,e2⟩:=tbls b _ e1;exact⟨m1++m2,by rw[e2,Array.append_assoc]⟩
 . obtain⟨m,hn,hl⟩:=I.loc;refine⟨m,ns m hn,λi x v e1 e2 e3=>?_⟩;obtain⟨u,r,l⟩:=hl i x v e1 e2 e3;refine⟨u,r,?_⟩;rcases l with l|⟨k,c,e,z⟩
   . exact .inl l
   . exact .inr ⟨k,c,e,cellK x c e _ z⟩
 . obtain⟨v,z⟩:=I.cell x c e;exact⟨v,cellK x c e v z⟩
 . obtain⟨m,⟨o,_,_,ho,_⟩,_⟩:=I.loc;exact free _ o (λz=>(hch _ z).2.1 rfl) ho I.free
 . obtain⟨v,o,ho,hd⟩:=I.cell x c e;exact free c o (λz=>(hch c z).2.2.1 x c e rfl) ho (I.freeC x c e)
 . obtain⟨e,n,ne,nf,d⟩:=I.pin p hp;have nch:p.1 ∉ ch:=λz=>(hch p.1 z).2.2.2 p hp rfl;exact⟨keep p.1 p.2 ne nf nch e n,free p.1 p.2 nch e n,ne,nf,d⟩
theorem Inv.un{t':Nat}(I:Inv X pins Z H s)(u:Un X.fs [] H H' s.heap h')(hok:HOk X.prog X.w H' h'):Inv X pins Z H' {s with heap:=h',toks:=t'}:=by
 obtain ⟨m,⟨o,es,ep,ho,r⟩,_⟩:=id I.loc;obtain ⟨sl,hL⟩:=u.any ho I.free (by simp);exact I.step (g':=s.gens) (d':=s.drawn) (ch:=[]) (fun _ z=>nomatch z) (fun b o _ hb _ e n=>u.keep b o e n hb (by simp)) (fun b o _ hb _ e n=>u.slot b o e n hb (by simp)) (fun b o _ e n=>u.free b o e n (by simp)) (fun b o _ e=>u.there b o e (by simp)) u.tups u.frzs u.tbls (fun m' hm=>by
   obtain ⟨o',es',ep',ho',r'⟩:=hm;rw [ho] at ho';cases ho';exact ⟨_,es',ep',hL,r'⟩) hok I.bare
theorem Inv.call{g':Array GenState}{t':Nat}{d':Drawn}{ch:List Yi}(I:Inv X pins Z H s)(u:Un (frs X.stack) ch H H' s.heap h')(hok:HOk X.prog X.w H' h')(hg:AllBare g')
   (hch:∀ b∈ch,(b∈X.ex\/X.s₀.heap.objs.size<=b)/\b≠X.env.locals/\(∀ x c,X.env.cells.lookup x=Wn c->c≠b)/\∀ p∈X.pn++pins,p.1≠b) :
   Inv X pins Z H' {s with heap:=h',gens:=g',drawn:=d',toks:=t'}:=by
 obtain ⟨m,⟨o,es,ep,ho,r⟩,_⟩:=id I.loc;obtain ⟨sl,hL⟩:=u.any ho I.free fun z=>(hch _ z).2.1 rfl;exact I.step (ch:=ch) hch (fun b o hL hb hc e n=>u.keep b o e n (fun z=>(O2.mp (I.stkSub b z)).elim hL hb) hc) (fun b o _ _ hc e n=>u.any e n hc) (fun b o hc e n=>u.free b o e n hc) (fun b o hc e=>u.there b o e hc) u.tups u.frzs u.tbls (fun m' hm=>by
   obtain ⟨o',es',ep',ho',r'⟩:=hm;rw [ho] at ho';cases ho';exact ⟨_,es',ep',hL,r'⟩) hok hg
def Inv.turned{t':Nat}{it:Yi}(I:Inv X pins Z H s)(k:∀b o,b≠it->s.heap.get? b=Wn o->h'.get? b=Wn o)(hn:H it=Wo)(hL:it≠X.env.locals)
 (h1:it∈X.ex\/X.s₀.heap.objs.size<=it) (h2:∀x c,X.env.cells.lookup x=Wn c->c≠it) (h3:∀p∈X.pn++pins,p.1≠it):Inv X pins Z H {s with heap:=h',toks:=t'}:=by
 have nit:∀b u,H b=Wn u->b≠it:=λb u e z=>by rw[z,hn]at e;cases e
 refine I.step (g':=s.gens) (d':=s.drawn) (ch:=[it]) (λb hb=>?_) (λb o _ _ hc e _=>k b o (λz=>hc (by simp[z])) e) (λb o _ _ hc e _=>⟨o.slots,k b o (λz=>hc (by simp[z])) e⟩) (λ_ _ _ _ n=>n)
  (λb o hc e=>⟨o,k b o (λz=>hc (by simp[z])) e⟩) (λ_ _ e=>e) (λ_ _ _ e=>e) (λb ps e=>⟨#[],by rw[e];simp⟩) (λm hm=>?_) (λb u e=>?_) I.bare
 . have e:b=it:=by simpa using hb
   subst e;exact⟨h1,hL,h2,h3⟩
 . obtain⟨o,es,ep,ho,r⟩:=hm;exact⟨o,es,ep,k _ o (YJ hL) ho,r⟩
 . refine(I.hok b u e).stay (λc v hc q=>k c v ?_ q) (λ_ q=>q) λ_ _ q=>q;rcases hc with z|z
   . rw[z];exact nit b u e
   . exact nit c _ z
def Inv.tok(I:Inv X pins Z H s)(t:Nat):Inv X pins Z H {s with toks:=t}:=I.un (h':=s.heap) (t':=t) Un.refl I.hok
theorem Inv.kept{t':Nat}(I:Inv X pins Z H s)(k:∀b u,s.heap.get? b=Wn u->h'.get? b=Wn u):Inv X pins Z H {s with heap:=h',toks:=t'}:=I.un (Un.kept k) (I.hok.kept k)
theorem Inv.laid{a:Yi}{o:HO}{t':Nat}(I:Inv X pins Z H s)(k:∀b u,s.heap.get? b=Wn u->h'.get? b=Wn u)(hp:s.heap.objs.size<=a)(new:Zaq X.prog X.w (upd H a o) h' a o):
 Inv X pins Z (upd H a o) {s with heap:=h',toks:=t'}:=I.un (Un.laid k hp (I.hok.fresh hp)) (I.hok.laid k hp new)
theorem Inv.write(I:Inv X pins Z H s)(mu:Mut (H x))(he:e=x\/H e=Wn (.own x))(k:∀b u,b≠e->s.heap.get? b=Wn u->h'.get? b=Wn u)(heo:∃u,h'.get? e=Wn u)
 (new:Zaq X.prog X.w (upd H x o) h' x o):Inv X pins Z (upd H x o) {s with heap:=h',toks:=t'}:=I.un (Un.write mu he k heo) (I.hok.write mu he k heo new)
def Inv.weak(I:Inv X pins Z H s)(hl:σ'.length=Z.length)(w:∀(i:Nat) v,σ'[i]? = Wn (Wn v)->Z[i]? = Wn (Wn v)):Inv X pins σ' H s:=⟨I.ok,I.os,I.bare,I.base,let ⟨m,hn,hl'⟩:=I.loc;⟨m,hn,λi x v e1 e2 e3=>hl' i x v e1 (w i v e2) e3⟩,I.cell,I.free,I.freeC,I.pin,I.hok,hl.trans I.len⟩
def Inv.pins_of(I:Inv X pins Z H s)(h:∀p∈pins',s.heap.get? p.1=Wn p.2/\H p.1=Wo/\p.1≠X.env.locals/\p.1 ∉ X.fs/\∀v,p.2.data≠.cell v):Inv X pins' Z H s:=⟨I.ok,I.os,I.bare,I.base,I.loc,I.cell,I.free,I.freeC,λp hp=>(OD.mp hp).elim (λz=>I.pin p (Yq _ z)) (h p),I.hok,I.len⟩
def ZiM{N:List Str}(hN:N.Nodup){i j:Nat}{x:Str}(a:N[i]? = Wn x)(b:N[j]? = Wn x):i=j:=by obtain⟨h1,e1⟩:=Ob.mp a;obtain⟨h2,e2⟩:=Ob.mp b;exact(List.getElem_inj hN).mp (e1.trans e2.symm)
def Zku{M:Model}{A:YF}{Q:Unit->Yb->Prop}(I:Inv X pins Z H s)(hN:X.N.Nodup)(hi:X.N[i]? = Wn x)(hx:Loc X.env.scope x)(r:RelV v u)
 (h:∀s',Inv X pins (Z.set i (Wn v)) H s'->(∃a,Heap.SameBut a s.heap s'.heap/\(a=X.env.locals\/X.env.cells.lookup x=Wn a))->Q () s') (hf:X.fn x=Wp\/X.env.scope.names.lookup x=Wn .local:=by first|exact .inl rfl|exact .inr rfl|assumption):Yz M A (storeName X.env x u) Q E s:=by
 obtain⟨m,hn,hl⟩:=id I.loc;have hcls:(X.env.scope.kind==.class || (X.env.scope.kind==.module&&X.env.locals != X.env.globals))=Wq:=by rw[I.ok.kind];rfl
 have hiσ:i<Z.length:=by rw[I.len];exact(Ob.mp hi).1
 have cne:=I.cne;have tracked:∀{a:Yi}{h':YE},(∃o,s.heap.get? a=Wn o/\H a=Wo)->Heap.SameBut a s.heap h'->HOk X.prog X.w H h':=λ{a h'} ha hs b ob e=>by
  obtain⟨_,_,hfree⟩:=ha;refine(I.hok b ob e).stay (λc w' hc q=>(hs.2 c ?_).trans q) (λ_ q=>q) λ_ _ q=>q;rintro rfl;rcases hc with rfl|hc
  . rw[hfree]at e;cases e
  . rw[hfree]at hc;cases hc
 rcases hx with hk|hk
 . refine wpAny_storeName_local hk hn (λh' hn' hs=>?_) hcls;obtain⟨oL,_,_,hoL,_⟩:=id hn;refine h _ ⟨I.ok,I.os,I.bare,⟨λb o e n hb hx=>?_,λb o e n hb hx=>?_,I.base.free,λb o e hx=>?_,I.base.tups,I.base.frzs,I.base.tbls⟩,⟨_,hn',λj y v' e1 e2 e3=>?_⟩,λy c e=>?_,I.free,I.freeC,λp hp=>?_,tracked ⟨oL,hoL,I.free⟩ hs,by simpa using I.len⟩ ⟨_,hs,.inl rfl⟩
   . exact(hs.2 b (Ou (Ot (Ym e) I.ok.above))).trans (I.base.keep b o e n hb hx)
   . obtain⟨sl,e1⟩:=I.base.slot b o e n hb hx;exact⟨sl,(hs.2 b (Ou (Ot (Ym e) I.ok.above))).trans e1⟩
   . obtain⟨o',e1⟩:=I.base.there b o e hx;exact⟨o',(hs.2 b (Ou (Ot (Ym e) I.ok.above))).trans e1⟩
   . by_cases hj:j=i
     . subst hj;rw[hi]at e1;cases e1;rw[Ol hiσ]at e2;cases e2;exact⟨u,r,.inl ⟨hk,by simp⟩⟩
     . rw[Oc (YJ hj)]at e2;obtain⟨u',r',q⟩:=hl j y v' e1 e2 e3;refine⟨u',r',?_⟩;rcases q with ⟨k,e⟩|⟨k,c,e,z⟩
       . refine .inl ⟨k,?_⟩;have:y≠x:=λe=>hj (ZiM hN e1 (e ▸ hi));simp[this,e]
       . exact .inr ⟨k,c,e,z.sameBut hs (cne y c e)⟩
   . obtain⟨w',z⟩:=I.cell y c e;exact⟨w',z.sameBut hs (cne y c e)⟩
   . obtain⟨e,n,ne,nf,d⟩:=I.pin p hp;exact⟨(hs.2 p.1 ne).trans e,n,ne,nf,d⟩
 . have hfn:X.fn x=Wp:=by
    rcases hf with z|z
    . exact z
    . rw[z]at hk;cases hk
   obtain⟨c,hc⟩:=I.ok.has x (.inl hk);obtain⟨w',z⟩:=I.cell x c hc;refine wpAny_storeName_cell I.ok.kind hk hc z (λh' hc' hs=>?_);obtain⟨oc,hoc,hocd⟩:=id z;refine h {s with heap:=h'} ⟨I.ok,I.os,I.bare,⟨λb o e n hb hx=>?_,λb o e n hb hx=>?_,I.base.free,λb o e hx=>?_,I.base.tups,I.base.frzs,I.base.tbls⟩,⟨m,hn.sameBut hs (YJ (cne x c hc)),λj y v' e1 e2 e3=>?_⟩,λy c' e=>?_,I.free,I.freeC,λp hp=>?_,tracked ⟨oc,hoc,I.freeC x c hc⟩ hs,by simpa using I.len⟩ ⟨c,hs,.inr hc⟩
   . exact(hs.2 b (Ou (Ot (Ym e) (I.ok.cab x c hfn hc)))).trans (I.base.keep b o e n hb hx)
   . obtain⟨sl,e1⟩:=I.base.slot b o e n hb hx;exact⟨sl,(hs.2 b (Ou (Ot (Ym e) (I.ok.cab x c hfn hc)))).trans e1⟩
   . obtain⟨o',e1⟩:=I.base.there b o e hx;exact⟨o',(hs.2 b (Ou (Ot (Ym e) (I.ok.cab x c hfn hc)))).trans e1⟩
   . by_cases hj:j=i
     . subst hj;rw[hi]at e1;cases e1;rw[Ol hiσ]at e2;cases e2;exact⟨u,r,.inr ⟨.inl hk,c,hc,hc'⟩⟩
     . rw[Oc (YJ hj)]at e2;obtain⟨u',r',q⟩:=hl j y v' e1 e2 e3;refine⟨u',r',?_⟩;rcases q with q|⟨k,c',e,z'⟩
       . exact .inl q
       . refine .inr ⟨k,c',e,z'.sameBut hs ?_⟩;rintro rfl;exact hj (ZiM hN e1 (I.ok.inj _ _ _ e hc ▸ hi))
   . by_cases hcc:c'=c
     . subst hcc;exact⟨_,hc'⟩
     . obtain⟨w2,z2⟩:=I.cell y c' e;exact⟨w2,z2.sameBut hs hcc⟩
   . obtain⟨e,n,ne,nf,d⟩:=I.pin p hp;refine⟨(hs.2 p.1 ?_).trans e,n,ne,nf,d⟩;intro q;rw[q,hoc]at e;have q':oc=p.2:=YD e;exact d w' (by rw[<- q'];exact hocd)
def Zfn(I:Inv X pins Z H s)(hN:X.N.Nodup)(hi:X.N[i]? = Wn x)(hx:Loc X.env.scope x)(r:RelV v u)
 (h:∀s',Inv X pins (Z.set i (Wn v)) H s'->Q () s') (hf:X.fn x=Wp\/X.env.scope.names.lookup x=Wn .local:=by first|exact .inl rfl|exact .inr rfl|assumption):Yz M A (storeName X.env x u) Q E s:=
 Zku I hN hi hx r (λs' I' _=>h s' I') hf
def Inv.call'(I:Inv X pins Z H s)(ho:s'.os=s.os)(u:Un (frs X.stack) ch H H' s.heap s'.heap)(hok:HOk X.prog X.w H' s'.heap)(hg:AllBare s'.gens)
 (hch:∀b∈ch,(b∈X.ex\/X.s₀.heap.objs.size<=b)/\b≠X.env.locals/\(∀x c,X.env.cells.lookup x=Wn c->c≠b)/\∀p∈X.pn++pins,p.1≠b):Inv X pins Z H' s':=by
 obtain⟨h',g',d',t',o'⟩:=s';have e:o'=s.os:=ho;subst e;exact I.call (g':=g') (t':=t') (d':=d') u hok hg hch
end
abbrev XK:=Yj->Option Yi->Hp->Prop
noncomputable abbrev St:=List (Option V)
abbrev VK:=V->Hp->Prop
abbrev TE:=St->Hp->VK->Prop
abbrev TT:=St->Hp->(Bool->Hp->Prop)->Prop
abbrev TA:=St->Hp->(List V->Hp->Prop)->Prop
structure Ends where
 nx:St->Hp->Prop
 rt:VK
 bk:St->Hp->Prop:=λ_ _=>False
 ct:St->Hp->Prop:=λ_ _=>False
abbrev TS:=Ends->St->Hp->Prop
def EP(X:Cx)(pins:List (Yi×Obj))(Z:St)(Q:VK)(u:Yj)(s':Yb):Prop:=∃v H',Inv X pins Z H' s'/\RelV v u/\Q v H'
def TP(X:Cx)(pins:List (Yi×Obj))(Z:St)(Q:Bool->Hp->Prop)(b:Bool)(s':Yb):Prop:=∃H',Inv X pins Z H' s'/\Q b H'
def AP(X:Cx)(pins:List (Yi×Obj))(Z:St)(Q:List V->Hp->Prop)(us:List Yj)(s':Yb):Prop:=∃vs H',Inv X pins Z H' s'/\Zu vs us/\Q vs H'
def SP(X:Cx)(pins:List (Yi×Obj))(D:Ends)(f:Flow)(s':Yb):Prop:=
 match f with
 |.next=>∃σ' H',Inv X pins σ' H' s'/\D.nx σ' H'
 |.brk=>∃σ' H',Inv X pins σ' H' s'/\D.bk σ' H'
 |.cont=>∃σ' H',Inv X pins σ' H' s'/\D.ct σ' H'
 |.ret u=>∃v σ' H',Inv X pins σ' H' s'/\RelV v u/\D.rt v H'
def PE(X:Cx)(e:Expr)(t:TE):Prop:=∀(pins:List (Yi×Obj)) (s:Yb) (Z:St) (H:Hp) (Q:VK),Inv X pins Z H s->t Z H Q->Yz (model X.prog X.w) X.A (eval e X.env) (EP X pins Z Q) X.xe s
def PT(X:Cx)(e:Expr)(t:TT):Prop:=∀(pins:List (Yi×Obj)) (s:Yb) (Z:St) (H:Hp) (Q:Bool->Hp->Prop),Inv X pins Z H s->t Z H Q->Yz (model X.prog X.w) X.A (isTrue e X.env (eval e X.env)) (TP X pins Z Q) X.xe s
def PW(X:Cx)(e:Expr)(t:TT):Prop:=∀(whole:Sem Yj) (pins:List (Yi×Obj)) (s:Yb) (Z:St) (H:Hp) (Q:Bool->Hp->Prop),Inv X pins Z H s->t Z H Q->Yz (model X.prog X.w) X.A (isTrue e X.env whole) (TP X pins Z Q) X.xe s
def PW.pt(h:PW X e t):PT X e t:=h _
def PA(X:Cx)(es:List Expr)(t:TA):Prop:=∀(pos:Pos) (pins:List (Yi×Obj)) (s:Yb) (Z:St) (H:Hp) (Q:List V->Hp->Prop),Inv X pins Z H s->t Z H Q->Yz (model X.prog X.w) X.A (spliced (YQ pos (Yy es X.env))) (AP X pins Z Q) X.xe s
def PS(X:Cx)(st:Stmt)(t:TS):Prop:=∀(pins:List (Yi×Obj)) (s:Yb) (Z:St) (H:Hp) (D:Ends),Inv X pins Z H s->t D Z H->Yz (model X.prog X.w) X.A (exec st X.env) (SP X pins D) X.xe s
def PSs(X:Cx)(st:List Stmt)(t:TS):Prop:=∀(pins:List (Yi×Obj)) (s:Yb) (Z:St) (H:Hp) (D:Ends),Inv X pins Z H s->t D Z H->Yz (model X.prog X.w) X.A (execs st X.env) (SP X pins D) X.xe s
def thn(h:Yz M A t Q E s)(hQ:∀a s,Q a s->Q' a s):Yz M A t Q' E s:=Yf h hQ λ_ _ x=>x
section
variable {X:Cx}
noncomputable def ZAO(i:Nat):TE:=λZ H Q=>∃v,Z[i]? = Wn (Wn v)/\Q v H
noncomputable def tC(v:V):TE:=λ_ H Q=>Q v H
def Zrz(hN:X.N[i]? = Wn x)(hv:Vis X.env.scope x)(hd:(x==("__debug__" : Str))=Wq:=by decide)(hcd:(x==("__classdict__" : Str))=Wq:=by decide):PE X (.Name x pos) (ZAO i):=by
 intro pins s Z H Q I h;obtain⟨v,e,h⟩:=h;obtain⟨m,hn,hl⟩:=I.loc;obtain⟨u,r,l⟩:=hl i x v hN e hv;have fin:EP X pins Z Q u s:=⟨v,H,I,r,h⟩
 rcases l with ⟨hk,hm⟩|⟨hk,c,hc,hcell⟩
 . exact wpAny_Name (wpAny_loadName_local I.ok.kind hk hn hm fin) hd
 . rcases hk with hk|hk
   . exact wpAny_Name (wpAny_loadName_cell I.ok.kind hk hc hcell fin) hd
   . exact wpAny_Name (wpAny_loadName_free I.ok.kind hk hc hcell fin hcd) hd
def Zw1{i j pos}:PE X (.Constant (.int i) j pos) (tC (.int i)):=λ_ _ _ H _ I h=>wpAny_Constant_int ⟨.int i,H,I.tok _,⟨_,rfl⟩,h⟩
def Zzr{b j pos}:PE X (.Constant (.bool b) j pos) (tC (.bl b)):=λ_ _ _ H _ I h=>Constant_bool ⟨.bl b,H,I,rfl,h⟩
def Zw0{j pos}:PE X (.Constant .none j pos) (tC .non):=λ_ _ _ H _ I h=>Constant_none ⟨.non,H,I,rfl,h⟩
def ZwY{x j pos}:PE X (.Constant (.str x) j pos) (tC (.str x)):=λ_ _ _ H _ I h=>Calls.Constant_str ⟨.str x,H,I.tok _,⟨_,rfl⟩,h⟩
def Gl(X:Cx)(x:Str):Prop:=X.env.kindOf x=Wn .globalImplicit
def ZcB(I:Inv X pins Z H s)(hg:Gl X x)(hm:X.mg x=Wn u)(h:Q u s)
 (hd:(x==("__debug__" : Str))=Wq:=by decide):Yz (model X.prog X.w) X.A (eval (.Name x pos) X.env) Q E s:=
 Calls.Name_function_global I.ok.kind hg (Calls.loadGlobal_global (by rw[I.ok.glob];exact I.mod.glob.keeps I.bk) hm h) hd
def Zdc(I:Inv X pins Z H s)(hg:Gl X x)(hm:X.mg x=Wo)(hv:bootBuiltins x=Wn u)(h:Q u s)
 (hn:x ≠ "__name__" := by decide) (hd:(x==("__debug__" : Str))=Wq:=by decide):Yz (model X.prog X.w) X.A (eval (.Name x pos) X.env) Q E s:=by
 obtain⟨mb,h1,h2⟩:=I.mod.blt;exact Calls.Name_function_global I.ok.kind hg (Calls.loadGlobal_builtin (by rw[I.ok.glob];exact I.mod.glob.keeps I.bk) hm (by rw[I.ok.blt];exact h1.keeps I.bk) ((h2 x hn).trans hv) h) hd
def Zoy(hg:Gl X x)(hm:X.mg x=Wn u)(r:RelV v u)(hd:(x==("__debug__" : Str))=Wq:=by decide):PE X (.Name x pos) (tC v):=λ_ _ _ H _ I h=>ZcB I hg hm ⟨v,H,I,r,h⟩ hd
def ZoA(hg:Gl X x)(hm:X.mg x=Wo)(hv:bootBuiltins x=Wn u)(r:RelV v u)(hn:x ≠ "__name__" := by decide)(hd:(x==("__debug__" : Str))=Wq:=by decide):PE X (.Name x pos) (tC v):=λ_ _ _ H _ I h=>Zdc I hg hm hv ⟨v,H,I,r,h⟩ hn hd
variable {a b:Expr}{ta tb:TE}{pos:Pos}
variable {tA tB':TT}{rest:List Expr}
noncomputable def ZA2(t u:TT):TT:=λZ H Q=>t Z H λc H1=>if c=Wp then u Z H1 Q else Q Wq H1
noncomputable def tOr(t u:TT):TT:=λZ H Q=>t Z H λc H1=>if c=Wp then Q Wp H1 else u Z H1 Q
noncomputable def ZAT(t:TT):TT:=λZ H Q=>t Z H λc H1=>Q (!c) H1
def ZtB(ha:PT X a tA):PW X (.BoolOp .And [a] pos) tA:=by
 intro wh pins s Z H Q I h;refine isTrue_and (thn (ha pins s Z H Q I h) λc s1 e=>?_);cases c with
 |true=>exact isTrue_and_nil e
 |false=>exact e
def ZwL(ha:PT X a tA):PW X (.BoolOp .Or [a] pos) tA:=by
 intro wh pins s Z H Q I h;refine isTrue_or (thn (ha pins s Z H Q I h) λc s1 e=>?_);cases c with
 |false=>exact isTrue_or_nil e
 |true=>exact e
def ZwM(ha:PT X a tA)(hb:PW X (.BoolOp .And (b::rest) pos) tB'):PW X (.BoolOp .And (a::b::rest) pos) (ZA2 tA tB'):=by
 intro wh pins s Z H Q I h;refine isTrue_and (thn (ha pins s Z H _ I h) λc s1 ⟨H1,I1,q1⟩=>?_);cases c with
 |true=>exact hb wh pins s1 Z H1 Q I1 q1
 |false=>exact⟨H1,I1,q1⟩
def Zzi(ha:PT X a tA)(hb:PW X (.BoolOp .Or (b::rest) pos) tB'):PW X (.BoolOp .Or (a::b::rest) pos) (tOr tA tB'):=by
 intro wh pins s Z H Q I h;refine isTrue_or (thn (ha pins s Z H _ I h) λc s1 ⟨H1,I1,q1⟩=>?_);cases c with
 |true=>exact⟨H1,I1,q1⟩
 |false=>exact hb wh pins s1 Z H1 Q I1 q1
def ZwO(ha:PT X a tA):PT X (.UnaryOp .Not a pos) (ZAT tA):=by intro pins s Z H Q I h;exact isTrue_not (ha pins s Z H (λc H1=>Q (!c) H1) I h)
def Zy0(ta tb:TE):TE:=λZ H Q=>ta Z H λx H1=>∃c,x=.bl c/\if c=Wp then tb Z H1 Q else Q (.bl Wq) H1
def ZAS(ta tb:TE):TE:=λZ H Q=>ta Z H λx H1=>∃c,x=.bl c/\if c=Wp then Q (.bl Wp) H1 else tb Z H1 Q
noncomputable def ZyT(ta:TE):TE:=λZ H Q=>ta Z H λx H1=>∃c,x=.bl c/\Q (.bl (!c)) H1
def ZrB{op}(h:PE X a t):PE X (.BoolOp op [a] pos) t:=λpins s Z H Q I hw=>BoolOp_one (h pins s Z H Q I hw)
def Zw6(ha:PE X a ta)(hb:PE X (.BoolOp .And (b::rest) pos) tb):PE X (.BoolOp .And (a::b::rest) pos) (Zy0 ta tb):=by
 intro pins s Z H Q I h;refine BoolOp_and (thn (ha pins s Z H _ I h) λv s1 ⟨x,H1,I1,r1,q1⟩=>?_);obtain⟨c,rfl,q1⟩:=q1;cases r1;refine wpAny_truthy_bool ?_;cases c with
 |true=>exact hb pins s1 Z H1 Q I1 q1
 |false=>exact⟨.bl Wq,H1,I1,rfl,q1⟩
def Zzp(ha:PE X a ta)(hb:PE X (.BoolOp .Or (b::rest) pos) tb):PE X (.BoolOp .Or (a::b::rest) pos) (ZAS ta tb):=by
 intro pins s Z H Q I h;refine BoolOp_or (thn (ha pins s Z H _ I h) λv s1 ⟨x,H1,I1,r1,q1⟩=>?_);obtain⟨c,rfl,q1⟩:=q1;cases r1;refine wpAny_truthy_bool ?_;cases c with
 |false=>exact hb pins s1 Z H1 Q I1 q1
 |true=>exact⟨.bl Wp,H1,I1,rfl,q1⟩
def ZwZ(ha:PE X a ta):PE X (.UnaryOp .Not a pos) (ZyT ta):=by intro pins s Z H Q I h;refine UnaryOp_ (thn (ha pins s Z H _ I h) λv s1 ⟨x,H1,I1,r1,q1⟩=>?_);obtain⟨c,rfl,q1⟩:=q1;cases r1;exact not_of (wpAny_truthy_bool ⟨.bl (!c),H1,I1,rfl,q1⟩)
def tIf(t:TT)(ta tb:TE):TE:=λZ H Q=>t Z H λc H1=>if c=Wp then ta Z H1 Q else tb Z H1 Q
def ZrF(hc:PT X c tA)(ha:PE X a ta)(hb:PE X b tb):PE X (.IfExp c a b pos) (tIf tA ta tb):=by
 intro pins s Z H Q I h;refine wpAny_IfExp (thn (hc pins s Z H _ I h) λd s1 ⟨H1,I1,q1⟩=>?_);cases d with
 |true=>exact ha pins s1 Z H1 Q I1 q1
 |false=>exact hb pins s1 Z H1 Q I1 q1
end
def SqL(K:Yk)(H:Hp)(a:Yi)(xs:List V):Prop:=
 Rd H a (.lst xs) \/
  ∃(o:Obj) (its:Array Yj) (n:Nat),K.lookup a=Wn o/\o.cls=.type "list" /\ o.dict=Wo/\o.data=.seq its n/\its.size<=sizeLine/\Zu xs its.toList
def SqT(K:Yk)(H:Hp)(a:Yi)(xs:List V):Prop:=
 Rd H a (.tup xs) \/
  ∃(o:Obj) (its:Array Yj) (n:Nat),K.lookup a=Wn o/\o.cls=.type "tuple" /\ o.data=.seq its n/\its.size<=sizeLine/\Zu xs its.toList
noncomputable def ZBV:Yj->Option V
 |.none=>Wn .non
 |.bool b=>Wn (.bl b)
 |.int i _=>Wn (.int i)
 |.str x _=>Wn (.str x)
 |.bytes b _=>Wn (.byt b)
 |.float b _=>Wn (.flt b)
 |.ref a=>Wn (.ref a)
 |.type n=>Wn (.ty n)
 |_=>Wo
def RelV.abs(r:RelV x u):ZBV u=Wn x:=by
 cases x with
 |non=>cases r;rfl
 |bl _=>cases r;rfl
 |int _=>obtain⟨t,rfl⟩:=r;rfl
 |str _=>obtain⟨t,rfl⟩:=r;rfl
 |byt _=>obtain⟨t,rfl⟩:=r;rfl
 |flt _=>obtain⟨t,rfl⟩:=r;rfl
 |ref _=>cases r;rfl
 |ty _=>cases r;rfl
def RelV.inj(r:RelV x u)(q:RelV y u):x=y:=YD (r.abs.symm.trans q.abs)
theorem Zu.inj:∀{xs ys:List V}{us:List Yj},Zu xs us->Zu ys us->xs=ys
 |_,_,_,.nil,.nil=>rfl
 |_,_,_,.cons r t,.cons r' t'=>by rw[r.inj r',Zu.inj t t']
section
variable {X:Cx}{pins:List (Yi×Obj)}{Z:St}{H:Hp}{s:Yb}{a:Yi}{xs ys:List V}
def SqL.of{K:Yk}(h:H a=Wn (.lst xs)):SqL K H a xs:=.inl (.inl h)
def Inv.list(I:Inv X pins Z H s)(h:SqL X.K H a xs):∃its:List Yj,Zu xs its/\PlainL s.heap a its.toArray/\xs.length<=sizeLine:=by
 rcases h with h|⟨o,its,n,hk,hc,hd,hs,hz,r⟩
 . obtain⟨z,its,n,r,e⟩:=h.ok I.hok;exact⟨its,r,⟨_,n,e,rfl,rfl,rfl⟩,z⟩
 . refine⟨its.toList,r,⟨o,n,I.kIn a o hk,hc,hd,by simpa using hs⟩,?_⟩;have e:=r.length;simp only[Array.length_toList]at e
   lia
def Inv.tuple(I:Inv X pins Z H s)(h:SqT X.K H a xs):∃its:List Yj,Zu xs its/\IsTup s.heap a its.toArray/\xs.length<=sizeLine:=by
 rcases h with h|⟨o,its,n,hk,hc,hs,hz,r⟩
 . obtain⟨z,its,r,p⟩:=h.ok I.hok;exact⟨its,r,p.tup,z⟩
 . refine⟨its.toList,r,⟨o,I.kIn a o hk,hc,n,by simpa using hs⟩,?_⟩;have e:=r.length;simp only[Array.length_toList]at e
   lia
def Inv.list_inj(I:Inv X pins Z H s)(h:SqL X.K H a xs)(h':SqL X.K H a ys):xs=ys:=by
 obtain⟨its,r,⟨o,n,e,_,_,d⟩,_⟩:=I.list h;obtain⟨its',r',⟨o',n',e',_,_,d'⟩,_⟩:=I.list h';rw[e]at e';cases e';rw[d]at d';injection d' with d1 _;have:its=its':=by simpa using congrArg Array.toList d1
 subst this;exact r.inj r'
def Inv.tuple_inj(I:Inv X pins Z H s)(h:SqT X.K H a xs)(h':SqT X.K H a ys):xs=ys:=by
 obtain⟨its,r,⟨o,e,_,n,d⟩,_⟩:=I.tuple h;obtain⟨its',r',⟨o',e',_,n',d'⟩,_⟩:=I.tuple h';rw[e]at e';cases e';rw[d]at d';injection d' with d1 _;have:its=its':=by simpa using congrArg Array.toList d1
 subst this;exact r.inj r'
end
noncomputable abbrev Cx.wish(X:Cx)(E:Yj->Yb->Prop):Cx:={X with xe:=E}
abbrev Cx.nox(X:Cx):Cx:=X.wish λ_ _=>False
theorem Cx.Ok.wish{X:Cx}(ok:X.Ok)(E:Yj->Yb->Prop):(X.wish E).Ok:=⟨ok.mod,ok.kind,ok.glob,ok.blt,ok.above,ok.inj,ok.has,ok.cab,ok.hd,ok.frames,ok.stk,ok.exf,ok.bs,ok.bsz,ok.noex,ok.exfs,ok.funs,ok.frf⟩
def Cx.Ok.unwish{X:Cx}{E:Yj->Yb->Prop}(ok:(X.wish E).Ok):X.Ok:=⟨ok.mod,ok.kind,ok.glob,ok.blt,ok.above,ok.inj,ok.has,ok.cab,ok.hd,ok.frames,ok.stk,ok.exf,ok.bs,ok.bsz,ok.noex,ok.exfs,ok.funs,ok.frf⟩
section
variable {X:Cx}{pins:List (Yi×Obj)}{Z:St}{H:Hp}{s:Yb}{E:Yj->Yb->Prop}
theorem Inv.wish(I:Inv X pins Z H s)(E:Yj->Yb->Prop):Inv (X.wish E) pins Z H s:=⟨I.ok.wish E,I.os,I.bare,I.base,I.loc,I.cell,I.free,I.freeC,I.pin,I.hok,I.len⟩
theorem Inv.unwish(I:Inv (X.wish E) pins Z H s):Inv X pins Z H s:=⟨I.ok.unwish,I.os,I.bare,I.base,I.loc,I.cell,I.free,I.freeC,I.pin,I.hok,I.len⟩
end
section
variable {X:Cx}{st:Stmt}{rest:List Stmt}{t u:TS}{e:Expr}{te:TE}{pos:Pos}
noncomputable def Zvo:TS:=λD Z H=>D.nx Z H
noncomputable def ZAQ(t u:TS):TS:=λD Z H=>t {D with nx:=u D} Z H
def ZtE:PSs X [] Zvo:=λ_ _ Z H _ I h=>wpAny_execs_nil ⟨Z,H,I,h⟩
def Zrr(h1:PS X st t)(h2:PSs X rest u):PSs X (st::rest) (ZAQ t u):=by
 intro pins s Z H D I h;refine wpAny_execs_cons (thn (h1 pins s Z H {D with nx:=u D} I h) λf s1 q=>?_);cases f with
 |next=>obtain⟨σ',H',I',q⟩:=q;exact h2 pins s1 σ' H' D I' q
 |ret v=>exact q
 |brk=>exact q
 |cont=>exact q
def ZtD(h1:PS X st t):PSs X [st] t:=by
 intro pins s Z H D I h;refine wpAny_execs_cons (thn (h1 pins s Z H D I h) λf s1 q=>?_);cases f with
 |next=>exact wpAny_execs_nil q
 |ret v=>exact q
 |brk=>exact q
 |cont=>exact q
noncomputable def Zwu:TS:=λD Z H=>D.bk Z H
noncomputable def ZyX:TS:=λD Z H=>D.ct Z H
def ZtF:PS X (.Pass pos) Zvo:=λ_ _ Z H _ I h=>wpAny_Pass ⟨Z,H,I,h⟩
def Zrt:PS X (.Break pos) Zwu:=λ_ _ Z H _ I h=>wpAny_Break ⟨Z,H,I,h⟩
def Zmb:PS X (.Continue pos) ZyX:=λ_ _ Z H _ I h=>wpAny_Continue ⟨Z,H,I,h⟩
def Inv.quiet(I:Inv X pins Z H s):interactive X.env=Wq:=by simp[interactive,I.ok.kind]
noncomputable def ZyV(te:TE):TS:=λD Z H=>te Z H λ_ H1=>D.nx Z H1
def ZtG(he:PE X e te)(hs:swapsWith e Wo pos.line X.env=pure Wq:=by rfl):PS X (.Expr e pos) (ZyV te):=by intro pins s Z H D I h;exact wpAny_Expr_any (thn (he pins s Z H _ I h) λv s1 ⟨x,H1,I1,r1,q1⟩=>⟨Z,H1,I1,q1⟩) I.quiet hs
noncomputable def ZAR(te:TE):TS:=λD Z H=>te Z H D.rt
def ZwP(he:PE X e te):PS X (.Return (Wn e) pos) (ZAR te):=by intro pins s Z H D I h;exact wpAny_Return_some (thn (he pins s Z H _ I h) λv s1 ⟨x,H1,I1,r1,q1⟩=>⟨x,Z,H1,I1,r1,q1⟩)
noncomputable def ZAW(c:TT)(t u:TS):TS:=λD Z H=>c Z H λb H1=>if b=Wp then t D Z H1 else u D Z H1
def Zzn(hc:PT X c tc)(ha:PSs X a t)(hb:PSs X b u):PS X (.If c a b pos) (ZAW tc t u):=by
 intro pins s Z H D I h;refine wpAny_If (thn (hc pins s Z H _ I h) λd s1 ⟨H1,I1,q1⟩=>?_);cases d with
 |true=>exact ha pins s1 Z H1 D I1 q1
 |false=>exact hb pins s1 Z H1 D I1 q1
end
abbrev TG:=V->St->Hp->(St->Hp->Prop)->Prop
abbrev TGs:=List V->St->Hp->(St->Hp->Prop)->Prop
def PG(X:Cx)(target:Expr)(t:TG):Prop:=
 ∀(pins:List (Yi×Obj)) (s:Yb) (Z:St) (H:Hp) (v:V) (u:Yj) (Q:St->Hp->Prop),Inv X pins Z H s->RelV v u->t v Z H Q ->
  Yz (model X.prog X.w) X.A (assign target X.env u) (λ_ s'=>∃σ' H',Inv X pins σ' H' s'/\Q σ' H') X.xe s
def PGs(X:Cx)(ts:List Expr)(t:TGs):Prop:=
 ∀(pins:List (Yi×Obj)) (s:Yb) (Z:St) (H:Hp) (vs:List V) (us:List Yj) (Q:St->Hp->Prop),Inv X pins Z H s->Zu vs us->t vs Z H Q ->
  Yz (model X.prog X.w) X.A (assignInOrder ((assignEach ts X.env).map (·.2)) us) (λ_ s'=>∃σ' H',Inv X pins σ' H' s'/\Q σ' H') X.xe s
abbrev Zvf:=V->V->V->Hp->(Hp->Prop)->Prop
def Zvg(X:Cx)(t:Zvf):Prop:=
 ∀(pins:List (Yi×Obj)) (s:Yb) (Z:St) (H:Hp) (o i v:V) (ov iv u:Yj) (Q:Hp->Prop),Inv X pins Z H s->RelV o ov->RelV i iv->RelV v u->t o i v H Q ->
  Yz (model X.prog X.w) X.A (setItem ov iv u) (λ_ s'=>∃H',Inv X pins Z H' s'/\Q H') X.xe s
abbrev TIp:=V->V->Hp->VK->Prop
def PIp(X:Cx)(op:Operator)(t:TIp):Prop:=
 ∀(pins:List (Yi×Obj)) (s:Yb) (Z:St) (H:Hp) (x y:V) (v u:Yj) (Q:VK),Inv X pins Z H s->RelV x v->RelV y u->t x y H Q ->
  Yz (model X.prog X.w) X.A (inplaceOp op v u) (EP X pins Z Q) X.xe s
section
variable {X:Cx}{pos:Pos}
noncomputable def ZcQ(i:Nat):TG:=λv Z H Q=>Q (Z.set i (Wn v)) H
def Zox(hN:X.N.Nodup)(hi:X.N[i]? = Wn x)(hx:Loc X.env.scope x)(hf:X.fn x=Wp\/X.env.scope.names.lookup x=Wn .local:=by first|exact .inl rfl|exact .inr rfl|assumption):PG X (.Name x pos) (ZcQ i):=by intro pins s Z H v u Q I r h;exact wpAny_assign_Name (Zfn I hN hi hx r (λs' I'=>⟨_,H,I',h⟩) hf)
noncomputable def ZuC:TGs:=λvs Z H Q=>vs=[]/\Q Z H
noncomputable def ZmB(t:TG)(u:TGs):TGs:=λvs Z H Q=>∃v r,vs=v::r/\t v Z H λσ' H'=>u r σ' H' Q
def Zov:PGs X [] ZuC:=by intro pins s Z H vs us Q I r h;obtain⟨e,h⟩:=h;subst e;cases r;exact assignInOrder_nil ⟨Z,H,I,h⟩
def ZiH(h1:PG X e t)(h2:PGs X es u)
 (hs:(assignEach (e::es) X.env).map (·.2)=assign e X.env::(assignEach es X.env).map (·.2):=by rfl):PGs X (e::es) (ZmB t u):=by
 intro pins s Z H vs us Q I r h;obtain⟨v,vr,e1,h⟩:=h;subst e1;cases r with
 |cons r rr=>rw[hs];refine assignInOrder_cons (thn (h1 pins s Z H _ _ _ I r h) λ_ s1 ⟨σ1,H1,I1,q1⟩=>?_);exact h2 pins s1 σ1 H1 _ _ Q I1 rr q1
noncomputable def ZuB(K:Yk)(n:Nat)(t:TGs):TG:=λv Z H Q=>∃a xs,v=.ref a/\SqT K H a xs/\xs.length=n/\t xs Z H Q
def Zry(hc:X.calm=Wp)(h:PGs X es t)
 (hn:(assignEach es X.env).length=n:=by rfl) (hst:(assignEach es X.env).findIdx? (·.1)=Wo:=by rfl):PG X (.Tuple es k pos) (ZuB X.K n t):=by
 intro pins s Z H v u Q I r hw;obtain⟨a,xs,e1,hq,hl,hw⟩:=hw;subst e1;cases r;obtain⟨its,rv,ht,hz⟩:=I.tuple hq;refine assign_Tuple_tuple (I.ok.hd hc) ht (by simp[hn,<- hl,rv.length]) hst λh' hx=>?_;have I1:Inv X pins Z H {s with heap:=h'}:=I.kept (t':=s.toks) λb o e=>hx b o (Ou (Ym e)) e;exact h pins _ Z H xs _ Q I1 (by simpa using rv) hw
noncomputable def ZBy(to ti:TE)(t:Zvf):TG:=λv Z H Q=>to Z H λo H1=>ti Z H1 λi H2=>t o i v H2 λH3=>Q Z H3
def ZwW(ho:PE X o to)(hi:PE X i ti)(hs:Zvg X t)
 (ha:∀v,assign (.Subscript o i pos) X.env v=(do
  let ov <- holding [v] (eval o X.env);let iv <- holding [v,ov] (eval i X.env)
  standAt pos
  holding [v,ov,iv] (setItem ov iv v)
  release [v,ov,iv] []):=by intro _;rfl):PG X (.Subscript o i pos) (ZBy to ti t):=by
 intro pins s Z H v u Q I r h;rw[ha];refine Ya (Wa (thn (ho pins s Z H _ I h) λov s1 ⟨x,H1,I1,r1,q1⟩=>?_));refine Ya (Wa (thn (hi pins s1 Z H1 _ I1 q1) λiv s2 ⟨y,H2,I2,r2,q2⟩=>?_));refine Ya (wpAny_standAt (Ya (Wa (thn (hs pins s2 Z H2 x y v ov iv u _ I2 r1 r2 r q2) λ_ s3 ⟨H3,I3,q3⟩=>?_))));exact wpAny_release ⟨Z,H3,I3,q3⟩
noncomputable def Znd(te:TE)(g:TG):TS:=λD Z H=>te Z H λx H1=>g x Z H1 D.nx
def Zru(he:PE X e te)(hg:PG X tg g)(hs:swapsWithSole [tg] e pos.line X.env=pure Wq:=by rfl)(hw:swappedStores [tg] e X.env=pure Wo:=by rfl)
 (h1:(assignEach [tg] X.env).map (·.2)=[assign tg X.env]:=by rfl):PS X (.Assign [tg] e pos) (Znd te g):=by
 intro pins s Z H D I h;refine wpAny_Assign_stores (thn (he pins s Z H _ I h) λv s1 ⟨x,H1,I1,r1,q1⟩=>?_) hs hw;rw[h1];exact thn (hg pins s1 Z H1 x v _ I1 r1 q1) λ_ s2 q=>q
def Znp(hN:X.N.Nodup)(hi:X.N[i]? = Wn x)(hx:Loc X.env.scope x)(he:PE X e te)(hs:swapsWith e (Wn (.Name x pos')) pos.line X.env=pure Wq:=by rfl)(hf:X.fn x=Wp\/X.env.scope.names.lookup x=Wn .local:=by first|exact .inl rfl|exact .inr rfl|assumption):
 PS X (.Assign [.Name x pos'] e pos) (Znd te (ZcQ i)):=by
 intro pins s Z H D I h;refine wpAny_Assign_Name (thn (he pins s Z H _ I h) λv s1 ⟨y,H1,I1,r1,q1⟩=>?_) hs;exact Zfn I1 hN hi hx r1 (λs2 I2=>⟨_,H1,I2,q1⟩) hf
noncomputable def ZA1(i:Nat)(te:TE)(ti:TIp):TS:=λD Z H=>∃x,Z[i]? = Wn (Wn x)/\te Z H λy H1=>ti x y H1 λz H2=>D.nx (Z.set i (Wn z)) H2
def ZwS(hN:X.N.Nodup)(hi:X.N[i]? = Wn x)(hx:Loc X.env.scope x)(he:PE X e te)(ho:PIp X op ti)(hf:X.fn x=Wp\/X.env.scope.names.lookup x=Wn .local:=by first|exact .inl rfl|exact .inr rfl|assumption):
 PS X (.AugAssign (.Name x pos') op e pos) (ZA1 i te ti):=by
 intro pins s Z H D I h;obtain⟨v,e1,h⟩:=h;obtain⟨m,hn,hl⟩:=I.loc;have vis:Vis X.env.scope x:=by rcases hx with k|k;exact .inl k;exact .inr (.inl k)
 obtain⟨u,r,l⟩:=hl i x v hi e1 vis;refine wpAny_AugAssign_Name ?_;have go:Yz (model X.prog X.w) X.A (eval e X.env) (λw s₂=>Yz (model X.prog X.w) X.A (inplaceOp op u w) (λr s₃=>Yz (model X.prog X.w) X.A (storeName X.env x r) (λ_=>SP X pins D .next) X.xe s₃) X.xe s₂) X.xe s:=by refine thn (he pins s Z H _ I h) λw s1 ⟨y,H1,I1,r1,q1⟩=>?_;refine thn (ho pins s1 Z H1 v y u w _ I1 r r1 q1) λz s2 ⟨zv,H2,I2,r2,q2⟩=>?_;exact Zfn I2 hN hi hx r2 (λs3 I3=>⟨_,H2,I3,q2⟩) hf
 rcases l with ⟨hk,hm⟩|⟨hk,c,hc,hcell⟩
 . exact wpAny_loadName_local I.ok.kind hk hn hm go
 . rcases hk with hk|hk
   . exact wpAny_loadName_cell I.ok.kind hk hc hcell go
   . rcases hx with k|k
     . have:X.env.scope.names.lookup x=Wn .free:=hk;rw[k]at this;cases this
     . have:X.env.scope.names.lookup x=Wn .free:=hk;rw[k]at this;cases this
noncomputable def ipI(f:Int->Int->Int):TIp:=λx y H Q=>∃i j,x=.int i/\y=.int j/\Q (.int (f i j)) H
def ZxF:PIp X .Add (ipI λi j=>i+j):=by intro pins s Z H x y v u Q I r1 r2 h;obtain⟨i,j,e1,e2,q⟩:=h;subst e1;subst e2;obtain⟨t,rfl⟩:=r1;obtain⟨t',rfl⟩:=r2;exact iadd_int ⟨.int _,H,I.tok _,⟨_,rfl⟩,q⟩
def ZqP(c:TT)(tb:TS):TS:=λD Z H=>∃W:Nat->St->Hp->Prop,(∃m,W m Z H)/\∀m Z H,W m Z H ->
 c Z H λb H1=>if b=Wp then ∃N:St->Hp->Prop,(∀σ' H',N σ' H'->∃m',m'<m/\W m' σ' H')/\tb {D with nx:=N,ct:=N,bk:=D.nx} Z H1 else D.nx Z H1
def Zrs(hp:PassesOwn (model X.prog X.w) X.A X.env X.xe)(hc:PT X c tc)(hb:PSs X body tb):PS X (.While c body [] pos) (ZqP tc tb):=by
 intro pins s Z H D I h;obtain⟨W,⟨m0,w0⟩,turn⟩:=h;refine wpAny_While (codeAny_whileLoop (λn s'=>∃σ' H',Inv X pins σ' H' s'/\W n σ' H') ?_ m0 ⟨Z,H,I,w0⟩);rintro n s1 ⟨σ1,H1,I1,w1⟩;refine wpAny_passesOwn hp (thn (hc pins s1 σ1 H1 _ I1 (turn n σ1 H1 w1)) λb s2 ⟨H2,I2,q2⟩=>?_);cases b with
 |true=>
  obtain⟨N,hN,q2⟩:=q2;rw[if_pos rfl];refine wpAny_passesOwn hp (thn (hb pins s2 σ1 H2 _ I2 q2) λf s3 q3=>?_);cases f with
  |next=>obtain⟨σ3,H3,I3,n3⟩:=q3;obtain⟨m',hm,w3⟩:=hN σ3 H3 n3;exact⟨m',hm,σ3,H3,I3,w3⟩
  |cont=>obtain⟨σ3,H3,I3,n3⟩:=q3;obtain⟨m',hm,w3⟩:=hN σ3 H3 n3;exact⟨m',hm,σ3,H3,I3,w3⟩
  |brk=>exact q3
  |ret v=>exact q3
 |false=>rw[if_neg Ow];exact wpAny_execs_nil ⟨σ1,H2,I2,q2⟩
end
structure It where
 go:Nat->Hp->Prop
 yld:Nat->Hp->V->Hp->Prop
 stop:Nat->Hp->Prop
def Zc4(X:Cx)(pins:List (Yi×Obj))(H:Hp)(b:Yi):Prop:=H b=Wo/\b≠X.env.locals/\b ∉ X.fs/\(b∈X.ex\/X.s₀.heap.objs.size<=b)/\(∀x c,X.env.cells.lookup x=Wn c->c≠b)/\∀p∈X.pn++pins,p.1≠b
def Inv.fpOk(I:Inv X pins Z H s)(hb:s.heap.objs.size<=b)(hn:H' b=Wo):Zc4 X pins H' b:=by
 refine⟨hn,Nat.ne_of_gt (Ot I.lt hb),I.nofs hb,.inr (OE I.sz hb),λx c e z=>?_,λp hp z=>?_⟩
 . obtain⟨v,q⟩:=I.cell x c e;exact absurd (Ot q.lt (by rw[z];exact hb)) (Yu _)
 . exact absurd (Ot (Ym (I.pin p hp).1) (by rw[z];exact hb)) (Yu _)
structure Turn(P:Yh)(w:Yg)(K:Yk)(tg:Expr)(J:It)(fp:List Yi)(it:Yi)(tn:Nat->YE->Prop):Prop where
 mem:it∈fp
 obj:∀i h,tn i h->∀b∈fp,∃o,h.get? b=Wn o/\∀v,o.data≠.cell v
 keep:∀i h h',tn i h->(∀b∈fp,∀o,h.get? b=Wn o->h'.get? b=Wn o)->tn i h'
 item:∀(X:Cx),X.prog=P->X.w=w->X.K=K->X.calm=Wp->∀(i:Nat) (pins:List (Yi×Obj)) (s:Yb) (Z:St) (H:Hp) (E:Yj->Yb->Prop),Inv X pins Z H s->(∀b∈fp,Zc4 X pins H b)->tn i s.heap->J.go i H ->
  Yz (model P w) X.A (pyNext (.ref it)) (λr s1=>∃u,r=Wn u /\
   Yz (model P w) X.A (letOwnedTupleGo tg (.ref it) u) (λ_ s2=>∃x H',Inv X pins Z H' s2/\RelV x u/\J.yld i H x H'/\tn (i+1) s2.heap/\∀b∈fp,H' b=Wo) E s1) E s
 done:∀(X:Cx),X.prog=P->X.w=w->X.K=K->X.calm=Wp->∀(i:Nat) (pins:List (Yi×Obj)) (s:Yb) (Z:St) (H:Hp) (E:Yj->Yb->Prop),Inv X pins Z H s->(∀b∈fp,Zc4 X pins H b)->tn i s.heap->J.stop i H ->
  Yz (model P w) X.A (pyNext (.ref it)) (λr s1=>r=Wo/\Inv X pins Z H s1) E s
 self:∀(A:YF) (i:Nat) (s:Yb) (Q:Yj->Yb->Prop) (E:Yj->Yb->Prop),tn i s.heap->Q (.ref it) s->Yz (model P w) A (pyIter (.ref it)) Q E s
abbrev TI:=St->Hp->(It->Hp->Prop)->Prop
def PIE(X:Cx)(pins:List (Yi×Obj))(Z:St)(tg:Expr)(R:It->Hp->Prop)(itv:Yj)(s2:Yb):Prop:=∃(it:Yi) (fp:List Yi) (tn:Nat->YE->Prop) (J:It) (H':Hp),itv=.ref it/\Inv X pins Z H' s2/\Turn X.prog X.w X.K tg J fp it tn/\tn 0 s2.heap/\(∀b∈fp,Zc4 X pins H' b)/\R J H'
def PI(X:Cx)(tg iter:Expr)(wi:TI):Prop:=
 ∀(pins:List (Yi×Obj)) (s:Yb) (Z:St) (H:Hp) (R:It->Hp->Prop),Inv X pins Z H s->wi Z H R ->
  Yz (model X.prog X.w) X.A (eval iter X.env) (λv s1=>Yz (model X.prog X.w) X.A (pyIter v) (PIE X pins Z tg R) X.xe s1) X.xe s
theorem Zmz(ho:s.heap.get? it=Wn o)(hc:o.cls=.type n)(hd:o.data=.fields vs)
   (hn:["enumerate", "zip", "dict_itemiterator", "dict_reverseitemiterator", "odict_iterator", "itertools.zip_longest", "itertools.pairwise"].contains n=Wq) (hQ:Q () s):Yz M A (letOwnedTupleGo tg (.ref it) u) Q E s:=by
 unfold letOwnedTupleGo;cases tg<;>first
   | exact Yc hQ
   | (cases u<;>first
       | exact Yc hQ
       | (refine Ya (wpAny_load ho ?_)
          rw [hc,hd];show Yz M A (if (["enumerate", "zip", "dict_itemiterator", "dict_reverseitemiterator", "odict_iterator", "itertools.zip_longest", "itertools.pairwise"].contains n&&vs[0]?==Wn (rawInt _))=Wp then _ else _) Q E s;rw [if_neg (by intro h;rw [hn,Bool.false_and] at h;cases h)];exact Yc hQ))
noncomputable def Itl(K:Yk)(a:Yi):It:=⟨λi H=>∃xs x,SqL K H a xs/\xs[i]? = Wn x,λi H x H'=>H'=H/\∀xs,SqL K H a xs->xs[i]? = Wn x,λi H=>∃xs,SqL K H a xs/\xs.length<=i⟩
noncomputable def Itt(K:Yk)(a:Yi):It:=⟨λi H=>∃xs x,SqT K H a xs/\xs[i]? = Wn x,λi H x H'=>H'=H/\∀xs,SqT K H a xs->xs[i]? = Wn x,λi H=>∃xs,SqT K H a xs/\xs.length<=i⟩
noncomputable def Itr(lo:Int)(n:Nat):It:=⟨λi _=>i<n,λi H x H'=>H'=H/\x=.int (lo+i),λi _=>n<=i⟩
def ZpI{P:Yh}{w:Yg}{K:Yk}{tg:Expr}(a it:Yi):Turn P w K tg (Itl K a) [it] it (λi h=>h.IsListIter it a i) where
 mem:=by simp
 obj:=λi h st b hb=>by
  have e:b=it:=by simpa using hb
  subst e;obtain⟨o,e,c,d⟩:=st;exact⟨o,e,λv z=>by rw[d]at z;cases z⟩
 keep:=λi h h' st k=>st.at λo e=>k it (by simp) o e
 item:=by intro X hP hw hK hc i pins s Z H E I hf st hg;subst hP hw hK;obtain⟨xs,x,hq,hx⟩:=hg;obtain⟨its,rv,p,hz⟩:=I.list hq;obtain⟨u,hu,ru⟩:=rv.get hx;obtain⟨f0,f1,f2,f3,f4,f5⟩:=hf it (by simp);refine wpAny_pyNext_list_item st p.isList (x:=u) (by simpa using hu) λh' st' sb=>?_;have I1:Inv X pins Z H {s with heap:=h'}:=I.turned (t':=s.toks) (λb o hb e=>(sb.2 b hb).trans e) f0 f1 f3 f4 f5;obtain⟨o,e,c,d⟩:=id st';exact⟨u,rfl,Zmz (s:={s with heap:=h'}) e c d (by decide) ⟨x,H,I1,ru,⟨rfl,λys hy=>by rw[I.list_inj hy hq];exact hx⟩,st',λb hb=>(hf b hb).1⟩⟩
 done:=by intro X hP hw hK hc i pins s Z H E I hf st hg;subst hP hw hK;obtain⟨xs,hq,hx⟩:=hg;obtain⟨its,rv,p,hz⟩:=I.list hq;obtain⟨f0,f1,f2,f3,f4,f5⟩:=hf it (by simp);have hl:=rv.length;exact wpAny_pyNext_list_end (I.ok.hd hc) st p.isList (by simp;lia) λh' eb=>⟨rfl,I.turned (t':=s.toks) (λb o hb e=>eb b o hb e) f0 f1 f3 f4 f5⟩
 self:=λ_ _ _ _ _ st h=>wpAny_pyIter_listiter st h
def Zna{P:Yh}{w:Yg}{K:Yk}{tg:Expr}(a it:Yi):Turn P w K tg (Itt K a) [it] it (λi h=>h.IsTupleIter it a i) where
 mem:=by simp
 obj:=λi h st b hb=>by
  have e:b=it:=by simpa using hb
  subst e;obtain⟨o,e,c,d⟩:=st;exact⟨o,e,λv z=>by rw[d]at z;cases z⟩
 keep:=λi h h' st k=>st.at λo e=>k it (by simp) o e
 item:=by intro X hP hw hK hc i pins s Z H E I hf st hg;subst hP hw hK;obtain⟨xs,x,hq,hx⟩:=hg;obtain⟨its,rv,p,hz⟩:=I.tuple hq;obtain⟨u,hu,ru⟩:=rv.get hx;obtain⟨f0,f1,f2,f3,f4,f5⟩:=hf it (by simp);refine wpAny_pyNext_tuple_item st (show s.heap.IsTuple a its.toArray from p) (x:=u) (by simpa using hu) λh' st' sb=>?_;have I1:Inv X pins Z H {s with heap:=h'}:=I.turned (t':=s.toks) (λb o hb e=>(sb.2 b hb).trans e) f0 f1 f3 f4 f5;obtain⟨o,e,c,d⟩:=id st';exact⟨u,rfl,Zmz (s:={s with heap:=h'}) e c d (by decide) ⟨x,H,I1,ru,⟨rfl,λys hy=>by rw[I.tuple_inj hy hq];exact hx⟩,st',λb hb=>(hf b hb).1⟩⟩
 done:=by intro X hP hw hK hc i pins s Z H E I hf st hg;subst hP hw hK;obtain⟨xs,hq,hx⟩:=hg;obtain⟨its,rv,p,hz⟩:=I.tuple hq;obtain⟨f0,f1,f2,f3,f4,f5⟩:=hf it (by simp);have hl:=rv.length;exact wpAny_pyNext_tuple_end (I.ok.hd hc) st (show s.heap.IsTuple a its.toArray from p) (by simp;lia) λh' eb=>⟨rfl,I.turned (t':=s.toks) (λb o hb e=>eb b o hb e) f0 f1 f3 f4 f5⟩
 self:=λ_ _ _ _ _ st h=>wpAny_pyIter_tupleiter st h
theorem Znb{P:Yh}{w:Yg}{K:Yk}{tg:Expr}(it:Yi)(lo:Int)(n:Nat):Turn P w K tg (Itr lo n) [it] it (fun i h=>IsRangeIter h it (lo+(i:Nat) * 1) ((n:Int) - (i:Nat)) 1) where
 mem:=by simp
 obj:=fun i h st b hb=>by
   have e:b=it:=by simpa using hb
   subst e;exact ⟨_,st,fun v z=>by
     have z':Data.fields _=Data.cell v:=z;cases z'⟩
 keep:=fun i h h' st k=>k it (by simp) _ st
 item:=by
   intro X hP hw hK hc i pins s Z H E I hf st hg;subst hP hw hK;obtain ⟨f0,f1,f2,f3,f4,f5⟩:=hf it (by simp);have W:=Walks.range (prog:=X.prog) (w:=X.w) (I.ok.hd hc) it lo 1 n;refine W.item i s _ _ hg st fun v h' tk hv st' kk=>?_;obtain ⟨t,rfl⟩:=hv;have I1:Inv X pins Z H {s with heap:=h',toks:=tk}:=I.turned (fun b o hb e=>kk b o (by simpa using hb) e) f0 f1 f3 f4 f5;refine ⟨_,rfl,Zmz (s:={s with heap:=h',toks:=tk}) (n := "range_iterator") st' rfl rfl (by decide) ⟨.int (lo+i),H,I1,⟨t,?_⟩,⟨rfl,rfl⟩,st',fun b hb=>(hf b hb).1⟩⟩;rw [Int.mul_one]
 done:=by
   intro X hP hw hK hc i pins s Z H E I hf st hg;subst hP hw hK;obtain ⟨f0,f1,f2,f3,f4,f5⟩:=hf it (by simp);exact wpAny_pyNext_range_end (I.ok.hd hc) st (by have:n<=i:=hg;lia) fun h' eb=>⟨rfl,I.turned (t':=s.toks) (fun b o hb e=>eb b o hb e) f0 f1 f3 f4 f5⟩
 self:=fun _ _ _ _ _ st h=>wpAny_pyIter_rangeiter st h
section
variable {X:Cx}{tg:Expr}
def Zrb{pins:List (Yi×Obj)}{Z:St}{H:Hp}{s:Yb}{R:It->Hp->Prop}{E:Yj->Yb->Prop}{lo hi:Int}{t u v:Tok}{tk:Nat}(I:Inv X pins Z H s)(h1:-(2 ^ 62)<=lo)(h2:lo<2 ^ 62)(h3:-(2 ^ 62)<=hi)(h4:hi<2 ^ 62)
 (q:R (Itr lo (hi - lo).toNat) H):Yz (model X.prog X.w) X.A (pyIter (.ref s.heap.objs.size)) (PIE X pins Z tg R) E {s with heap:=s.heap.push {cls:=.type "range",data:=.fields #[.int lo t,.int hi u,.int 1 v]},toks:=tk}:=by
 refine wpAny_pyIter_range (IsRange.new ..) (small_one h1 h2 h3 h4) ?_;have I1:Inv X pins Z H {s with heap:=s.heap.push {cls:=.type "range",data:=.fields #[.int lo t,.int hi u,.int 1 v]},toks:=tk}:=I.kept λb o e=>Od _ e;refine⟨(s.heap.push {cls:=.type "range",data:=.fields #[.int lo t,.int hi u,.int 1 v]}).objs.size,[(s.heap.push {cls:=.type "range",data:=.fields #[.int lo t,.int hi u,.int 1 v]}).objs.size],_,_,H,rfl,
  I1.kept (t':=tk) λb o e=>Od _ e,Znb _ lo (hi - lo).toNat,?_,λb hb=>?_,q⟩
 . have e1:lo+((0:Nat):Int) * 1=lo:=by simp
   have e2:(((hi - lo).toNat:Nat):Int) - ((0:Nat):Int)=Builtin.Range.rangeSize lo hi 1:=by rw[rangeSize_one];split<;>lia
   show IsRangeIter _ _ (lo+((0:Nat):Int) * 1) ((((hi - lo).toNat:Nat):Int) - ((0:Nat):Int)) 1;rw[e1,e2];exact Oj _ rfl
 . have e:b=(s.heap.push {cls:=.type "range",data:=.fields #[.int lo t,.int hi u,.int 1 v]}).objs.size:=by simpa using hb
   subst e;exact I1.fpOk (Oq _) (I1.hok.fresh (Oq _))
def Zz1(ta:TA):TI:=λZ H R=>ta Z H λvs H1=>∃j:Int,vs=[.int j]/\-(2 ^ 62)<=j/\j<2 ^ 62/\R (Itr 0 j.toNat) H1
def ZpX{a:Expr}{ta:TA}{p pos:Pos}(hg:Gl X "range")(hm:X.mg "range" = Wo)(ha:PA X [a] ta)(hs:Yy [a] X.env=[(Wq,eval a X.env)]:=by rfl):PI X tg (.Call (.Name "range" p) [a] [] pos) (Zz1 ta):=by
 intro pins s Z H R I h;refine Call_ (Zdc I hg hm boot_range (PyProof.Rows.callWith_type1 (thn (ha pos pins s Z H _ I h) λus s1 ⟨vs,H1,I1,r1,q1⟩=>?_) hs rfl));obtain⟨j,e,q1,q2,q⟩:=q1;subst e;cases r1 with
 |cons r rr=>cases rr;obtain⟨t,rfl⟩:=r;exact call_range_1 (Zrb I1 (by lia) (by lia) q1 q2 (by simpa using q))
def ZAX(wi:TI)(g:TG)(tb:TS):TS:=λD Z H=>wi Z H λJ H1=>∃W:Nat->Nat->St->Hp->Prop,(∃m,W 0 m Z H1)/\∀i m Z H,W i m Z H ->
 (J.stop i H/\D.nx Z H)\/(J.go i H/\∃N:St->Hp->Prop,(∀σ' H',N σ' H'->∃m',m'<m/\W (i+1) m' σ' H')/\∀x H',J.yld i H x H'->g x Z H' λσ2 H2=>tb {D with nx:=N,ct:=N,bk:=D.nx} σ2 H2)
noncomputable def ZiG(fp:List Yi)(h:YE):List (Yi×Obj):=fp.filterMap λb=>(h.get? b).map λo=>(b,o)
def Zcz(hb:b∈fp)(e:h.get? b=Wn o):(b,o)∈ZiG fp h:=List.mem_filterMap.mpr ⟨b,hb,by rw[e];rfl⟩
def Zp4(hp:p∈ZiG fp h):p.1∈fp/\h.get? p.1=Wn p.2:=by
 obtain⟨b,hb,e⟩:=List.mem_filterMap.mp hp;cases q:h.get? b with
 |none=>rw[q]at e;cases e
 |some o=>rw[q]at e;have e':(b,o)=p:=YD e;subst e';exact⟨hb,q⟩
def Inv.pinned(I:Inv X pins Z H s)(hf:∀b∈fp,Zc4 X pins H b)(ho:∀b∈fp,∃o,s.heap.get? b=Wn o/\∀v,o.data≠.cell v):Inv X (pins++ZiG fp s.heap) Z H s:=
 I.pins_of λp hp=>(OD.mp hp).elim (λz=>I.pin p (Ov _ z)) λz=>by obtain⟨hb,e⟩:=Zp4 z;obtain⟨f0,f1,f2,_⟩:=hf p.1 hb;obtain⟨o,e',d⟩:=ho p.1 hb;rw[e]at e';cases e';exact⟨e,f0,f1,f2,d⟩
def Inv.unpinned(I:Inv X (pins++pl) Z H s):Inv X pins Z H s:=I.pins_of λp hp=>I.pin p (Ov _ (Yq _ hp))
def ZwQ(hp:PassesOwn (model X.prog X.w) X.A X.env X.xe)(hc:X.calm=Wp)(hi:PI X tg iter wi)(hg:PG X tg g)(hb:PSs X body tb)
 (hs:∀x,foldedSetIterable iter X.env x=pure x:=by intro _;rfl):PS X (.For tg iter body [] pos) (ZAX wi g tb):=by
 intro pins s Z H D I h;refine wpAny_For (thn (hi pins s Z H _ I h) λv s1 h1=>thn h1 λitv s2 h2=>?_) hs;obtain⟨it,fp,tn,J,H2,e,I2,T,st2,f2,W,⟨m0,w0⟩,turn⟩:=h2;subst e;have stat:∀{H':Hp},(∀b∈fp,H' b=Wo)->∀b∈fp,Zc4 X pins H' b:=λhn b hb=>⟨hn b hb,(f2 b hb).2⟩
 refine codeAny_forLoop_any (λn s'=>∃i σ' H',Inv X pins σ' H' s'/\tn i s'.heap/\(∀b∈fp,H' b=Wo)/\W i n σ' H') ?_ m0 ⟨0,Z,H2,I2,st2,λb hb=>(f2 b hb).1,w0⟩;rintro n s3 ⟨i,σ3,H3,I3,st3,fr3,w3⟩;rcases turn i n σ3 H3 w3 with ⟨stop,qn⟩|⟨go,N,hN,step⟩
 . refine wpAny_passesOwn hp (thn (T.done X rfl rfl rfl hc i pins s3 σ3 H3 X.xe I3 (stat fr3) st3 stop) λr s4 ⟨hr,I4⟩=>?_);subst hr;exact wpAny_execs_nil ⟨σ3,H3,I4,qn⟩
 . refine wpAny_passesOwn hp (thn (T.item X rfl rfl rfl hc i pins s3 σ3 H3 X.xe I3 (stat fr3) st3 go) λr s4 ⟨u,hr,h4⟩=>?_);subst hr;refine wpAny_passesOwn hp (thn h4 λ_ s5 ⟨x,H5,I5,r5,y5,st5,fr5⟩=>?_);have I5':=I5.pinned (stat fr5) (T.obj _ _ st5);refine wpAny_passesOwn hp (thn (hg _ s5 σ3 H5 x u _ I5' r5 (step x H5 y5)) λ_ s6 ⟨σ6,H6,I6,q6⟩=>?_);refine wpAny_passesOwn hp (thn (hb _ s6 σ6 H6 _ I6 q6) λf s7 q7=>?_);have again:∀{σ7:St}{H7:Hp},Inv X (pins++ZiG fp s5.heap) σ7 H7 s7->N σ7 H7->∃m,m<n/\∃i σ' H',Inv X pins σ' H' s7/\tn i s7.heap/\(∀b∈fp,H' b=Wo)/\W i m σ' H':=λ{σ7 H7} I7 n7=>by obtain⟨m',hm,w7⟩:=hN σ7 H7 n7;refine⟨m',hm,i+1,σ7,H7,I7.unpinned,T.keep _ _ _ st5 λb hb o e=>(I7.pin (b,o) (Ov _ (Ov _ (Zcz hb e)))).1,λb hb=>?_,w7⟩;obtain⟨o,e,d⟩:=T.obj _ _ st5 b hb;exact(I7.pin (b,o) (Ov _ (Ov _ (Zcz hb e)))).2.1
   cases f with
   |next=>obtain⟨σ7,H7,I7,n7⟩:=q7;exact again I7 n7
   |cont=>obtain⟨σ7,H7,I7,n7⟩:=q7;exact again I7 n7
   |brk=>obtain⟨σ7,H7,I7,q7⟩:=q7;exact⟨σ7,H7,I7.unpinned,q7⟩
   |ret v=>obtain⟨x7,σ7,H7,I7,r7,q7⟩:=q7;exact⟨x7,σ7,H7,I7.unpinned,r7,q7⟩
end
abbrev R2:=V->V->Hp->VK->Prop
def OpR(X:Cx)(f:Yj->Yj->Sem Yj)(r:R2):Prop:=
 ∀(pins:List (Yi×Obj)) (s:Yb) (Z:St) (H:Hp) (x y:V) (v u:Yj) (Q:VK),Inv X pins Z H s->RelV x v->RelV y u->r x y H Q ->
  Yz (model X.prog X.w) X.A (f v u) (EP X pins Z Q) X.xe s
def UnR(X:Cx)(f:Yj->Sem Yj)(r:V->Hp->VK->Prop):Prop:=
 ∀(pins:List (Yi×Obj)) (s:Yb) (Z:St) (H:Hp) (x:V) (v:Yj) (Q:VK),Inv X pins Z H s->RelV x v->r x H Q ->
  Yz (model X.prog X.w) X.A (f v) (EP X pins Z Q) X.xe s
def Zaa(X:Cx)(f:Yj)(r:List V->Hp->VK->Prop):Prop:=
 ∀(pins:List (Yi×Obj)) (s:Yb) (Z:St) (H:Hp) (xs:List V) (us:List Yj) (Q:VK),Inv X pins Z H s->Zu xs us->r xs H Q ->
  Yz (model X.prog X.w) X.A (call f us) (EP X pins Z Q) X.xe s
def ZBW(X:Cx)(r:V->Hp->(Bool->Hp->Prop)->Prop):Prop:=
 ∀(pins:List (Yi×Obj)) (s:Yb) (Z:St) (H:Hp) (x:V) (v:Yj) (Q:Bool->Hp->Prop),Inv X pins Z H s->RelV x v->r x H Q ->
  Yz (model X.prog X.w) X.A (truthy v) (TP X pins Z Q) X.xe s
def tOp(r:R2)(ta tb:TE):TE:=λZ H Q=>ta Z H λx H1=>tb Z H1 λy H2=>r x y H2 Q
noncomputable def tUn(r:V->Hp->VK->Prop)(ta:TE):TE:=λZ H Q=>ta Z H λx H1=>r x H1 Q
noncomputable def rI(C:Int->Int->Prop)(g:Int->Int->V):R2:=λx y H Q=>∃i j,x=.int i/\y=.int j/\C i j/\Q (g i j) H
noncomputable def rI0(g:Int->Int->V):R2:=λx y H Q=>∃i j,x=.int i/\y=.int j/\Q (g i j) H
def rU(g:Int->V):V->Hp->VK->Prop:=λx H Q=>∃i,x=.int i/\Q (g i) H
section
variable {X:Cx}{a b c:Expr}{ta tb tc:TE}{pos:Pos}
def Zya(ha:PE X a ta)(hb:PE X b tb){pins:List (Yi×Obj)}{s:Yb}{Z:St}{H:Hp}{R:V->V->Hp->Prop}(I:Inv X pins Z H s)
 (h:ta Z H λx H1=>tb Z H1 λy H2=>R x y H2) {Q:Yj->Yb->Prop}{f:Yj->Yj->Sem Yj}
 (hf:∀v u s2 x y H2,Inv X pins Z H2 s2->RelV x v->RelV y u->R x y H2->Yz (model X.prog X.w) X.A (f v u) Q X.xe s2) :
 Yz (model X.prog X.w) X.A (eval a X.env) (λv s₁=>Yz (model X.prog X.w) X.A (eval b X.env) (λu s₂=>Yz (model X.prog X.w) X.A (f v u) Q X.xe s₂) X.xe s₁) X.xe s:=by
 refine thn (ha pins s Z H _ I h) λv s1 ⟨x,H1,I1,r1,q1⟩=>?_;refine thn (hb pins s1 Z H1 _ I1 q1) λu s2 ⟨y,H2,I2,r2,q2⟩=>?_;exact hf v u s2 x y H2 I2 r1 r2 q2
def ZvE{op:Operator}{r:R2}(ho:OpR X (binaryOp op) r)(ha:PE X a ta)(hb:PE X b tb):PE X (.BinOp a op b pos) (tOp r ta tb):=by intro pins s Z H Q I h;exact wpAny_BinOp (Zya ha hb I h λv u s2 x y H2 I2 rx ry q=>ho pins s2 Z H2 x y v u Q I2 rx ry q)
def Zzo{op:UnaryOp}{r:V->Hp->VK->Prop}(ho:UnR X (unaryOp op) r)(ha:PE X a ta):PE X (.UnaryOp op a pos) (tUn r ta):=by intro pins s Z H Q I h;exact UnaryOp_ (thn (ha pins s Z H _ I h) λv s1 ⟨x,H1,I1,r1,q1⟩=>ho pins s1 Z H1 x v Q I1 r1 q1)
def opI{f:Yj->Yj->Sem Yj}{C:Int->Int->Prop}{g:Int->Int->Int}
 (rule:∀(i j:Int) (t u:Tok) (s:Yb) (Q:Yj->Yb->Prop) (E:Yj->Yb->Prop),C i j->Q (.int (g i j) s.toks) {s with toks:=s.toks+1}->Yz (model X.prog X.w) X.A (f (.int i t) (.int j u)) Q E s) :
 OpR X f (rI C λi j=>.int (g i j)):=by
 intro pins s Z H x y v u Q I rx ry h;obtain⟨i,j,rfl,rfl,hc,q⟩:=h;obtain⟨t,rfl⟩:=rx;obtain⟨t',rfl⟩:=ry;exact rule i j t t' s _ _ hc ⟨.int (g i j),H,I.tok _,⟨_,rfl⟩,q⟩
def ZzD{g:Int->Int->Int}
 (rule:∀(i j:Int) (t u:Tok) (s:Yb) (Q:Yj->Yb->Prop) (E:Yj->Yb->Prop),Q (.int (g i j) s.toks) {s with toks:=s.toks+1}->Yz (model X.prog X.w) X.A (f (.int i t) (.int j u)) Q E s) :
 OpR X f (rI0 λi j=>.int (g i j)):=by
 intro pins s Z H x y v u Q I rx ry h;obtain⟨i,j,rfl,rfl,q⟩:=h;obtain⟨t,rfl⟩:=rx;obtain⟨t',rfl⟩:=ry;exact rule i j t t' s _ _ ⟨.int (g i j),H,I.tok _,⟨_,rfl⟩,q⟩
def Zt9{g:Int->Int->Bool}
 (rule:∀(i j:Int) (t u:Tok) (s:Yb) (Q:Yj->Yb->Prop) (E:Yj->Yb->Prop),Q (.bool (g i j)) s->Yz (model X.prog X.w) X.A (f (.int i t) (.int j u)) Q E s) :
 OpR X f (rI0 λi j=>.bl (g i j)):=by
 intro pins s Z H x y v u Q I rx ry h;obtain⟨i,j,rfl,rfl,q⟩:=h;obtain⟨t,rfl⟩:=rx;obtain⟨t',rfl⟩:=ry;exact rule i j t t' s _ _ ⟨.bl (g i j),H,I,rfl,q⟩
def ZBY(i j:Int):Prop:=0<j/\j<1073741824
def ZBX(i j:Int):Prop:=0<=j/\j<=1000000/\i.natAbs<2 ^ 64
def Zxi:OpR X (binaryOp .Add) (rI0 λi j=>.int (i+j)):=ZzD λ_ _ _ _ _ _ _ q=>add_int q
def Zxb:OpR X (binaryOp .Sub) (rI0 λi j=>.int (i - j)):=ZzD λ_ _ _ _ _ _ _ q=>sub_int q
def ZtZ:OpR X (binaryOp .FloorDiv) (rI ZBY λi j=>.int (i / j)):=opI λi j _ _ _ _ _ hc q=>by have h1:(0:Int)<j:=hc.1;have h2:j<1073741824:=hc.2;exact floordiv_int (by lia) (by rw[Int.fdiv_eq_ediv_of_nonneg i (by lia)];exact q) (.inl (PyProof.noPylong_small (by lia)))
def Zxe:OpR X (binaryOp .Mod) (rI (λ_ j=>0<j) λi j=>.int (i % j)):=opI λi j _ _ _ _ _ hc q=>by have h1:(0:Int)<j:=hc;exact mod_int' (by lia) (by rw[Int.fmod_eq_emod_of_nonneg i (by lia)];exact q)
def Zxd:OpR X (binaryOp .Pow) (rI ZBX λi j=>.int (i ^ j.toNat)):=opI λ_ _ _ _ _ _ _ hc q=>pow_int_small hc.1 hc.2.1 hc.2.2 q
def unI{g:Int->Int}
 (rule:∀(i:Int) (t:Tok) (s:Yb) (Q:Yj->Yb->Prop) (E:Yj->Yb->Prop),Q (.int (g i) s.toks) {s with toks:=s.toks+1}->Yz (model X.prog X.w) X.A (f (.int i t)) Q E s) :
 UnR X f (rU λi=>.int (g i)):=by
 intro pins s Z H x v Q I rx h;obtain⟨i,rfl,q⟩:=h;obtain⟨t,rfl⟩:=rx;exact rule i t s _ _ ⟨.int (g i),H,I.tok _,⟨_,rfl⟩,q⟩
def Zwi:UnR X (unaryOp .USub) (rU λi=>.int (-i)):=unI λ_ _ _ _ _ q=>neg_int q
def ZnL(I:Inv X pins Z H s)(q:Q (.bl k) H)(e:k=k'):EP X pins Z Q (.bool k') s:=by subst e;exact⟨.bl k,H,I,rfl,q⟩
def Zzy:OpR X (YK .Lt) (rI0 λi j=>.bl (Wr (i<j))):=Zt9 λ_ _ _ _ _ _ _ q=>lt_int q
def Zzz:OpR X (YK .LtE) (rI0 λi j=>.bl (Wr (i<=j))):=Zt9 λ_ _ _ _ _ _ _ q=>le_int q
def ZzA:OpR X (YK .Gt) (rI0 λi j=>.bl (Wr (j<i))):=Zt9 λ_ _ _ _ _ _ _ q=>gt_int q
def ZzB:OpR X (YK .GtE) (rI0 λi j=>.bl (Wr (j<=i))):=Zt9 λ_ _ _ _ _ _ _ q=>ge_int q
def Zp0:OpR X (YK .In) (λx y H Q=>∃i j,x=.str i/\y=.str j/\Q (.bl (!(Builtin.Str.occurrences j i 0 j.length 1).isEmpty)) H):=by intro pins s Z H x y v u Q I rx ry h;obtain⟨i,j,rfl,rfl,q⟩:=h;obtain⟨t,rfl⟩:=rx;obtain⟨t',rfl⟩:=ry;exact in_str (ZnL I q rfl)
def Zxf:OpR X (YK .Is) (λx y H Q=>y=.non/\Q (.bl (Wr (x=.non))) H):=by
 intro pins s Z H x y v u Q I rx ry h;obtain⟨rfl,q⟩:=h;cases ry;refine is_none_gen (ZnL I q ?_);cases x<;>first
  |(cases rx;rfl)
  |(obtain⟨t,rfl⟩:=rx;rfl)
def ZtX:OpR X (YK .IsNot) (λx y H Q=>y=.non/\Q (.bl (!Wr (x=.non))) H):=by
 intro pins s Z H x y v u Q I rx ry h;obtain⟨rfl,q⟩:=h;cases ry;refine isnot_none_gen (ZnL I q ?_);cases x<;>first
  |(cases rx;rfl)
  |(obtain⟨t,rfl⟩:=rx;rfl)
def Zoz{op:CmpOp}{r:R2}(ho:OpR X (YK op) r)(ha:PE X a ta)(hb:PE X b tb)(hm:behindInMarks op b=Wq):PE X (.Compare a [op] [b] pos) (tOp r ta tb):=by intro pins s Z H Q I h;exact wpAny_Compare1 (Zya ha hb I h λv u s2 x y H2 I2 rx ry q=>ho pins s2 Z H2 x y v u Q I2 rx ry q) hm
noncomputable def Zvn(t:TE):TT:=λZ H Q=>t Z H λx H'=>∃k,x=.bl k/\Q k H'
def ZtC{op:CmpOp}{r:R2}(ho:OpR X (YK op) r)(ha:PE X a ta)(hb:PE X b tb)(hm:behindInMarks op b=Wq):PT X (.Compare a [op] [b] pos) (Zvn (tOp r ta tb)):=by
 intro pins s Z H Q I h;refine wpAny_isTrue_Compare1 (thn (ha pins s Z H _ I h) λv s1 ⟨x,H1,I1,r1,q1⟩=>thn (hb pins s1 Z H1 _ I1 q1) λu s2 ⟨y,H2,I2,r2,q2⟩=>thn (ho pins s2 Z H2 x y v u _ I2 r1 r2 q2) λc s3 ⟨z,H3,I3,r3,k,e,q3⟩=>?_) hm
 subst e;cases r3;exact wpAny_truthy_bool ⟨H3,I3,q3⟩
def ZqR(r r':R2)(ta tb tc:TE):TE:=λZ H Q=>ta Z H λx H1=>tb Z H1 λy H2=>r x y H2 λz H3=>∃k,z=.bl k /\
 (if k=Wp then tc Z H3 λw' H4=>r' y w' H4 Q else Q (.bl Wq) H3)
def ZrI(ho:OpR X (YK op) r)(ho':OpR X (YK op') r')(ha:PE X a ta)(hb:PE X b tb)(hc:PE X c tc)
 (hm:lastMarks [op,op'] [b,c]=Wq:=by with_unfolding_all rfl):PE X (.Compare a [op,op'] [b,c] pos) (ZqR r r' ta tb tc):=by
 intro pins s Z H Q I h;refine Compare_chain (thn (ha pins s Z H _ I h) λv s1 ⟨x,H1,I1,r1,q1⟩=>chain_link (thn (hb pins s1 Z H1 _ I1 q1) λu s2 ⟨y,H2,I2,r2,q2⟩=>thn (ho pins s2 Z H2 x y v u _ I2 r1 r2 q2) λd s3 ⟨z,H3,I3,r3,k,e,q3⟩=>?_)) hm
 subst e;cases r3;refine wpAny_truthy_bool ?_;cases k with
 |false=>exact ite_ff ⟨.bl Wq,H3,I3,rfl,q3⟩
 |true=>exact ite_tt (chain_last (thn (hc pins s3 Z H3 _ I3 q3) λw' s4 ⟨z',H4,I4,r4,q4⟩=>ho' pins s4 Z H4 y z' u w' Q I4 r2 r4 q4))
def Zrq(ho:OpR X (YK op) r)(ho':OpR X (YK op') r')(ha:PE X a ta)(hb:PE X b tb)(hc:PE X c tc)
 (hm:lastMarks [op,op'] [b,c]=Wq:=by with_unfolding_all rfl):PT X (.Compare a [op,op'] [b,c] pos) (Zvn (ZqR r r' ta tb tc)):=by
 intro pins s Z H Q I h;refine isTrue_chain (thn (ha pins s Z H _ I h) λv s1 ⟨x,H1,I1,r1,q1⟩=>test_link (thn (hb pins s1 Z H1 _ I1 q1) λu s2 ⟨y,H2,I2,r2,q2⟩=>thn (ho pins s2 Z H2 x y v u _ I2 r1 r2 q2) λd s3 ⟨z,H3,I3,r3,k,e,q3⟩=>?_)) hm
 subst e;cases r3;refine wpAny_truthy_bool ?_;cases k with
 |false=>obtain⟨k',e',q'⟩:=q3;cases e';exact ite_ff ⟨H3,I3,q'⟩
 |true=>refine ite_tt (test_last (thn (hc pins s3 Z H3 _ I3 q3) λw' s4 ⟨z',H4,I4,r4,q4⟩=>thn (ho' pins s4 Z H4 y z' u w' _ I4 r2 r4 q4) λd' s5 ⟨z2,H5,I5,r5,k2,e2,q5⟩=>?_));subst e2;cases r5;exact wpAny_truthy_bool ⟨H5,I5,q5⟩
def Zyl(K:Yk)(x:V)(H:Hp)(k:Bool):Prop:=
 match x with
 |.non=>k=Wq
 |.bl b=>k=b
 |.int i=>k=(i != 0)
 |.str y=>y.length<=sizeLine/\k=((y.length:Int) != 0)
 |.byt y=>y.size<=sizeLine/\k=((y.size:Int) != 0)
 |.ref p=>(∃xs,SqL K H p xs/\k=!xs.isEmpty)\/(∃xs,SqT K H p xs/\k=!xs.isEmpty)\/∃kvs,H p=Wn (.dK kvs)/\k=!kvs.isEmpty
 |_=>False
def ZnH(r:KV kvs vs):(!vs.isEmpty)=!kvs.isEmpty:=by cases r<;>rfl
def ZiY(r:Zu xs its):(!its.toArray.isEmpty)=!xs.isEmpty:=by cases r<;>simp
def ZcA:(sizeLine:Nat)<2 ^ 63:=by rw[YA];decide
def Zwn:ZBW X (λx H Q=>∃k,Zyl X.K x H k/\Q k H):=by
 intro pins s Z H x v Q I rx h;obtain⟨k,e,q⟩:=h;have hl:=ZcA;have hs:sizeLine=16777216:=YA;cases x with
 |non=>cases rx;have e':k=Wq:=e;subst e';exact truthy_none ⟨H,I,q⟩
 |bl b=>cases rx;have e':k=b:=e;subst e';exact wpAny_truthy_bool ⟨H,I,q⟩
 |int i=>obtain⟨t,rfl⟩:=rx;have e':k=(i != 0):=e;subst e';exact PySem.P.truthy_int ⟨H,I,q⟩
 |str y=>obtain⟨t,rfl⟩:=rx;obtain⟨hy,e'⟩:y.length<=sizeLine/\k=((y.length:Int) != 0):=e;subst e';exact PySem.P.truthy_str (by lia) ⟨H,I.tok _,q⟩
 |byt y=>obtain⟨t,rfl⟩:=rx;obtain⟨hy,e'⟩:y.size<=sizeLine/\k=((y.size:Int) != 0):=e;subst e';exact PySem.W.truthy_bytes (by lia) ⟨H,I.tok _,q⟩
 |ref p=>
  cases rx;have e':(∃xs,SqL X.K H p xs/\k=!xs.isEmpty)\/(∃xs,SqT X.K H p xs/\k=!xs.isEmpty)\/∃kvs,H p=Wn (.dK kvs)/\k=!kvs.isEmpty:=e;rcases e' with ⟨xs,hx,e'⟩|⟨xs,hx,e'⟩|⟨kvs,hx,e'⟩
  . subst e';obtain⟨its,r,pl,hz⟩:=I.list hx;have hlen:=r.length;exact wpAny_truthy_list pl.isList (by simp only[Of];lia) ⟨H,I.tok _,by rw[ZiY r];exact q⟩
  . subst e';obtain⟨its,r,pl,hz⟩:=I.tuple hx;have hlen:=r.length;exact truthy_tuple pl (by simp only[Of];lia) ⟨H,I.tok _,by rw[ZiY r];exact q⟩
  . subst e';obtain⟨hz,hS,vs,r,m⟩:kvs.length<=sizeLine/\(p==Ye)=Wq/\∃vs,KV kvs vs/\s.heap.DictOf (Z0 X.prog X.w) p vs:=I.hok p _ hx;have hlen:kvs.length=vs.length:=Paired.length r;exact wpAny_truthy_dict hS m (by lia) ⟨H,I.tok _,by rw[ZnH r];exact q⟩
 |_=>exact(show False from e).elim
def Zrp(ha:PE X a ta)(he:∀whole,isTrue a X.env whole=(do let v <- whole;standAt a.pos;holding [v] (truthy v))):
 PT X a (λZ H Q=>ta Z H λx H'=>∃k,Zyl X.K x H' k/\Q k H'):=by
 intro pins s Z H Q I h;exact isTrue_plain (thn (ha pins s Z H _ I h) λv s1 ⟨x,H1,I1,r1,q1⟩=>Zwn pins s1 Z H1 x v Q I1 r1 q1) (he _)
def Znt:OpR X (binaryOp .Add) (λx y H Q=>∃i j,x=.str i/\y=.str j/\i.length+j.length<=sizeLine/\Q (.str (i++j)) H):=by intro pins s Z H x y v u Q I rx ry h;obtain⟨i,j,rfl,rfl,hz,q⟩:=h;obtain⟨t,rfl⟩:=rx;obtain⟨t',rfl⟩:=ry;exact add_str (λt' tk=>⟨.str (i++j),H,I.tok _,⟨_,rfl⟩,q⟩) hz
def vals1{x:V}{us:List Yj}(r:Zu [x] us):∃u,us=[u]/\RelV x u:=by
 cases r with
 |cons r1 r2=>cases r2;exact⟨_,rfl,r1⟩
def vals2{x y:V}{us:List Yj}(r:Zu [x,y] us):∃u w',us=[u,w']/\RelV x u/\RelV y w':=by
 cases r with
 |cons r1 r2=>
  cases r2 with
  |cons r3 r4=>cases r4;exact⟨_,_,rfl,r1,r3⟩
def ZkO:Zaa X (.type "int") (λxs H Q=>(∃i,xs=[.int i]/\Q (.int i) H)\/∃k,xs=[.bl k]/\Q (.int (if k then 1 else 0)) H):=by
 intro pins s Z H xs us Q I r h;rcases h with ⟨i,rfl,q⟩|⟨k,rfl,q⟩
 . obtain⟨u,rfl,t,rfl⟩:=vals1 r;exact call_int_int ⟨.int i,H,I,⟨_,rfl⟩,q⟩
 . obtain⟨u,rfl,r1⟩:=vals1 r;cases r1;exact call_int_bool ⟨.int (if k then 1 else 0),H,I.tok _,⟨_,rfl⟩,q⟩
end
structure ObjM(h:YE)(x dx C:Yi)(mA:Str->Option Yj):Prop where
 obj:h.get? x=Wn (Wc C dx)
 ns:h.Ns1 dx mA
 ne:dx≠x
def Zp8{h:YE}(n:h.Ns1 dx mA):∃od,h.get? dx=Wn od/\∀name,PySem.W.lookIn name od=Wn (mA name):=by
 obtain⟨o,es,ep,ho,hd,hk,_,hm⟩:=n;refine⟨o,ho,λname=>?_⟩;have e:=hm name;unfold nsFind findBy at e;rw[<- Array.find?_toList]at e;unfold PySem.W.lookIn;rw[hd];dsimp only;split
 . rename_i y q;rw[q]at e;exact congrArg Wn e
 . rename_i q;rw[q]at e;have a:es.toList.any (·.refKey)=Wq:=by rw[List.any_eq_false];intro y hy;obtain⟨z,t,hkey⟩:=hk y (Array.mem_toList_iff.mp hy);simp[DictEntry.refKey,hkey]
   have a':¬ es.toList.any (·.refKey)=Wp:=by rw[a];exact Ow
   rw[if_neg a'];exact congrArg Wn e
def ObjM.look(I:ObjM h x dx C mA):∃od,PySem.W.InstAt h x (Wc C dx) C (Wn od)/\∀name,PySem.W.lookIn name od=Wn (mA name):=
 let ⟨od,ho,hl⟩:=Zp8 I.ns
 ⟨od,⟨I.obj,rfl,rfl,ho⟩,hl⟩
section
variable {prog:Yh}{w:Yg}{A:YF}{E:Yj->Yb->Prop}{s:Yb}{K:Yk}{x dx C f:Yi}{mA:Str->Option Yj}{name:Str}{v:Yj}
def ZuA(X:K.In s.heap)(I:ObjM s.heap x dx C mA)(hg:PySem.W.plainGet K C name=Wp)(hh:PySem.W.hasDictIn K C=Wp)
 (ha:YH K (.ref C) name=Wn Wo) (hv:mA name=Wn v) (hv':PySem.W.handedIn v=Wp) (h:Q v {s with toks:=s.toks+1}) :
 Yz (model prog w) A (getAttr (.ref x) name expr) Q E s:=by
 obtain⟨od,J,hl⟩:=I.look;exact PySem.W.get_value X J (PySem.W.plainGet_of hg).1 (PySem.W.findObj_own hh ha rfl (by rw[hl,hv])) hv' h
def Zsl(X:K.In s.heap)(I:ObjM s.heap x dx C mA)(hg:PySem.W.plainGet K C name=Wp)
 (hf:YH K (.ref C) name=Wn (Wn (.ref f))) (ht:PySem.W.isFn K (.ref f)=Wp) (hv:mA name=Wo) (h:Q (.ref f,[.ref x]) s) :
 Yz (model prog w) A (getMethod (.ref x) name pl) Q E s:=by
 obtain⟨od,J,hl⟩:=I.look;exact PySem.W.method_fn X J (PySem.W.plainGet_of hg).1 (PySem.W.plainGet_of hg).2 hf (beq_iff_eq.mp ht) (by show(PySem.W.lookIn name od).map (·.isSome)=Wn Wq;rw[hl,hv];rfl) h
def Ztm(X:K.In s.heap)(I:ObjM s.heap x dx C mA)
 (hs:YH K (.ref C) "__setattr__" = Wn (Wn (.builtin "object.__setattr__"))) (hp:PySem.W.plainOver K C=Wp) (ht:PySem.W.takerIn K C name=Wn Wo) (hh:PySem.W.hasDictIn K C=Wp)
 (hw:PySem.Within mA ns) (hsz:ns.length<=sizeLine)
 (h:∀h',ObjM h' x dx C (λy=>if y=name then Wn v else mA y)->Heap.SameBut dx s.heap h'->Q () {s with heap:=h',toks:=s.toks+2}) :
 Yz (model prog w) A (setAttr (.ref x) name v) Q E s:=by
 obtain⟨od,J,hl⟩:=I.look;refine PySem.W.set_plain X J hs (PySem.W.osa_open (s:={s with toks:=s.toks+1}) (r:=Wo) X J hp ht λb=>?_);obtain⟨cd,hc,hd'⟩:=PySem.W.any_some hh;have hx:s.heap.get? x=Wn ⟨.ref C,Wn dx,.plain,#[]⟩:=I.obj;refine Ya (Yc (Ya (Ya (wpAny_loadPart hx (Ya (PySem.W.Looks.here (s:={s with toks:=s.toks+1}) (PySem.W.looks_clsIn X hc) ?_))))));rw[hd'];refine Yc (a:=Wn dx) (Ya (Yc (Ya ?_)));refine wpAny_nsSet1 (s:={s with toks:=s.toks+1}) I.ns λh' hn2 hs2=>?_;obtain⟨oD,esD,epD,hoD,hdD,hcD⟩:=hn2.count (PySem.Within.cons name v hw);refine Ya (wpAny_lookBehind hoD (by rw[hdD];exact pastItsLine_dict (OE hcD (by rw[Os];lia))) ?_);exact Yc (h _ ⟨(hs2.2 _ (YJ I.ne)).trans I.obj,hn2,I.ne⟩ hs2)
def Zr4(X:K.In s.heap)(hm:PySem.W.makesIn K C=Wp)
 (hi:YH K (.ref C) "__init__" = Wn (Wn (.ref f))) (hf:PySem.W.typeIn K (.ref f)=Wn (.type "function"))
 (h:codeAny (model prog w) (A.under (.builtin "type.__call__" ⟨.ref C::vs,kw⟩)) (.call (.ref f) ⟨.ref (s.heap.objs.size+1)::vs,kw⟩) (PySem.W.InitBack (s.heap.objs.size+1) R)
  {s with heap:=(s.heap.push YR).push (Wc C s.heap.objs.size)}) :
 codeAny (model prog w) A (.call (.ref C) ⟨vs,kw⟩) R s:=by
 obtain⟨hh,g,d,t,os⟩:=s;exact PySem.W.make_core (PySem.W.makes_of X hm) (PySem.W.looks_findIn X hi) (λself=>PySem.W.bind_fn X self hf) (.inl rfl) h
end
noncomputable def Zb4(f:Str)(v:V):List (Str×V)->List (Str×V)
 |[]=>[(f,v)]
 |(g,x)::r=>if g=f then(g,v)::r else(g,x)::Zb4 f v r
theorem Zhh(f g:Str)(v:V):∀fs:List (Str×V),(Zb4 f v fs).lookup g=if g=f then Wn v else fs.lookup g
 |[]=>by
  show We g [(f,v)]=_;by_cases h:g=f
  . have hb:(g==f)=Wp:=beq_iff_eq.mpr h;simp only[We,hb,if_pos h]
  . have hb:(g==f)=Wq:=beq_eq_false_iff_ne.mpr h;simp only[We,hb,if_neg h]
 |(k,x)::r=>by
  have ih:=Zhh f g v r;rw[show Zb4 f v ((k,x)::r)=(if k=f then(k,v)::r else(k,x)::Zb4 f v r)from rfl];by_cases hk:k=f
  . rw[if_pos hk];by_cases h:g=k
    . have hb:(g==k)=Wp:=beq_iff_eq.mpr h;simp only[We,hb,if_pos (h.trans hk)]
    . have hb:(g==k)=Wq:=beq_eq_false_iff_ne.mpr h;simp only[We,hb,if_neg (λe:g=f=>h (e.trans hk.symm))]
  . rw[if_neg hk];by_cases h:g=k
    . have hb:(g==k)=Wp:=beq_iff_eq.mpr h;simp only[We,hb,if_neg (λe:g=f=>hk (h.symm.trans e))]
    . have hb:(g==k)=Wq:=beq_eq_false_iff_ne.mpr h;simp only[We,hb];exact ih
theorem ZgB(f:Str)(v:V):∀fs:List (Str×V),f∈(Zb4 f v fs).map (·.1)/\∀g,g∈fs.map (·.1)->g∈(Zb4 f v fs).map (·.1)
 |[]=>⟨by simp[Zb4],λg h=>by simp at h⟩
 |(k,x)::r=>by
  obtain⟨i1,i2⟩:=ZgB f v r;rw[show Zb4 f v ((k,x)::r)=(if k=f then(k,v)::r else(k,x)::Zb4 f v r)from rfl];by_cases hk:k=f
  . rw[if_pos hk];subst hk;exact⟨by simp,λg h=>by simpa using h⟩
  . rw[if_neg hk];refine⟨?_,λg h=>?_⟩
    . rw[Op];exact Oh _ i1
    . rw[Op]at h ⊢;rcases O2.mp h with e|e
      . exact O2.mpr (.inl e)
      . exact Oh _ (i2 g e)
theorem Zhj(f:Str)(v:V):∀fs:List (Str×V),(Zb4 f v fs).length<=fs.length+1
 |[]=>by simp[Zb4]
 |(k,x)::r=>by
  have ih:=Zhj f v r;rw[show Zb4 f v ((k,x)::r)=(if k=f then(k,v)::r else(k,x)::Zb4 f v r)from rfl];by_cases hk:k=f
  . rw[if_pos hk,Os,Os];lia
  . rw[if_neg hk,Os,Os];lia
def Zgq.some_of(r:Zgq (Wn v) o):∃u,o=Wn u/\RelV v u:=by
 cases o with
 |none=>exact(show False from r).elim
 |some u=>exact⟨u,rfl,r⟩
def Zgq.none_of(r:Zgq Wo o):o=Wo:=by
 cases o with
 |none=>rfl
 |some u=>exact(show False from r).elim
def Zqi(r:RelV v u):PySem.W.handedIn u=Wp:=by
 cases v with
 |non=>cases (show u=Value.none from r);rfl
 |bl b=>cases (show u=Value.bool b from r);rfl
 |int i=>obtain⟨t,e⟩:=(show ∃t,u=Value.int i t from r);cases e;rfl
 |str x=>obtain⟨t,e⟩:=(show ∃t,u=Value.str x t from r);cases e;rfl
 |byt b=>obtain⟨t,e⟩:=(show ∃t,u=Value.bytes b t from r);cases e;rfl
 |flt b=>obtain⟨t,e⟩:=(show ∃t,u=Value.float b t from r);cases e;rfl
 |ref a=>cases (show u=YB a from r);rfl
 |ty n=>cases (show u=Value.type n from r);rfl
section
variable {P:Yh}{w:Yg}{H H':Hp}{h h':YE}{a C dx:Yi}{fs fs':List (Str×V)}
def Zlo(hok:HOk P w H h)(e:H a=Wn (.ins C dx fs)):∃mA,ObjM h a dx C mA/\(∀f,Zgq (fs.lookup f) (mA f))/\PySem.Within mA (fs.map (·.1))/\fs.length<=1000/\H dx=Wn (.own a):=by
 obtain⟨d,z,ne,ob,mA,n,r,q⟩:=(show Zaq P w H h a (.ins C dx fs)from hok a _ e)
 exact⟨mA,⟨ob,n,ne⟩,r,q,z,d⟩
end
structure Cls(K:Yk)(C:Yi):Prop where
 pg:PySem.W.plainGet K C Str.empty=Wp
 hd:PySem.W.hasDictIn K C=Wp
 po:PySem.W.plainOver K C=Wp
 sa:YH K (.ref C) "__setattr__" = Wn (Wn (.builtin "object.__setattr__"))
def Cls.get{K:Yk}(c:Cls K C)(f:Str):PySem.W.plainGet K C f=Wp:=c.pg
def ZaP(K:Yk)(C:Yi)(f:Str):Prop:=YH K (.ref C) f=Wn Wo
def ZaP.taker{K:Yk}(n:ZaP K C f):PySem.W.takerIn K C f=Wn Wo:=by unfold PySem.W.takerIn;rw[show YH K (.ref C) f=Wn Wo from n];rfl
structure Meth(K:Yk)(C:Yi)(m:Str)(f:Yi):Prop where
 at_:YH K (.ref C) m=Wn (Wn (.ref f))
 fn:PySem.W.isFn K (.ref f)=Wp
 kp:YZ K (.ref f)=Wp
section
variable {X:Cx}{pins:List (Yi×Obj)}{Z:St}{H:Hp}{s:Yb}{a C dx:Yi}{fs:List (Str×V)}{f:Str}{v:V}{A:YF}{E:Yj->Yb->Prop}
def Zi2(I:Inv X pins Z H s)(e:H a=Wn (.ins C dx fs))(c:Cls X.K C)(n:ZaP X.K C f)(l:fs.lookup f=Wn v)
 (h:∀u s',Inv X pins Z H s'->RelV v u->Q u s'):Yz (model X.prog X.w) A (getAttr (.ref a) f b) Q E s:=by
 obtain⟨mA,O_,r,_,_,_⟩:=Zlo I.hok e;obtain⟨u,hu,ru⟩:=Zgq.some_of (v:=v) (o:=mA f) (by rw[<- l];exact r f);exact ZuA I.kIn O_ (c.get f) c.hd n hu (Zqi ru) (h u _ (I.tok _) ru)
def Zi1(I:Inv X pins Z H s)(e:H a=Wn (.ins C dx fs))(c:Cls X.K C)(k:Meth X.K C m g)(l:fs.lookup m=Wo)
 (h:Q (.ref g,[.ref a]) s):Yz (model X.prog X.w) A (getMethod (.ref a) m pl) Q E s:=by
 obtain⟨mA,O_,r,_,_,_⟩:=Zlo I.hok e;have hn:mA m=Wo:=Zgq.none_of (by rw[<- l];exact r m);exact Zsl I.kIn O_ (c.get m) k.at_ k.fn hn h
def ZiA(I:Inv X pins Z H s)(e:H a=Wn (.ins C dx fs))(c:Cls X.K C)(n:ZaP X.K C f)(hl:fs.length<1000)(ry:RelV y u)
 (h:∀s',Inv X pins Z (upd H a (.ins C dx (Zb4 f y fs))) s'->Q () s'):Yz (model X.prog X.w) A (setAttr (.ref a) f u) Q E s:=by
 obtain⟨mA,O_,r,wi,_,ho⟩:=Zlo I.hok e;have hz:(fs.map (·.1)).length<=sizeLine:=by rw[Ys,YA];lia
 refine Ztm I.kIn O_ c.sa c.po n.taker c.hd wi hz λh' O' sb=>h _ ?_;have hd:∃o,h'.get? dx=Wn o:=let ⟨o,_,_,e',_⟩:=O'.ns;⟨o,e'⟩;refine I.write (x:=a) (e:=dx) (by rw[e];exact True.intro) (.inr ho) (λb q hb z=>(sb.2 b hb).trans z) hd ?_;refine⟨by rw[Zy O_.ne];exact ho,?_,O_.ne,O'.obj,_,O'.ns,λg=>?_,λg hg=>?_⟩
 . have:=Zhj f y fs;lia
 . show Zgq ((Zb4 f y fs).lookup g) (if g=f then Wn u else mA g);rw[Zhh];by_cases q:g=f
   . rw[if_pos q,if_pos q];exact ry
   . rw[if_neg q,if_neg q];exact r g
 . by_cases q:g=f
   . rw[q];exact(ZgB f y fs).1
   . refine(ZgB f y fs).2 g (wi g λz=>hg ?_);show(if g=f then Wn u else mA g)=Wo;rw[if_neg q];exact z
def Inv.made(I:Inv X pins Z H s):Inv X pins Z (upd (upd H s.heap.objs.size (.own (s.heap.objs.size+1))) (s.heap.objs.size+1) (.ins C s.heap.objs.size []))
 {s with heap:=(s.heap.push YR).push (Wc C s.heap.objs.size)}:=by
 have e1:(s.heap.push YR).get? s.heap.objs.size=Wn YR:=Oj s.heap rfl;have e2:((s.heap.push YR).push (Wc C s.heap.objs.size)).get? (s.heap.objs.size+1)=Wn (Wc C s.heap.objs.size):=by
  have:=Oj (s.heap.push YR) (o:=Wc C s.heap.objs.size) rfl
  rwa [Heap.size_push]at this
 have e3:(s.heap.push YR).Ns s.heap.objs.size (λ_=>Wo):=⟨YR,#[],_,e1,rfl,(λe he=>absurd he (by simp)),λ_=>rfl⟩
 have I1:=I.laid (a:=s.heap.objs.size) (o:=.own (s.heap.objs.size+1)) (h':=s.heap.push YR) (t':=s.toks) (λb u q=>Od _ q) (Oq _) ⟨_,e1⟩;refine I1.laid (a:=s.heap.objs.size+1) (o:=.ins C s.heap.objs.size []) (t':=s.toks) (λb u q=>Od _ q) (Nat.le_of_eq (Heap.size_push _ _)) ?_;have ne:s.heap.objs.size≠s.heap.objs.size+1:=Ou (OH _);refine⟨by rw[Zy ne,Zo],Yv _,ne,e2,λ_=>Wo,(Heap.Ns1.of_empty e3).at λo q=>Od _ q,λ_=>True.intro,λy hy=>absurd rfl hy⟩
def Zvc(hb:attributeBase e f env (eval e env)=eval e env)
 (h:Yz (model prog w) A (eval e env) (λo s₁=>Yz (model prog w) A (getAttr o f Wp) Q E s₁) E s):Yz (model prog w) A (eval (.Attribute e f pos) env) Q E s:=
 Attribute_any_ h (by rw[arm_eval_Attribute,hb])
end
def ZAY(K:Yk)(ta:TE)(f:Str):TE:=λZ H Q=>ta Z H λx H1=>∃a C dx fs v,x=.ref a/\H1 a=Wn (.ins C dx fs)/\Cls K C/\ZaP K C f/\fs.lookup f=Wn v/\Q v H1
def ZA7(K:Yk)(ta tv:TE)(f:Str):TS:=λD Z H=>tv Z H λy H1=>ta Z H1 λx H2=>∃a C dx fs,x=.ref a/\H2 a=Wn (.ins C dx fs)/\Cls K C/\ZaP K C f/\fs.length<1000 /\
 D.nx Z (upd H2 a (.ins C dx (Zb4 f y fs)))
def ZAx(X:Cx)(op:Operator)(rd:V->V->Hp->VK->Prop):Prop:=∀(pins:List (Yi×Obj)) (s:Yb) (Z:St) (H:Hp) (x y:V) (u v:Yj) (Q:VK),Inv X pins Z H s->RelV x u->RelV y v->rd x y H Q->Yz (model X.prog X.w) X.A (inplaceOp op u v) (EP X pins Z Q) X.xe s
def Ztn(K:Yk)(ta tv:TE)(rd:V->V->Hp->VK->Prop)(f:Str):TS:=λD Z H=>ta Z H λx H1=>∃a C dx fs v,x=.ref a/\H1 a=Wn (.ins C dx fs)/\Cls K C/\ZaP K C f/\fs.lookup f=Wn v /\
 tv Z H1 λy H2=>rd v y H2 λz H3=>∃dx' fs',H3 a=Wn (.ins C dx' fs')/\fs'.length<1000/\D.nx Z (upd H3 a (.ins C dx' (Zb4 f z fs')))
section
variable {X:Cx}{o e value:Expr}{f:Str}{pos pos' tpos:Pos}{ta tv:TE}
def Zw2(he:PE X e ta)(hb:attributeBase e f X.env (eval e X.env)=eval e X.env):PE X (.Attribute e f pos) (ZAY X.K ta f):=by intro pins s Z H Q I h;refine Zvc hb (thn (he pins s Z H _ I h) λu s1 ⟨x,H1,I1,rx,a,C,dx,fs,v,ex,ea,c,n,l,q⟩=>?_);subst ex;obtain rfl:u=YB a:=rx;exact Zi2 I1 ea c n l λu' s2 I2 ru=>⟨v,H1,I2,ru,q⟩
def ZwR(ha:PE X o ta)(hv:PE X value tv)(hs:swapsWith value (Wn (.Attribute o f pos')) pos.line X.env=pure Wq):PS X (.Assign [.Attribute o f pos'] value pos) (ZA7 X.K ta tv f):=by intro pins s Z H D I h;refine plainObj_wpAny_Assign_Attribute (thn (hv pins s Z H _ I h) λu s1 ⟨y,H1,I1,ry,q⟩=>thn (ha pins s1 Z H1 _ I1 q) λov s2 ⟨x,H2,I2,rx,a,C,dx,fs,ex,ea,c,n,l,q2⟩=>?_) hs;subst ex;obtain rfl:ov=YB a:=rx;exact ZiA I2 ea c n l ry λs3 I3=>⟨Z,_,I3,q2⟩
def ZpU(ha:PE X o ta)(hv:PE X value tv)(hop:ZAx X op rd):PS X (.AugAssign (.Attribute o f tpos) op value pos) (Ztn X.K ta tv rd f):=by intro pins s Z H D I h;refine wpAny_AugAssign_AttributeAny (thn (ha pins s Z H _ I h) λov s1 ⟨x,H1,I1,rx,a,C,dx,fs,v,ex,ea,c,n,l,q⟩=>?_);subst ex;obtain rfl:ov=YB a:=rx;refine Zi2 I1 ea c n l λu s2 I2 ru=>thn (hv pins s2 Z H1 _ I2 q) λw3 s3 ⟨y,H2,I3,ry,q3⟩=>thn (hop pins s3 Z H2 v y u w3 _ I3 ru ry q3) λw4 s4 ⟨z,H3,I4,rz,dx',fs',ea',l',q4⟩=>?_;exact ZiA I4 ea' c n l' rz λs5 I5=>⟨Z,_,I5,q4⟩
def Zzh:V->V->Hp->VK->Prop:=λx y H Q=>∃i j,x=.int i/\y=.int j/\Q (.int (i+j)) H
def ZxG:ZAx X .Add Zzh:=by
 rintro pins s Z H x y u v Q I rx ry ⟨i,j,rfl,rfl,q⟩;obtain⟨t,rfl⟩:=(show ∃t,u=Value.int i t from rx)
 obtain⟨t',rfl⟩:=(show ∃t',v=Value.int j t' from ry)
 exact PyProof.Rows.iadd_int ⟨.int (i+j),H,I.tok _,⟨_,rfl⟩,q⟩
end
structure Room(k:Nat)(A:YF):Prop where
 hd:A.handled=Wo
 dp:A.depth+k+5<recursionLimit
 un:A.units+4 * k+1300<cLine
 gd:A.guards=Wn []
def Room.mono(r:Room k A)(h:j<=k):Room j A:=⟨r.hd,by have:=r.dp;lia,by have:=r.un;lia,r.gd⟩
theorem Room.deeper(r:Room (k+1) A)(env:Env):Room k (A.deeper env):=⟨r.hd,by have:=r.dp;show A.depth+1+k+5<_;lia,by have:=r.un;show A.units+3+4 * k+1300<_;lia,r.gd⟩
def ZnD{A:YF}:(A.under (.builtin "type.__call__" ⟨.ref C::us,kw⟩)).depth=A.depth+1:=by first|rfl|simp[Around.under,Code.weight,Code.isCreation,Code.isGuard,Code.isCaller,Code.frames,Code.isFrame,guardIds]
def ZnC{A:YF}:(A.under (.builtin "type.__call__" ⟨.ref C::us,kw⟩)).units=A.units+1:=by first|rfl|simp[Around.under,Code.cUnits,Code.frames,Code.isFrame]
def Room.make(r:Room (k+1) A)(C:Yi)(us:List Yj)(kw:List (Str×Yj)):Room k (A.under (.builtin "type.__call__" ⟨.ref C::us,kw⟩)):=⟨r.hd,by have:=r.dp;rw[ZnD];lia,by have:=r.un;rw[ZnC];lia,by first|exact r.gd|simpa[Around.under,Code.weight,Code.isCreation,Code.isGuard,Code.isCaller,Code.frames,Code.isFrame,guardIds]using r.gd⟩
theorem Room.depth(r:Room k A):A.depth<recursionLimit:=by have:=r.dp;lia
noncomputable def Zws:TA:=λ_ H Q=>Q [] H
noncomputable def ZyY(ta:TE)(tr:TA):TA:=λZ H Q=>ta Z H λx H1=>tr Z H1 λxs H2=>Q (x::xs) H2
section
variable {X:Cx}{e:Expr}{es:List Expr}{te:TE}{t:TA}{pos:Pos}
def Zb6:PA X [] Zws:=λ_ _ _ _ H Q I h=>Calls.spliced_nil ⟨[],H,I,.nil,h⟩
def Zav(ha:PE X e te)(hr:PA X es t)(hs:Yy (e::es) X.env=(Wq,eval e X.env)::Yy es X.env:=by rfl):PA X (e::es) (ZyY te t):=by intro pos pins s Z H Q I h;rw[hs];show Yz _ _ (spliced ((Wq,eval e X.env)::YQ pos (Yy es X.env))) _ _ s;refine Calls.spliced_cons (thn (ha pins s Z H _ I h) λu s1 ⟨x,H1,I1,r1,q1⟩=>?_);exact thn (hr pos pins s1 Z H1 _ I1 q1) λus s2 ⟨xs,H2,I2,r2,q2⟩=>⟨x::xs,H2,I2,.cons r1 r2,q2⟩
def ZAP(t:TA):TE:=λZ H Q=>t Z H λxs H1=>xs.length<=sizeLine/\∀p,H1 p=Wo->Q (.ref p) (upd H1 p (.tup xs))
def ZAU(t:TA):TE:=λZ H Q=>t Z H λxs H1=>xs.length<=sizeLine/\∀p,H1 p=Wo->Q (.ref p) (upd H1 p (.lst xs))
def ZwX{x1}(h:PA X es t):PE X (.Tuple es x1 pos) (ZAP t):=by intro pins s Z H Q I hq;refine wpAny_Tuple_spliced (thn (h pos pins s Z H _ I hq) λus s1 ⟨xs,H1,I1,r,z,q⟩=>⟨by rw[<- r.length];exact z,?_⟩);have hf:H1 s1.heap.objs.size=Wo:=I1.hok.fresh (Oq _);refine⟨.ref s1.heap.objs.size,upd H1 s1.heap.objs.size (.tup xs),I1.laid (t':=s1.toks) (λb u e=>Od _ e) (Oq _) ?_,rfl,q _ hf⟩;exact⟨z,us,r,⟨_,Oj _ rfl,rfl,rfl,_,rfl⟩⟩
def ZrE(h:PA X es t):PE X (.List es pos) (ZAU t):=by intro pins s Z H Q I hq;refine wpAny_List_spliced (thn (h pos pins s Z H _ I hq) λus s1 ⟨xs,H1,I1,r,z,q⟩=>⟨by rw[<- r.length];exact z,?_⟩);have hf:H1 s1.heap.objs.size=Wo:=I1.hok.fresh (Oq _);refine⟨.ref s1.heap.objs.size,upd H1 s1.heap.objs.size (.lst xs),I1.laid (t':=s1.toks) (λb u e=>Od _ e) (Oq _) ?_,rfl,q _ hf⟩;exact⟨z,us,0,r,Oj _ rfl⟩
end
abbrev Sp:=List V->Hp->VK->XK->Prop
abbrev CXT:=List Env->Hp->Yb->XK->Yj->Yb->Prop
structure Env0(P:Yh)(w:Yg)(K:Yk)(mg:Str->Option Yj)(base:YE)(A:YF)(outer:List Env)(s:Yb)(H:Hp):Prop where
 frames:A.frames=Wn outer
 mod:Mod K mg base
 bs:∀b o,base.get? b=Wn o->s.heap.get? b=Wn o/\H b=Wo
 bsz:base.objs.size<=s.heap.objs.size
 funs:s.heap.FunFrames base outer
 frf:∀b∈frs outer,H b=Wo
 hok:HOk P w H s.heap
 bare:AllBare s.gens
def CE(outer:List Env)(P:Yh)(w:Yg)(H:Hp)(s:Yb)(Q:VK)(u:Yj)(s':Yb):Prop:=∃v H',s'.os=s.os/\AllBare s'.gens/\Un (frs outer) [] H H' s.heap s'.heap/\HOk P w H' s'.heap/\RelV v u/\Q v H'
def CR(CX:CXT)(outer:List Env)(P:Yh)(w:Yg)(H:Hp)(s:Yb)(Q:VK)(E:XK)(r:Result)(s':Yb):Prop:=
 match r with
 |.ok (.ret u)=>CE outer P w H s Q u s'
 |.ok _=>False
 |.error e=>CX outer H s E e s'
structure FnOk(P:Yh)(w:Yg)(K:Yk)(mg:Str->Option Yj)(base:YE)(CX:CXT)(k:Nat)(f:Yi)(fd:FuncData)(ps:List Str)(sp:Sp):Prop where
 len:∀vs H Q E,sp vs H Q E->vs.length=ps.length
 run:∀(A:YF) (outer:List Env) (s:Yb) (H:Hp) (args:Args) (us:List Yj) (vs:List V) (Q:VK) (E:XK),Room k A->Env0 P w K mg base A outer s H->BindsTo s fd args (ps.zip us)->Zu vs us->sp vs H Q E ->
  codeAny (model P w) A (.call (.ref f) args) (CR CX outer P w H s Q E) s
def FnOk.imp{P:Yh}{w:Yg}{K:Yk}{mg:Str->Option Yj}{base:YE}{CX:CXT}{k:Nat}{f:Yi}{fd:FuncData}{ps:List Str}{sp sp':Sp}(F:FnOk P w K mg base CX k f fd ps sp)
 (h:∀vs H Q E,sp' vs H Q E->sp vs H Q E):FnOk P w K mg base CX k f fd ps sp':=
 ⟨λvs H Q E q=>F.len vs H Q E (h _ _ _ _ q),λA outer s H args us vs Q E hr he hb hv hs=>F.run A outer s H args us vs Q E hr he hb hv (h _ _ _ _ hs)⟩
def Env0.make{P:Yh}{w:Yg}{K:Yk}{mg:Str->Option Yj}{base:YE}{A:YF}{outer:List Env}{s:Yb}{H:Hp}(e:Env0 P w K mg base A outer s H)(C:Yi)(us:List Yj)(kw:List (Str×Yj)):
 Env0 P w K mg base (A.under (.builtin "type.__call__" ⟨.ref C::us,kw⟩)) outer s H:=⟨by first|exact e.frames|(simpa[Around.under,Code.envs,Code.isFrame,pushEnvs]using e.frames),e.mod,e.bs,e.bsz,e.funs,e.frf,e.hok,e.bare⟩
section
variable {X:Cx}{pins:List (Yi×Obj)}{Z:St}{H:Hp}{s s':Yb}
def Inv.env0(I:Inv X pins Z H s):Env0 X.prog X.w X.K X.mg X.base X.A X.stack s H:=⟨I.ok.frames,I.ok.mod,I.bs,OE I.ok.bsz I.sz,I.stack,I.stkFree,I.hok,I.bare⟩
def Inv.after(I:Inv X pins Z H s)(h:CE X.stack X.prog X.w H s Q u s'):EP X pins Z Q u s':=by obtain⟨v,H',os,bare,un,hok,r,q⟩:=h;obtain⟨hh,g,d,t,os'⟩:=s';obtain rfl:os'=s.os:=os;exact⟨v,H',I.call (h':=hh) (g':=g) (d':=d) (t':=t) (ch:=[]) un hok bare (λb z=>absurd z (by simp)),r,q⟩
end
noncomputable def ZyZ(sp:Sp)(dvs:List V)(E:XK)(t:TA):TE:=λZ H Q=>t Z H λvs H1=>sp (vs++dvs) H1 Q E
def Zvp(C:Yi)(m:Str)(sp:Sp)(dvs:List V)(E:XK)(ta:TE)(t:TA):TE:=λZ H Q=>ta Z H λx H1=>∃a dx fs,x=.ref a/\H1 a=Wn (.ins C dx fs)/\fs.lookup m=Wo /\
 t Z H1 λvs H2=>sp (x::(vs++dvs)) H2 Q E
def Zvq(C:Yi)(sp:Sp)(dvs:List V)(E:XK)(t:TA):TE:=λZ H Q=>t Z H λvs H1=>∀x dx,H1 x=Wo->H1 dx=Wo->dx≠x ->
 sp (.ref x::(vs++dvs)) (upd (upd H1 dx (.own x)) x (.ins C dx [])) (λv H2=>v=.non/\Q (.ref x) H2) E
def Binds(K:Yk)(fd:FuncData)(ps:List Str)(ds:List Yj):Prop:=∀(s:Yb) (us:List Yj),K.In s.heap->(us++ds).length=ps.length->BindsTo s fd ⟨us,[]⟩ (ps.zip (us++ds))
def Binds.all{K:Yk}(h:∀us:List Yj,us.length=ps.length->bindArgs fd ⟨us,[]⟩=pure (ps.zip us)):Binds K fd ps []:=λs us _ hl=>by rw[Yr]at hl ⊢;exact .of_eq (h us hl)
def ZbS(CX:CXT)(X:Cx)(E:XK):Prop:=∀(pins:List (Yi×Obj)) (Z:St) (H:Hp) (s:Yb) (e:Yj) (s':Yb),Inv X pins Z H s->CX X.stack H s E e s'->X.xe e s'
section
variable {X:Cx}{CX:CXT}{k:Nat}{f C:Yi}{fd:FuncData}{ps:List Str}{sp:Sp}{dvs:List V}{ds:List Yj}{E:XK}{x m:Str}{p pos apos:Pos}{e o:Expr}{es:List Expr}{ta:TE}{t:TA}
def Znm(F:FnOk X.prog X.w X.K X.mg X.base CX k f fd ps sp)(hr:Room k X.A)(hb:Binds X.K fd ps ds)(hd:Zu dvs ds)(hx:ZbS CX X E)
 (I:Inv X pins Z H s) (r:Zu vs us) (h:sp (vs++dvs) H Q E):Yz (model X.prog X.w) X.A (call (.ref f) us) (EP X pins Z Q) X.xe s:=by
 have r2:Zu (vs++dvs) (us++ds):=r.append hd;have hl:(us++ds).length=ps.length:=by rw[<- r2.length];exact F.len _ _ _ _ h
 refine wpAny_call (codeAny_mono (F.run X.A X.stack s H ⟨us,[]⟩ (us++ds) (vs++dvs) Q E hr I.env0 (hb s us I.kIn hl) r2 h) λr s' hq=>?_);cases r with
 |error e=>exact hx pins Z H s e s' I hq
 |ok fl=>
  cases fl with
  |ret u=>exact I.after hq
  |next=>exact False.elim hq
  |brk=>exact False.elim hq
  |cont=>exact False.elim hq
def ZtV(F:FnOk X.prog X.w X.K X.mg X.base CX k f fd ps sp)(hr:Room k X.A)(hg:Gl X x)(hm:X.mg x=Wn (.ref f))(hk:YZ X.K (.ref f)=Wp)(hb:Binds X.K fd ps ds)(hd:Zu dvs ds)(hx:ZbS CX X E)
 (ha:PA X (e::es) t) (hdb:(x==("__debug__" : Str))=Wq:=by decide) (he:Yy (e::es) X.env=(Wq,eval e X.env)::Yy es X.env:=by rfl) (hpl:(YQ pos (Yy es X.env)).any (·.1)=Wq:=by rfl) :
 PE X (.Call (.Name x p) (e::es) [] pos) (ZyZ sp dvs E t):=by
 intro pins s Z H Q I h;refine YV (ZcB I hg hm ?_ hdb);refine PySem.W.callWith_K (h₀:=X.base) I.ok.mod.kin hk (thn (ha pos pins s Z H _ I h) λus s1 ⟨vs,H1,I1,r,q⟩=>⟨I1.kIn,?_⟩) he hpl;exact Znm F hr hb hd hx I1 r q
def ZtQ(he:PE X o ta)(c:Cls X.K C)(hm:Meth X.K C m f)(F:FnOk X.prog X.w X.K X.mg X.base CX k f fd ps sp)(hr:Room k X.A)(hb:Binds X.K fd ps ds)(hd:Zu dvs ds)(hx:ZbS CX X E)(ha:PA X (e::es) t)
 (hst:Yy (e::es) X.env=(Wq,eval e X.env)::Yy es X.env:=by rfl) (hpl:(YQ pos (Yy es X.env)).any (·.1)=Wq:=by rfl)
 (ht:eval (.Call (.Attribute o m apos) (e::es) [] pos) X.env=(do
  let ov <- eval o X.env
  standAt apos.atName
  let (f,first) <- holding [ov] (getMethod ov m pl)
  callWith pos f first (YQ pos (Yy (e::es) X.env)) (backToKw pos (keywordEach [] X.env))):=by rfl) :
 PE X (.Call (.Attribute o m apos) (e::es) [] pos) (Zvp C m sp dvs E ta t):=by
 intro pins s Z H Q I h;refine PySem.W.methodCall_KW (pl:=pl) (thn (he pins s Z H _ I h) λu s1 ⟨x,H1,I1,rx,a,dx,fs,ex,ea,l,q⟩=>?_) ht;subst ex;obtain rfl:u=YB a:=rx;refine Zi1 I1 ea c hm l ?_;refine PySem.W.callWith_K (first:=[.ref a]) (h₀:=X.base) I.ok.mod.kin hm.kp (thn (ha pos pins s1 Z H1 _ I1 q) λus s2 ⟨vs,H2,I2,r,q2⟩=>⟨I2.kIn,?_⟩) hst hpl;exact Znm (us:=.ref a::us) (vs:=.ref a::vs) F hr hb hd hx I2 (.cons rfl r) q2
def ZrC(he:PE X o ta)(c:Cls X.K C)(hm:Meth X.K C m f)(F:FnOk X.prog X.w X.K X.mg X.base CX k f fd ps sp)(hr:Room k X.A)(hb:Binds X.K fd ps ds)(hd:Zu dvs ds)(hx:ZbS CX X E)
 (ht:eval (.Call (.Attribute o m apos) [] [] pos) X.env=(do
  let ov <- eval o X.env
  standAt apos.atName
  let (f,first) <- holding [ov] (getMethod ov m pl)
  callWith pos f first (YQ pos (Yy [] X.env)) (backToKw pos (keywordEach [] X.env))):=by rfl) :
 PE X (.Call (.Attribute o m apos) [] [] pos) (Zvp C m sp dvs E ta Zws):=by
 intro pins s Z H Q I h;refine PySem.W.methodCall_KW (pl:=pl) (thn (he pins s Z H _ I h) λu s1 ⟨x,H1,I1,rx,a,dx,fs,ex,ea,l,q⟩=>?_) ht;subst ex;obtain rfl:u=YB a:=rx;refine Zi1 I1 ea c hm l ?_;exact PySem.W.callWith_K0 (first:=[.ref a]) I1.kIn hm.kp (Znm (us:=[.ref a]) (vs:=[.ref a]) F hr hb hd hx I1 (.cons rfl .nil) q)
structure Mk(K:Yk)(C f:Yi):Prop where
 makes:PySem.W.makesIn K C=Wp
 init:YH K (.ref C) "__init__" = Wn (Wn (.ref f))
 fn:PySem.W.isFn K (.ref f)=Wp
 kp:YZ K (.ref C)=Wp
def Zl8(M:Mk X.K C f)(F:FnOk X.prog X.w X.K X.mg X.base CX k f fd ps sp)(hr:Room (k+1) X.A)(hb:Binds X.K fd ps ds)(hd:Zu dvs ds)
 (hx:ZbS CX X E) (I:Inv X pins Z H s) (r:Zu vs us)
 (h:∀x dx,H x=Wo->H dx=Wo->dx≠x->sp (.ref x::(vs++dvs)) (upd (upd H dx (.own x)) x (.ins C dx [])) (λv H2=>v=.non/\Q (.ref x) H2) E) :
 Yz (model X.prog X.w) X.A (call (.ref C) us) (EP X pins Z Q) X.xe s:=by
 have hq:=h (s.heap.objs.size+1) s.heap.objs.size (I.hok.fresh (Nat.le_succ _)) (I.hok.fresh (Oq _)) (Ou (OH _));have I2:=Inv.made (C:=C) I;have r2:Zu (V.ref (s.heap.objs.size+1)::(vs++dvs)) (YB (s.heap.objs.size+1)::(us++ds)):=.cons rfl (r.append hd);have hl:(YB (s.heap.objs.size+1)::us++ds).length=ps.length:=by have e:=r2.length;rw[F.len _ _ _ _ hq]at e;exact e.symm
 refine wpAny_call (Zr4 (f:=f) I.kIn M.makes M.init (beq_iff_eq.mp M.fn) (codeAny_mono (F.run _ X.stack _ _ ⟨YB (s.heap.objs.size+1)::us,[]⟩ (YB (s.heap.objs.size+1)::(us++ds)) _ _ E (hr.make C us [])
  (I2.env0.make C us []) (hb _ (YB (s.heap.objs.size+1)::us) I2.kIn hl) r2 hq) λr s' hq'=>?_))
 cases r with
 |error e=>exact hx pins Z _ _ e s' I2 hq'
 |ok fl=>
  cases fl with
  |ret u=>obtain⟨v,H',I3,rv,ev,q3⟩:=I2.after hq';subst ev;exact⟨rv,⟨V.ref (s.heap.objs.size+1),H',I3,rfl,q3⟩⟩
  |next=>exact False.elim hq'
  |brk=>exact False.elim hq'
  |cont=>exact False.elim hq'
def ZtS(M:Mk X.K C f)(F:FnOk X.prog X.w X.K X.mg X.base CX k f fd ps sp)(hr:Room (k+1) X.A)(hg:Gl X x)(hm:X.mg x=Wn (.ref C))(hb:Binds X.K fd ps ds)(hd:Zu dvs ds)(hx:ZbS CX X E)
 (ha:PA X (e::es) t) (hdb:(x==("__debug__" : Str))=Wq:=by decide) (he:Yy (e::es) X.env=(Wq,eval e X.env)::Yy es X.env:=by rfl) (hpl:(YQ pos (Yy es X.env)).any (·.1)=Wq:=by rfl) :
 PE X (.Call (.Name x p) (e::es) [] pos) (Zvq C sp dvs E t):=by
 intro pins s Z H Q I h;refine YV (ZcB I hg hm ?_ hdb);refine PySem.W.callWith_K (h₀:=X.base) I.ok.mod.kin M.kp (thn (ha pos pins s Z H _ I h) λus s1 ⟨vs,H1,I1,r,q⟩=>⟨I1.kIn,?_⟩) he hpl;exact Zl8 M F hr hb hd hx I1 r q
def ZrD(M:Mk X.K C f)(F:FnOk X.prog X.w X.K X.mg X.base CX k f fd ps sp)(hr:Room (k+1) X.A)(hg:Gl X x)(hm:X.mg x=Wn (.ref C))(hb:Binds X.K fd ps ds)(hd:Zu dvs ds)(hx:ZbS CX X E)
 (hdb:(x==("__debug__" : Str))=Wq:=by decide):PE X (.Call (.Name x p) [] [] pos) (Zvq C sp dvs E Zws):=by
 intro pins s Z H Q I h;refine YV (ZcB I hg hm ?_ hdb);exact PySem.W.callWith_K0 I.kIn M.kp (Zl8 (us:=[]) M F hr hb hd hx I .nil h)
end
structure FnScope(N P:List Str)(sc:Scope):Prop where
 kind:sc.kind=.function
 co:sc.isCoroutine=Wq
 gen:sc.isGenerator=Wq
 nd:N.Nodup
 pre:N.take P.length=P
 par:∀x∈P,sc.names.lookup x=Wn .local\/sc.names.lookup x=Wn .cell
 nofree:∀y∈sc.names,y.2≠.free
theorem ZkP{kindOf:Str->Option NameKind}:∀{binds:List (Str×Yj)}{m:Str->Option Yj},(∀v,(x,v) ∉ binds)->bindL kindOf binds m x=m x
 |[],_,_=>rfl
 |(n,v)::r,m,h=>by
  unfold bindL;rw[ZkP λw hw=>h w (Oh _ hw)];split
  . have:x≠n:=by rintro rfl;exact h v Oi
    simp[this]
  . rfl
theorem ZkR{kindOf:Str->Option NameKind}:∀{binds:List (Str×Yj)}{m:Str->Option Yj},(∀v,(x,v) ∉ binds)->bindC kindOf binds m x=m x
 |[],_,_=>rfl
 |(n,v)::r,m,h=>by
  unfold bindC;rw[ZkR λw hw=>h w (Oh _ hw)];split
  . rfl
  . have:x≠n:=by rintro rfl;exact h v Oi
    simp[this]
theorem ZkQ{kindOf:Str->Option NameKind}:∀{P:List Str}{vs:List Yj}{i:Nat}{m:Str->Option Yj},P.Nodup->P[i]? = Wn x->vs[i]? = Wn v->kindOf x=Wn .local ->
 bindL kindOf (P.zip vs) m x=Wn v
 |[],_,_,_,_,h,_,_=>by simp at h
 |_::_,[],_,_,_,_,h,_=>by simp at h
 |p::P,w::vs,0,m,nd,h1,h2,hk=>by simp at h1 h2;subst h1;subst h2;show bindL kindOf ((p,w)::P.zip vs) m p=_;unfold bindL;rw[ZkP λv hv=>(List.nodup_cons.mp nd).1 (List.of_mem_zip hv).1,if_pos hk];simp
 |p::P,w::vs,i+1,m,nd,h1,h2,hk=>by show bindL kindOf ((p,w)::P.zip vs) m x=_;unfold bindL;exact ZkQ (i:=i) (List.nodup_cons.mp nd).2 (by simpa using h1) (by simpa using h2) hk
theorem ZkS{kindOf:Str->Option NameKind}:∀{P:List Str}{vs:List Yj}{i:Nat}{m:Str->Option Yj},P.Nodup->P[i]? = Wn x->vs[i]? = Wn v->kindOf x≠Wn .local ->
 bindC kindOf (P.zip vs) m x=Wn v
 |[],_,_,_,_,h,_,_=>by simp at h
 |_::_,[],_,_,_,_,h,_=>by simp at h
 |p::P,w::vs,0,m,nd,h1,h2,hk=>by simp at h1 h2;subst h1;subst h2;show bindC kindOf ((p,w)::P.zip vs) m p=_;unfold bindC;rw[ZkR λv hv=>(List.nodup_cons.mp nd).1 (List.of_mem_zip hv).1,if_neg hk];simp
 |p::P,w::vs,i+1,m,nd,h1,h2,hk=>by show bindC kindOf ((p,w)::P.zip vs) m x=_;unfold bindC;exact ZkS (i:=i) (List.nodup_cons.mp nd).2 (by simpa using h1) (by simpa using h2) hk
noncomputable def start(N:List Str)(vs:List V):St:=vs.map Wn++YI (N.length - vs.length) Wo
def ZnP(CX:CXT)(P:Yh)(w:Yg)(K:Yk)(mg:Str->Option Yj)(base:YE)(N:List Str)(qual:Str)(scope:Scope)(f:Yi)(cd:Yj)(A:YF)(outer:List Env)(s:Yb)(H:Hp)(E:XK):Cx where
 prog:=P
 w:=w
 K:=K
 mg:=mg
 base:=base
 A:=A.deeper (envOfC qual scope s.heap.objs.size f cd)
 N:=N
 s₀:=s
 H₀:=H
 env:=envOfC qual scope s.heap.objs.size f cd
 outer:=outer
 stack:=envOfC qual scope s.heap.objs.size f cd::outer
 ex:=[]
 calm:=Wp
 fn:=λ_=>Wp
 pn:=[]
 xe:=λe s'=>Yz (model P w) (A.deeper (envOfC qual scope s.heap.objs.size f cd)) (leaving (envOfC qual scope s.heap.objs.size f cd) e) (λ_ s''=>CX outer H s E e s'') (λe' s''=>CX outer H s E e' s'') s'
def ZmO{sc:Scope}(h:sc.names.lookup x=Wn .cell):∃c,(cellsFrom n sc.names []).lookup x=Wn c:=by have q:=PySem.W.cellsFrom_some sc.names n [] (.inl h);exact Option.isSome_iff_exists.mp q
def Zqf{CX:CXT}{P:Yh}{w:Yg}{K:Yk}{mg:Str->Option Yj}{base:YE}{N ps:List Str}{qual:Str}{scope:Scope}{f:Yi}{cd:Yj}{A:YF}{outer:List Env}{s s1:Yb}{H:Hp}{E:XK}{us:List Yj}{vs:List V}
 (S_:FnScope N ps scope) (hd:A.handled=Wo) (e0:Env0 P w K mg base A outer s H) (hl:vs.length=ps.length) (r:Zu vs us)
 (x:InCallC s s.heap.objs.size (bindL (envOfC qual scope s.heap.objs.size f cd).kindOf (ps.zip us) λ_=>Wo) (cellsFrom (s.heap.objs.size+1) scope.names []) (bindC (envOfC qual scope s.heap.objs.size f cd).kindOf (ps.zip us) λ_=>Wo) s1) :
 Inv (ZnP CX P w K mg base N qual scope f cd A outer s H E) [] (start N vs) H s1:=by
 have hpl:ps.length<=N.length:=by have:=congrArg List.length S_.pre;rw[List.length_take]at this;lia
 obtain⟨h1,tk,rfl,hk⟩:=x.done;have noA:∀b:Yi,b ∉ (ZnP CX P w K mg base N qual scope f cd A outer s H E).ex:=λb z=>absurd (show b∈([]:List Yi)from z) (by simp);refine⟨⟨e0.mod,S_.kind,rfl,rfl,Oq _,λy z c h1 h2=>?_,λy hy=>?_,λy c _ h=>?_,λ_=>hd,Around.frames_deeper e0.frames,.inr ⟨rfl,rfl⟩,λb z=>absurd z (noA b),e0.bs,e0.bsz,λb _ _=>noA b,λb z=>absurd z (noA b),e0.funs,e0.frf⟩,
  rfl,e0.bare,Un.kept hk,⟨_,x.toInCall.ns,λi y v h1 h2 h3=>?_⟩,λy c h=>⟨_,x.cell y c h⟩,e0.hok.fresh (Oq _),λy c h=>?_,λp hp=>absurd (show p∈([]:List (Yi×Obj))from hp) (by simp),e0.hok.kept hk,?_⟩
 . exact name_of_addr x.apart (YG h1) (YG h2)
 . have hy:scope.names.lookup y=Wn .cell\/scope.names.lookup y=Wn .free:=hy;rcases hy with hy|hy
   . exact ZmO hy
   . exact absurd rfl (S_.nofree _ (YG hy))
 . exact Nat.le_of_lt (x.above y c (YG h))
 . have hi:i<vs.length:=by
    unfold start at h2;by_cases hi:i<vs.length
    . exact hi
    . rw[Om (by simpa using hi)]at h2;rw[List.getElem?_replicate]at h2;split at h2<;>cases h2
   have ha:vs[i]? = Wn v:=by
    unfold start at h2;rw[Oe (by simpa using hi),On]at h2;cases e:vs[i]? with
    |none=>rw[e]at h2;cases h2
    |some a=>rw[e]at h2;cases h2;rfl
   obtain⟨u,hu,rv⟩:=r.get ha;have hp:ps[i]? = Wn y:=by rw[<- S_.pre,List.getElem?_take_of_lt (by lia)];exact h1
   have ndP:ps.Nodup:=by rw[<- S_.pre];exact S_.nd.sublist (List.take_sublist _ _)
   refine⟨u,rv,?_⟩;rcases S_.par y (O1 hp)with k|k
   . exact .inl ⟨k,ZkQ ndP hp hu k⟩
   . obtain⟨c,e⟩:=ZmO (n:=s.heap.objs.size+1) k;refine .inr ⟨.inl k,c,e,?_⟩;have q:=x.cell y c e;rw[ZkS ndP hp hu (by show scope.names.lookup y≠_;rw[k];decide)]at q;exact q
 . exact e0.hok.fresh (Nat.le_of_lt (x.above y c (YG h)))
 . unfold start;show _=N.length;rw[OA,Ys,List.length_replicate]
   lia
def Zz8{CX:CXT}{P:Yh}{w:Yg}{K:Yk}{mg:Str->Option Yj}{base:YE}{k:Nat}{f:Yi}{name qual:Str}{params:Arguments}{body:List Stmt}{scope:Scope}{dV kV doc pm cdv ct oc:Yj}{an od:Option Yi}
 {osl:Array (Option Yj)}{N ps:List Str}{sp:Sp} (lk:K.lookup f=Wn ⟨oc,od,.func (PySem.W.fnOf name qual params body scope dV kV doc pm an cdv ct),osl⟩) (hcd:PySem.W.codeIn K cdv qual=Wp) (S_:FnScope N ps scope)
 (len:∀vs H Q E,sp vs H Q E->vs.length=ps.length)
 (hbody:∀(A:YF) (outer:List Env) (s:Yb) (H:Hp) (vs:List V) (Q:VK) (E:XK),Room k (A.deeper (envOfC qual scope s.heap.objs.size f cdv))->sp vs H Q E ->
  ∃t,PSs (ZnP CX P w K mg base N qual scope f cdv A outer s H E) body t/\t {nx:=λ_ H'=>Q .non H',rt:=Q} (start N vs) H) :
 FnOk P w K mg base CX (k+1) f (PySem.W.fnOf name qual params body scope dV kV doc pm an cdv ct) ps sp:=by
 refine⟨len,λA outer s H args us vs Q E hr e0 hb r hsp=>?_⟩;have hl:=len _ _ _ _ hsp;have KX:K.In s.heap:=e0.mod.kin.keeps λb o e=>(e0.bs b o e).1;have lim:s.heap.NoLimit:=e0.mod.nolimit.keeps λb o e=>(e0.bs b o e).1;have hkind:∀y∈ps.zip us,scope.names.lookup y.1=Wn .local\/(scope.names.lookup y.1=Wn .cell/\((cellsFrom (s.heap.objs.size+1) scope.names []).lookup y.1).isSome=Wp):=λ⟨n,v⟩ hy=>by
  rcases S_.par n (List.of_mem_zip hy).1 with q|q
  . exact .inl q
  . exact .inr ⟨q,PySem.W.cellsFrom_some _ _ _ (.inl q)⟩
 refine codeAny_call_function hr.depth (KX _ _ lk) rfl S_.co S_.gen rfl (PySem.W.codeRec_of KX hcd) (hb _ _ _ _ ?_);refine wpAny_newFunctionEnv_cells S_.kind hkind λenv he s1 x=>?_;subst he;refine⟨lim.keeps x.toInCall.keep,codeAny_func ?_⟩;obtain⟨t,ht,hq⟩:=hbody A outer s H vs Q E (hr.deeper _) hsp;have I:Inv (ZnP CX P w K mg base N qual scope f cdv A outer s H E) [] (start N vs) H s1:=Zqf S_ hr.hd e0 hl r x;refine Yf (ht [] s1 (start N vs) H _ I hq) (λfl s' hs=>?_) λe s' hs=>hs;have fin:∀{σ':St}{H':Hp}{v:V}{u:Yj},Inv (ZnP CX P w K mg base N qual scope f cdv A outer s H E) [] σ' H' s'->RelV v u->Q v H'->CE outer P w H s Q u s':=λ{σ' H' v u} J rv q=>⟨v,H',J.os,J.bare,J.base,J.hok,rv,q⟩
 cases fl with
 |ret u=>obtain⟨v,σ',H',J,rv,q⟩:=hs;exact fin J rv q
 |next=>obtain⟨σ',H',J,q⟩:=hs;exact fin (v:=V.non) (u:=Value.none) J rfl q
 |brk=>obtain⟨_,_,_,q⟩:=hs;exact False.elim q
 |cont=>obtain⟨_,_,_,q⟩:=hs;exact False.elim q
section
variable {X:Cx}{x:Str}{p pos:Pos}{e:Expr}{es:List Expr}{t:TA}{id T:String}{r:List V->Hp->VK->Prop}
noncomputable def tCB(r:List V->Hp->VK->Prop)(t:TA):TE:=λZ H Q=>t Z H λvs H1=>r vs H1 Q
def Zcj(hc:Zaa X (.builtin id) r)(hg:Gl X x)(hm:X.mg x=Wo)(hv:bootBuiltins x=Wn (.builtin id))(ha:PA X (e::es) t)(hn:x ≠ "__name__" := by decide)(hdb:(x==("__debug__" : Str))=Wq:=by decide)
 (he:Yy (e::es) X.env=(Wq,eval e X.env)::Yy es X.env:=by rfl) (hpl:(YQ pos (Yy es X.env)).any (·.1)=Wq:=by rfl):PE X (.Call (.Name x p) (e::es) [] pos) (tCB r t):=by
 intro pins s Z H Q I h;refine YV (Zdc I hg hm hv ?_ hn hdb);exact PyProof.Rows.callWith_builtin1 (thn (ha pos pins s Z H _ I h) λus s1 ⟨vs,H1,I1,r1,q1⟩=>hc pins s1 Z H1 vs us Q I1 r1 q1) he hpl
def Zci(hc:Zaa X (.type T) r)(hg:Gl X x)(hm:X.mg x=Wo)(hv:bootBuiltins x=Wn (.type T))(ha:PA X (e::es) t)(hn:x ≠ "__name__" := by decide)(hdb:(x==("__debug__" : Str))=Wq:=by decide)
 (he:Yy (e::es) X.env=(Wq,eval e X.env)::Yy es X.env:=by rfl) (hpl:(YQ pos (Yy es X.env)).any (·.1)=Wq:=by rfl):PE X (.Call (.Name x p) (e::es) [] pos) (tCB r t):=by
 intro pins s Z H Q I h;refine YV (Zdc I hg hm hv ?_ hn hdb);exact PyProof.Rows.callWith_type1 (thn (ha pos pins s Z H _ I h) λus s1 ⟨vs,H1,I1,r1,q1⟩=>hc pins s1 Z H1 vs us Q I1 r1 q1) he hpl
end
end L2
namespace HT
open PySem PyProof.Rows
section
variable {prog:Yh}{w:Yg}{A:YF}{E:Yj->Yb->Prop}{s:Yb}
def ZuS(ht:IsTup s.heap t vs.toArray)(hb:IsTup s.heap b ws.toArray)(hv:vs≠[])
 (h1:ws=[]->Q (.ref t) s) (h2:ws≠[]->Q (.ref s.heap.objs.size) {s with heap:=s.heap.push {cls:=.type "tuple",data:=.seq (vs++ws).toArray}})
 (hsz:vs.length+ws.length<=sizeLine):Yz (model prog w) A (binaryOp .Add (.ref t) (.ref b)) Q E s:=by
 obtain⟨⟨cls,dd,data,sl⟩,ho,hc,n,hd⟩:=id ht;obtain⟨⟨cls2,dd2,data2,sl2⟩,ho2,hc2,n2,hd2⟩:=id hb;simp only at hc hd hc2 hd2;subst hc hd hc2 hd2;have e:vs.toArray++ws.toArray=(vs++ws).toArray:=by simp
 by_cases hw:ws=[]
 . exact concat_meets ⟨_,ho,rfl⟩ ⟨_,ho2,rfl⟩ noFill_tuple_add seq_tuple_add PySem.F.slot_tuple_add PySem.F.entry_tuple_add (PySem.F.args_tuple_add_2 _ _)
    (tuple_addW1 t b vs.toArray ws.toArray n n2 dd dd2 sl sl2 (by simpa using hv) (by simp[hw])) ⟨ho,ho2,h1 hw⟩
 . refine concat_meets ⟨_,ho,rfl⟩ ⟨_,ho2,rfl⟩ noFill_tuple_add seq_tuple_add PySem.F.slot_tuple_add PySem.F.entry_tuple_add (PySem.F.args_tuple_add_2 _ _)
    (tuple_addW2 t b vs.toArray ws.toArray n n2 dd dd2 sl sl2 (by simpa using hv) (by simpa using hw) (by rw[Of,Of];exact hsz)) ⟨ho,ho2,?_⟩
   rw[e];exact h2 hw
noncomputable def sIx(n d:Nat):Option Int->Nat
 |none=>d
 |some v=>if v<0 then(v+(n:Int)).toNat else min v.toNat n
def Zl7(n d:Nat):sIx n d Wo=d:=rfl
def Zii(n d k:Nat):sIx n d (Wn (k:Int))=min k n:=by show(if (k:Int)<0 then((k:Int)+(n:Int)).toNat else min (k:Int).toNat n)=min k n;rw[if_neg (by lia),Int.toNat_natCast]
def ZwC(n d:Nat)(hd:d<=n)(o:Option Int):sIx n d o<=n:=by
 cases o with
 |none=>exact hd
 |some v=>
  show(if v<0 then(v+(n:Int)).toNat else min v.toNat n)<=n;by_cases hv:v<0
  . rw[if_pos hv];lia
  . rw[if_neg hv];exact Nat.min_le_right _ _
def Zpl(v:Int)(n d:Nat):(if v<0 then max (v+(n:Int)) 0 else min v (n:Int))=((sIx n d (Wn v):Nat):Int):=by
 show(if v<0 then max (v+(n:Int)) 0 else min v (n:Int))=(((if v<0 then(v+(n:Int)).toNat else min v.toNat n):Nat):Int)
 by_cases hv:v<0
 . simp only[if_pos hv];lia
 . simp only[if_neg hv];lia
def ZnU(lo hi:Option Int)(n:Nat):Builtin.Slice.sliceAdjust lo hi 1 (n:Int)=(((sIx n 0 lo:Nat):Int),((sIx n n hi:Nat):Int)):=by
 have h1:¬ ((1:Int)<0):=by lia
 unfold Builtin.Slice.sliceAdjust;simp only[h1,if_false];refine Prod.ext ?_ ?_
 . cases lo with
   |none=>rfl
   |some v=>exact Zpl v n 0
 . cases hi with
   |none=>rfl
   |some v=>exact Zpl v n n
def Znr(i j:Nat):Builtin.Slice.slicePlaces (i:Int) (j:Int) 1=j - i:=by
 unfold Builtin.Slice.slicePlaces;have h1:(1:Int) > 0:=by lia
 simp only[h1,if_true,Int.ediv_one];split<;>lia
def Ziy(p:IsPart v o)(h:Q o s):Yz (model prog w) A (Builtin.Slice.slicePartIndex v) Q E s:=by
 cases p with
 |none=>exact slicePart_none h
 |int i t=>exact slicePart_int h
def Zce{sl:Yi}{vl vu:Yj}{lo hi:Option Int}{n:Nat}{Q:Int×Int×Nat->Yb->Prop}(hs:s.heap.IsSliceOf sl vl vu .none)(pl:IsPart vl lo)(pu:IsPart vu hi)
 (h:Q (((sIx n 0 lo:Nat):Int),1,sIx n n hi - sIx n 0 lo) s):Yz (model prog w) A (Builtin.Slice.sliceApplied (.ref sl) (pure (n:Int))) Q E s:=by
 obtain⟨os,hos,hcs,hds⟩:=id hs;unfold Builtin.Slice.sliceApplied Builtin.Slice.sliceFields;refine Ya (Ya (YO hos hds (x:=vl) rfl (Ya (YO hos hds (x:=vu) rfl (Ya (YO hos hds (x:=.none) rfl (Yc ?_)))))));refine Ya (slicePart_none ?_);show Yz _ _ (if ((1:Int)==0)=Wp then _ else _) _ _ s;rw[if_neg (by decide)];refine Ya (Ziy pl (Ya (Ziy pu (Ya (Yc ?_)))));show Yz _ _ (match Builtin.Slice.sliceAdjust lo hi 1 (n:Int)with|(lo,hi)=>pure (lo,(1:Int),Builtin.Slice.slicePlaces lo hi 1)) _ _ s;rw[ZnU lo hi n];show Yz _ _ (pure (((sIx n 0 lo:Nat):Int),(1:Int),Builtin.Slice.slicePlaces ((sIx n 0 lo:Nat):Int) ((sIx n n hi:Nat):Int) 1)) _ _ s;rw[Znr];exact Yc h
def Zrx(xs:Array Yj)(i k:Nat):((List.range k).filterMap λ(m:Nat)=>xs[((i:Int)+(m:Int) * 1).toNat]?).toArray=((xs.toList.drop i).take k).toArray:=by
 have e:(λ(m:Nat)=>xs[((i:Int)+(m:Int) * 1).toNat]?)=λm=>xs[i+m]? := by
  funext m;have:((i:Int)+(m:Int) * 1).toNat=i+m:=by lia
  rw[this]
 rw[e];have:=pick_run xs i k;rw[List.filterMap_map]at this;have e2:((λx=>xs[x]?) ∘ λx=>i+x)=λm=>xs[i+m]? := rfl;rw[e2]at this;rw[this]
def ZfK{t sl:Yi}{items:Array Yj}{vl vu:Yj}{lo hi:Option Int}{Q:Yj->Yb->Prop}(ht:IsTup s.heap t items)(hs:s.heap.IsSliceOf sl vl vu .none)(pl:IsPart vl lo)(pu:IsPart vu hi)
 (hw:¬ (sIx items.size 0 lo=0/\sIx items.size items.size hi=items.size))
 (h:Q (.ref s.heap.objs.size) {s with heap:=s.heap.push {cls:=.type "tuple",data:=.seq ((items.toList.drop (sIx items.size 0 lo)).take (sIx items.size items.size hi - sIx items.size 0 lo)).toArray}})
 (hsz:items.size<=sizeLine):Yz (model prog w) A (getItem (.ref t) (.ref sl)) Q E s:=by
 have htake:sizeOk (.seq ((items.toList.drop (sIx items.size 0 lo)).take (sIx items.size items.size hi - sIx items.size 0 lo)).toArray):=by
  show((items.toList.drop (sIx items.size 0 lo)).take (sIx items.size items.size hi - sIx items.size 0 lo)).toArray.size<=sizeLine;rw[Of,List.length_take,List.length_drop,Array.length_toList]
  lia
 have hj:sIx items.size items.size hi<=items.size:=ZwC _ _ (Oq _) hi;obtain⟨os,hos,hcs,hds⟩:=id hs;have hTs:s.TypeIs (.ref sl) "slice" := ⟨os,hos,hcs⟩
 unfold getItem
 try with_reducible refine Wa ?_
 first|refine Ya (Yc ?_)|skip
 refine Ya (wpAny_sequenceKey ht.typeIs (by decide) ?_);refine Ya (YX (name:=O "__getitem__") ht.typeIs Wf
  (Wb Wf ht.typeIs entry_tuple_getitem ?_ (args_tuple_getitem _ _)))
 show Yz _ _ (Builtin.Tuple.tupleItemsOf (.ref t) >>= _) _ _ s;refine Ya (tupleItemsOf_ ht ?_);refine Ya (wpAny_typeOf hTs ?_);rw[if_pos (by decide)];refine Ya (Zce hs pl pu ?_);have hno:¬ ((((sIx items.size 0 lo:Nat):Int)==0&&(1:Int)==1&&(sIx items.size items.size hi - sIx items.size 0 lo)==items.size)=Wp):=by intro q;rw[Oa,Oa]at q;have q1:((sIx items.size 0 lo:Nat):Int)=0:=eq_of_beq q.1.1;have q2:sIx items.size items.size hi - sIx items.size 0 lo=items.size:=eq_of_beq q.2;exact hw ⟨by lia,by lia⟩
 show Yz _ _ (if (((sIx items.size 0 lo:Nat):Int)==0&&(1:Int)==1&&(sIx items.size items.size hi - sIx items.size 0 lo)==items.size)=Wp then _ else _) _ _ s;rw[if_neg hno,Zrx]
 first
  |exact Ya (m:=Builtin.Tuple.tupleExact _) (Yp (Yc ⟨_,rfl,Yc h⟩) htake)
  |exact Ya (m:=Builtin.Tuple.tupleExact _) (Yp (Ya (Yc (Yc ⟨_,rfl,Yc h⟩))) htake)
  |exact Ya (Ya (m:=Builtin.Tuple.tupleExact _) (Yp (Yc (Yc ⟨_,rfl,Yc h⟩)) htake))
  |exact Ya (Ya (m:=Builtin.Tuple.tupleExact _) (Yp (Yc ⟨_,rfl,Yc h⟩) htake))
end
end HT
namespace L2
open PySem PySem.Spec PyProof.Rows
abbrev TO:=St->Hp->(Option Int->Hp->Prop)->Prop
def PO(X:Cx)(e:Option Expr)(t:TO):Prop:=
 ∀(pins:List (Yi×Obj)) (s:Yb) (Z:St) (H:Hp) (Q:Option Int->Hp->Prop),Inv X pins Z H s->t Z H Q ->
  Yz (model X.prog X.w) X.A (evalPart e X.env) (λu s'=>∃o H',Inv X pins Z H' s'/\IsPart u o/\Q o H') X.xe s
noncomputable def Ztg:TO:=λ_ H Q=>Q Wo H
noncomputable def ZyS(t:TE):TO:=λZ H Q=>t Z H λx H1=>∃i,x=.int i/\Q (Wn i) H1
section
variable {X:Cx}{e:Expr}{te:TE}{lo hi:Option Expr}{tl th:TO}{pos p2:Pos}
def ZtJ:PO X Wo Ztg:=by intro pins s Z H Q I h;rw[evalPart_none];exact Yc ⟨Wo,H,I,.none,h⟩
def ZtI(h:PE X e te):PO X (Wn e) (ZyS te):=by intro pins s Z H Q I hw;rw[evalPart_some];refine thn (h pins s Z H _ I hw) λu s1 ⟨x,H1,I1,r1,q1⟩=>?_;obtain⟨i,rfl,q⟩:=q1;obtain⟨t,rfl⟩:=r1;exact⟨Wn i,H1,I1,.int i t,q⟩
def SlR(X:Cx)(r:V->Option Int->Option Int->Hp->VK->Prop):Prop:=
 ∀(pins:List (Yi×Obj)) (s:Yb) (Z:St) (H:Hp) (x:V) (v vl vu:Yj) (lo hi:Option Int) (sl:Yi) (Q:VK),Inv X pins Z H s->RelV x v->s.heap.IsSliceOf sl vl vu .none->IsPart vl lo->IsPart vu hi->r x lo hi H Q ->
  ∃T id,typeLookup (.type T) "__getitem__" = pure (Wn (.builtin id))/\s.TypeIs v T/\Yz (model X.prog X.w) X.A (getItem v (.ref sl)) (EP X pins Z Q) X.xe s
def tSl(r:V->Option Int->Option Int->Hp->VK->Prop)(te:TE)(tl th:TO):TE:=λZ H Q=>te Z H λx H1=>tl Z H1 λl H2=>th Z H2 λu H3=>r x l u H3 Q
def ZrA(hr:SlR X r)(he:PE X e te)(hl:PO X lo tl)(hu:PO X hi th):PE X (.Subscript e (.Slice lo hi Wo p2) pos) (tSl r te tl th):=by intro pins s Z H Q I h;refine Subscript_ (thn (he pins s Z H _ I h) λv s1 ⟨x,H1,I1,r1,q1⟩=>?_);refine wpAny_Slice (thn (hl pins s1 Z H1 _ I1 q1) λvl s2 ⟨l,H2,I2,pl,q2⟩=>thn (hu pins s2 Z H2 _ I2 q2) λvu s3 ⟨u,H3,I3,pu,q3⟩=>?_);rw[evalPart_none];refine Yc ?_;have I4:Inv X pins Z H3 {s3 with heap:=s3.heap.push {cls:=.type "slice",data:=.fields #[vl,vu,.none]}}:=I3.kept (t':=s3.toks) λb ob q=>Od _ q;obtain⟨T,id,hT,ht,hg⟩:=hr pins {s3 with heap:=s3.heap.push {cls:=.type "slice",data:=.fields #[vl,vu,.none]}} Z H3 x v vl vu l u s3.heap.objs.size Q I4 r1 (Heap.IsSliceOf.new ..) pl pu q3;show Yz (model X.prog X.w) X.A (subscriptTail e (.Slice lo hi Wo p2) v (.ref s3.heap.objs.size)) (EP X pins Z Q) X.xe {s3 with heap:=s3.heap.push {cls:=.type "slice",data:=.fields #[vl,vu,.none]}};exact tail_any (ops:=[.ref s3.heap.objs.size,v]) ht hT hg (by with_unfolding_all rfl)
def ZmF(xs:List V)(lo hi:Option Int):List V:=(xs.drop (HT.sIx xs.length 0 lo)).take (HT.sIx xs.length xs.length hi - HT.sIx xs.length 0 lo)
def Zhx(xs:List V)(lo hi:Option Int):(ZmF xs lo hi).length<=xs.length:=by
 unfold ZmF;rw[List.length_take,List.length_drop]
 lia
def ZBc(K:Yk):V->Option Int->Option Int->Hp->VK->Prop:=λx lo hi H Q=>∃a xs,x=.ref a/\SqT K H a xs /\
 ¬ (HT.sIx xs.length 0 lo=0/\HT.sIx xs.length xs.length hi=xs.length)/\∀p,H p=Wo->Q (.ref p) (upd H p (.tup (ZmF xs lo hi)))
def Zww:SlR X (ZBc X.K):=by
 intro pins s Z H x v vl vu lo hi sl Q I rx hs pl pu h;obtain⟨a,xs,rfl,hx,hw,q⟩:=h;cases rx;obtain⟨its,r,ht,hz⟩:=I.tuple hx;have hlen:its.toArray.size=xs.length:=by rw[Of];exact r.length.symm
 refine⟨"tuple",_,PyProof.Rows.slot_tuple_getitem.lookup,ht.typeIs,?_⟩;refine HT.ZfK ht hs pl pu (by rw[hlen];exact hw) ?_ (by rw[hlen];exact hz);rw[hlen];refine⟨.ref s.heap.objs.size,_,I.laid (t':=s.toks) (o:=.tup (ZmF xs lo hi)) (λb ob q=>Od _ q) (Oq _) ?_,rfl,q _ (I.hok.fresh (Oq _))⟩;exact⟨OE (Zhx xs lo hi) hz,_,(r.drop (HT.sIx xs.length 0 lo)).take (HT.sIx xs.length xs.length hi - HT.sIx xs.length 0 lo),Zbi.fresh _ _⟩
def Zzf(K:Yk):R2:=λx y H Q=>∃a b xs ys,x=.ref a/\y=.ref b/\SqT K H a xs/\SqT K H b ys/\xs≠[]/\xs.length+ys.length<=sizeLine /\
 (ys=[]->Q (.ref a) H)/\(ys≠[]->∀p,H p=Wo->Q (.ref p) (upd H p (.tup (xs++ys))))
def Zu.nil_iff(r:Zu xs us):us=[]↔xs=[]:=by
 cases r with
 |nil=>simp
 |cons _ _=>simp
def Zt0:OpR X (binaryOp .Add) (Zzf X.K):=by intro pins s Z H x y v u Q I rx ry h;obtain⟨a,b,xs,ys,rfl,rfl,ha,hb,hx,hz,q1,q2⟩:=h;cases rx;cases ry;obtain⟨its,r1,p1,_⟩:=I.tuple ha;obtain⟨its2,r2,p2,_⟩:=I.tuple hb;refine HT.ZuS p1 p2 (λz=>hx (r1.nil_iff.mp z)) (λz=>⟨.ref a,H,I,rfl,q1 (r2.nil_iff.mp z)⟩) (λz=>?_) (by rw[<- r1.length,<- r2.length];exact hz);refine⟨.ref s.heap.objs.size,_,I.laid (t':=s.toks) (o:=.tup (xs++ys)) (λb ob q=>Od _ q) (Oq _) ?_,rfl,q2 (λw=>z (r2.nil_iff.mpr w)) _ (I.hok.fresh (Oq _))⟩;exact⟨by rw[OA];exact hz,_,r1.append r2,Zbi.fresh _ _⟩
end
noncomputable def ixN(n:Nat)(i:Int):Option Nat:=if 0<=i then(if i<n then Wn i.toNat else Wo)else if -(n:Int)<=i then Wn (i+n).toNat else Wo
def atI(xs:List α)(i:Int):Option α:=(ixN xs.length i).bind λj=>xs[j]?
def ZoY(h:ixN n i=Wn j):seqIndex? i n=Wn j/\j<n/\-(n:Int)<=i/\i<n:=by
 unfold ixN at h;by_cases h0:0<=i
 . rw[if_pos h0]at h;by_cases h1:i<n
   . rw[if_pos h1]at h;have e:i.toNat=j:=YD h;exact⟨by rw[seqIndex_of h0 h1,e],by lia,by lia,h1⟩
   . rw[if_neg h1]at h;cases h
 . rw[if_neg h0]at h;by_cases h1:-(n:Int)<=i
   . rw[if_pos h1]at h;have e:(i+n).toNat=j:=YD h;exact⟨by rw[seqIndex_neg (by lia) h1,e],by lia,h1,by lia⟩
   . rw[if_neg h1]at h;cases h
def ZlW(h:atI xs i=Wn v):∃j,seqIndex? i xs.length=Wn j/\xs[j]? = Wn v/\j<xs.length/\-(xs.length:Int)<=i/\i<xs.length:=by
 unfold atI at h;cases e:ixN xs.length i with
 |none=>rw[e]at h;cases h
 |some j=>rw[e]at h;obtain⟨h1,h2,h3,h4⟩:=ZoY e;exact⟨j,h1,h,h2,h3,h4⟩
def ZlY(b:Expr):Prop:=∀o i,subscripted b Wq o i=operate [o,i] (getItem o i)
def IxR(X:Cx)(r:R2):Prop:=
 ∀(value slice:Expr) (pins:List (Yi×Obj)) (s:Yb) (Z:St) (H:Hp) (x y:V) (v u:Yj) (Q:VK),Inv X pins Z H s->RelV x v->RelV y u->r x y H Q ->
  subscripted slice Wq v u=operate [v,u] (getItem v u)->Yz (model X.prog X.w) X.A (subscriptTail value slice v u) (EP X pins Z Q) X.xe s
def MtR(X:Cx)(id:String)(r:V->List V->Hp->VK->Prop):Prop:=
 ∀(pins:List (Yi×Obj)) (s:Yb) (Z:St) (H:Hp) (x:V) (xs:List V) (v:Yj) (us:List Yj) (Q:VK),Inv X pins Z H s->RelV x v->Zu xs us->r x xs H Q ->
  Yz (model X.prog X.w) X.A (call (.builtin id) (v::us)) (EP X pins Z Q) X.xe s
section
variable {X:Cx}{a b:Expr}{ta tb:TE}{pos:Pos}
def Zzq{r:R2}(hr:IxR X r)(ha:PE X a ta)(hb:PE X b tb)(hs:ZlY b):PE X (.Subscript a b pos) (tOp r ta tb):=by intro pins s Z H Q I h;exact Subscript_ (Zya ha hb I h λv u s2 x y H2 I2 rx ry q=>hr a b pins s2 Z H2 x y v u Q I2 rx ry q (hs _ _))
def ZBj(K:Yk):R2:=λx y H Q=>∃p xs i v,x=.ref p/\y=.int i/\SqL K H p xs/\atI xs i=Wn v/\Q v H
def ZBh(K:Yk):R2:=λx y H Q=>∃p xs i v,x=.ref p/\y=.int i/\SqT K H p xs/\atI xs i=Wn v/\Q v H
def ZBi:R2:=λx y H Q=>∃z i c,x=.str z/\y=.int i/\z.length<=sizeLine/\atI z.cps.toList i=Wn c/\Q (.str ⟨#[c]⟩) H
def Zux:IxR X (ZBj X.K):=by
 intro value slice pins s Z H x y v u Q I rx ry h hs;obtain⟨p,xs,i,z,rfl,rfl,hq,he,q⟩:=h;cases rx;obtain⟨t,rfl⟩:=ry;obtain⟨its,r,pl,hz⟩:=I.list hq;obtain⟨j,h1,h2,h3,h4,h5⟩:=ZlW he;obtain⟨w,ew,rw'⟩:=r.get h2;have hl:=r.length;have hn:=ZcA;have fin:EP X pins Z Q w s:=⟨z,H,I,rw',q⟩
 by_cases h0:0<=i
 . have hj:i.toNat=j:=by rw[seqIndex_of h0 h5]at h1;exact YD h1
   exact item_listR pl.isList h0 (by lia) (by rw[hj];simpa using ew) fin hs
 . have hj:(i+(its.toArray.size:Int)).toNat=j:=by rw[seqIndex_neg (by lia) h4]at h1;rw[Of,<- hl];exact YD h1
   exact subscriptTail_builtinR (x:=w) pl.isList.typeIs slot_list_getitem.lookup
    (wpAny_getItem_list_neg (Q:=λr s'=>r=w/\EP X pins Z Q r s') pl.isList (by lia) (by rw[Of]<;>lia) (by lia) (by rw[hj];simpa using ew) ⟨rfl,fin⟩) hs
def ZxC:IxR X (ZBh X.K):=by
 intro value slice pins s Z H x y v u Q I rx ry h hs;obtain⟨p,xs,i,z,rfl,rfl,hq,he,q⟩:=h;cases rx;obtain⟨t,rfl⟩:=ry;obtain⟨its,r,pl,hz⟩:=I.tuple hq;obtain⟨j,h1,h2,h3,h4,h5⟩:=ZlW he;obtain⟨w,ew,rw'⟩:=r.get h2;have hl:=r.length;have hn:=ZcA;have fin:EP X pins Z Q w s:=⟨z,H,I,rw',q⟩
 exact subscriptTail_builtinR (x:=w) pl.typeIs slot_tuple_getitem.lookup
  (getItem_tuple (j:=j) (Q:=λr s'=>r=w/\EP X pins Z Q r s') pl (by lia) (by lia) (by rw[Of,<- hl];exact h1) (by simpa using ew) ⟨rfl,fin⟩) hs
theorem ZxD:IxR X ZBi:=by
 intro value slice pins s Z H x y v u Q I rx ry h hs;obtain ⟨z,i,c,rfl,rfl,hz,he,q⟩:=h;obtain ⟨t,rfl⟩:=rx;obtain ⟨t',rfl⟩:=ry;obtain ⟨j,h1,h2,h3,h4,h5⟩:=ZlW he;have hl:z.cps.toList.length=z.length:=by simp [Str.length]
 rw [hl] at h1 h4 h5;have hn:=ZcA;exact tail_any (typeIs_str s z t) slot_str_getitem.lookup (getItem_str (c:=c) (by
   have e1:Wr (i < -(2 ^ 63:Int))=Wq:=decide_eq_false (by lia);have e2:Wr (i ≥ 2 ^ 63)=Wq:=decide_eq_false (by lia);rw [e1,e2,Bool.or_false]) (by rw [h1];simpa using h2) ⟨.str ⟨#[c]⟩,H,I.tok _,⟨_,rfl⟩,q⟩) hs
def ZnB(its:List Yj)(n j:Nat)(u:Yj):Obj.mapSeq (·.setIfInBounds j u) {cls:=.type "list",data:=.seq its.toArray n}={cls:=.type "list",data:=.seq (its.set j u).toArray n}:=by simp[Obj.mapSeq]
theorem Inv.lst(I:Inv X pins Z H s)(h:H p=Wn (.lst xs)):
 ∃(its:List Yj) (n:Nat),Zu xs its/\s.heap.get? p=Wn {cls:=.type "list",data:=.seq its.toArray n}/\xs.length<=sizeLine:=by
 obtain⟨z,its,n,r,e⟩:=I.hok p _ h;exact⟨its,n,r,e,z⟩
def Inv.lstUpd{pins:List (Yi×Obj)}{Z:St}{H:Hp}{s:Yb}{p:Yi}{xs ys:List V}{its its':List Yj}{n n':Nat}{f:Obj->Obj}(I:Inv X pins Z H s)(h:H p=Wn (.lst xs))
 (ho:s.heap.get? p=Wn {cls:=.type "list",data:=.seq its.toArray n}) (hf:f {cls:=.type "list",data:=.seq its.toArray n}={cls:=.type "list",data:=.seq its'.toArray n'}) (r:Zu ys its') (hz:ys.length<=sizeLine) (t:Nat) :
 Inv X pins Z (upd H p (.lst ys)) {s with heap:=s.heap.update p f,toks:=t}:=by
 have e:(s.heap.update p f).get? p=Wn {cls:=.type "list",data:=.seq its'.toArray n'}:=by rw[YU f ho (by rw[hf]<;>rfl),hf]
 refine I.write (x:=p) (e:=p) (by rw[h];trivial) (.inl rfl) (λb u hb q=>(YL _ _ (YJ hb)).trans q) ⟨_,e⟩ ?_;exact⟨hz,its',n',r,e⟩
def Zzd:V->V->V->Hp->(Hp->Prop)->Prop:=λo i v H Q=>∃p xs k j,o=.ref p/\i=.int k/\H p=Wn (.lst xs)/\ixN xs.length k=Wn j/\Q (upd H p (.lst (xs.set j v)))
def set_list:Zvg X Zzd:=by
 intro pins s Z H o i v ov iv u Q I ro ri rv h;obtain⟨p,xs,k,j,rfl,rfl,hp,hj,q⟩:=h;cases ro;obtain⟨t,rfl⟩:=ri;obtain⟨its,n,r,ho,hz⟩:=I.lst hp;obtain⟨h1,h2,h3,h4⟩:=ZoY hj;have hl:=r.length;have hn:=ZcA;have I':Inv X pins Z (upd H p (.lst (xs.set j v))) {s with heap:=s.heap.update p (Obj.mapSeq (·.setIfInBounds j u))}:=I.lstUpd hp ho (ZnB its n j u) (r.set rv j) (by rw[List.length_set];exact hz) s.toks
 by_cases h0:0<=k
 . have hk:k.toNat=j:=by rw[seqIndex_of h0 h4]at h1;exact YD h1
   exact PySem.W.ki_setAt ho h0 (by lia) (by rw[Of,<- hl];exact h4) (by rw[hk];exact⟨_,I',q⟩)
 . have hk:(k+(its.toArray.size:Int)).toNat=j:=by rw[seqIndex_neg (by lia) h3]at h1;rw[Of,<- hl];exact YD h1
   exact PySem.W.ki_setBack ho (by lia) (by rw[Of,<- hl];exact h3) (by lia) (by rw[hk];exact⟨_,I',q⟩)
def Zk1(lo hi:Option Int)(n:Nat):(sliceBounds lo hi Wo n).1=((HT.sIx n 0 lo:Nat):Int)/\(sliceBounds lo hi Wo n).2.1=((HT.sIx n n hi:Nat):Int)/\(sliceBounds lo hi Wo n).2.2=1:=by
 refine⟨?_,?_,rfl⟩
 . cases lo with
   |none=>simp[sliceBounds,HT.sIx]
   |some i=>
    simp only[sliceBounds,HT.sIx,Option.getD_none,show(1:Int) > 0 by decide,if_true];by_cases h:i<0
    . simp only[h,if_true]<;>lia
    . simp only[h,if_false]<;>lia
 . cases hi with
   |none=>simp[sliceBounds,HT.sIx]
   |some i=>
    simp only[sliceBounds,HT.sIx,Option.getD_none,show(1:Int) > 0 by decide,if_true];by_cases h:i<0
    . simp only[h,if_true]<;>lia
    . simp only[h,if_false]<;>lia
def ZjB(its:List Yj)(lo hi:Option Int):slicePick its.toArray lo hi Wo=((its.drop (HT.sIx its.length 0 lo)).take (HT.sIx its.length its.length hi - HT.sIx its.length 0 lo)).toArray:=by obtain⟨h1,h2,h3⟩:=Zk1 lo hi its.toArray.size;unfold slicePick;rw[h1,h2,h3];simp only[sliceRange_one,pick_run,Of]<;>rfl
def ZBe(K:Yk):V->Option Int->Option Int->Hp->VK->Prop:=λx lo hi H Q=>∃a xs,x=.ref a/\SqL K H a xs/\∀p,H p=Wo->Q (.ref p) (upd H p (.lst (ZmF xs lo hi)))
def Ztj:SlR X (ZBe X.K):=by intro pins s Z H x v vl vu lo hi sl Q I rx hs pl pu h;obtain⟨a,xs,rfl,hx,q⟩:=h;cases rx;obtain⟨its,r,ht,hz⟩:=I.list hx;have hlen:=r.length;refine⟨"list",_,slot_list_getitem.lookup,ht.isList.typeIs,?_⟩;refine wpAny_getItem_list_slice ht.isList hs pl pu .none (by simp) ?_ (by rw[Of]<;>lia);rw[ZjB,<- hlen];refine⟨.ref s.heap.objs.size,_,I.laid (t':=s.toks) (o:=.lst (ZmF xs lo hi)) (λb ob q=>Od _ q) (Oq _) ?_,rfl,q _ (I.hok.fresh (Oq _))⟩;exact⟨OE (Zhx xs lo hi) hz,_,0,(r.drop (HT.sIx xs.length 0 lo)).take (HT.sIx xs.length xs.length hi - HT.sIx xs.length 0 lo),Oj _ rfl⟩
noncomputable def Zeb:V->Bool
 |.non=>Wp
 |.bl _=>Wp
 |.int _=>Wp
 |.str _=>Wp
 |_=>Wq
noncomputable def eqV:V->V->Bool
 |.non,.non=>Wp
 |.bl a,.bl b=>a==b
 |.bl a,.int b=>(if a then 1 else 0)==b
 |.int a,.bl b=>a==(if b then 1 else 0)
 |.int a,.int b=>a==b
 |.str a,.str b=>a==b
 |_,_=>Wq
def ZxY(ry:RelV y u)(rx:RelV x v)(fy:Zeb y=Wp)(fx:Zeb x=Wp):SeqAt.EqAt A s u v (eqV y x):=by
 cases y with
 |non=>
  cases ry;cases x with
  |non=>cases rx;exact SeqAt.EqAt.same _
  |bl b=>cases rx;exact SeqAt.EqAt.none_bool b
  |int b=>obtain⟨t,rfl⟩:=rx;exact SeqAt.EqAt.none_int b t
  |str b=>obtain⟨t,rfl⟩:=rx;exact SeqAt.EqAt.none_str b t
  |_=>exact absurd (show Wq=Wp from fx) Ow
 |bl a=>
  cases ry;cases x with
  |non=>cases rx;exact SeqAt.EqAt.bool_none a
  |bl b=>cases rx;exact SeqAt.EqAt.bool_bool a b
  |int b=>obtain⟨t,rfl⟩:=rx;exact SeqAt.EqAt.bool_int a b t
  |str b=>obtain⟨t,rfl⟩:=rx;exact SeqAt.EqAt.bool_str a b t
  |_=>exact absurd (show Wq=Wp from fx) Ow
 |int a=>
  obtain⟨t',rfl⟩:=ry;cases x with
  |non=>cases rx;exact SeqAt.EqAt.int_none a t'
  |bl b=>cases rx;exact SeqAt.EqAt.int_bool a t' b
  |int b=>obtain⟨t,rfl⟩:=rx;exact SeqAt.EqAt.int_int a t' b t
  |str b=>obtain⟨t,rfl⟩:=rx;exact SeqAt.EqAt.int_str a t' b t
  |_=>exact absurd (show Wq=Wp from fx) Ow
 |str a=>
  obtain⟨t',rfl⟩:=ry;cases x with
  |non=>cases rx;exact SeqAt.EqAt.str_none a t'
  |bl b=>cases rx;exact SeqAt.EqAt.str_bool a t' b
  |int b=>obtain⟨t,rfl⟩:=rx;exact SeqAt.EqAt.str_int a t' b t
  |str b=>obtain⟨t,rfl⟩:=rx;exact SeqAt.EqAt.str_str a t' b t
  |_=>exact absurd (show Wq=Wp from fx) Ow
 |_=>exact absurd (show Wq=Wp from fy) Ow
def eqU(x:V)(u:Yj):Bool:=match u with
 |.none=>eqV .non x
 |.bool b=>eqV (.bl b) x
 |.int i _=>eqV (.int i) x
 |.str z _=>eqV (.str z) x
 |_=>Wq
def ZsF(r:RelV y u)(f:Zeb y=Wp):eqU x u=eqV y x:=by
 cases y with
 |non=>cases r;rfl
 |bl b=>cases r;rfl
 |int i=>obtain⟨t,rfl⟩:=r;rfl
 |str z=>obtain⟨t,rfl⟩:=r;rfl
 |_=>exact absurd (show Wq=Wp from f) Ow
theorem Zgp:∀{xs:List V}{us:List Yj},Zu xs us->xs.all Zeb=Wp->us.any (eqU x)=xs.any λy=>eqV y x
 |_,_,.nil,_=>rfl
 |y::xs,u::us,.cons r t,f=>by rw[List.all_cons,Oa]at f;rw[YY,YY,ZsF r f.1,Zgp t f.2]
theorem Zc8(rx:RelV x v)(fx:Zeb x=Wp):∀{xs:List V}{us:List Yj},Zu xs us->xs.all Zeb=Wp->∀u∈us,SeqAt.EqAt A s u v (eqU x u)
 |_,_,.nil,_=>λu hu=>by cases hu
 |y::xs,u::us,.cons r t,f=>λu' hu=>by
  rw[List.all_cons,Oa]at f;rcases O2.mp hu with rfl|hu
  . rw[ZsF r f.1];exact ZxY r rx f.1 fx
  . exact Zc8 rx fx t f.2 u' hu
def inV(x:V)(xs:List V):Bool:=xs.any λy=>eqV y x
def rIn(K:Yk)(neg:Bool):R2:=λx y H Q=>∃p xs,y=.ref p/\(SqL K H p xs\/SqT K H p xs)/\Zeb x=Wp/\xs.all Zeb=Wp/\Q (.bl (if neg then !inV x xs else inV x xs)) H
def Zp1:OpR X (YK .In) (rIn X.K Wq):=by
 intro pins s Z H x y v u Q I rx ry h;obtain⟨p,xs,rfl,hq,fx,fs,q⟩:=h;cases ry;rcases hq with hq|hq
 . obtain⟨its,r,pl,hz⟩:=I.list hq;refine SeqAt.in_listAt (eqU x) pl.isList (λw hw=>Zc8 rx fx r fs w (by simpa using hw)) ⟨.bl _,H,I,rfl,?_⟩;rw[show its.toArray.any (eqU x)=its.any (eqU x) by simp,Zgp r fs];exact q
 . obtain⟨its,r,pl,hz⟩:=I.tuple hq;refine SeqAt.in_tupleAt (eqU x) pl (λw hw=>Zc8 rx fx r fs w (by simpa using hw)) ⟨.bl _,H,I,rfl,?_⟩;rw[show its.toArray.any (eqU x)=its.any (eqU x) by simp,Zgp r fs];exact q
def Zk4:OpR X (YK .NotIn) (rIn X.K Wp):=by
 intro pins s Z H x y v u Q I rx ry h;obtain⟨p,xs,rfl,hq,fx,fs,q⟩:=h;cases ry;rcases hq with hq|hq
 . obtain⟨its,r,pl,hz⟩:=I.list hq;refine SeqAt.notIn_listAt (eqU x) pl.isList (λw hw=>Zc8 rx fx r fs w (by simpa using hw)) ⟨.bl _,H,I,rfl,?_⟩;rw[show its.toArray.any (eqU x)=its.any (eqU x) by simp,Zgp r fs];exact q
 . obtain⟨its,r,pl,hz⟩:=I.tuple hq;refine SeqAt.notIn_tupleAt (eqU x) pl (λw hw=>Zc8 rx fx r fs w (by simpa using hw)) ⟨.bl _,H,I,rfl,?_⟩;rw[show its.toArray.any (eqU x)=its.any (eqU x) by simp,Zgp r fs];exact q
def ZlE:Zaa X (.builtin "len") (λxs H Q=>∃p ys,xs=[.ref p]/\(SqL X.K H p ys\/SqT X.K H p ys)/\Q (.int ys.length) H):=by
 intro pins s Z H xs us Q I r h;obtain⟨p,ys,rfl,hq,q⟩:=h;obtain⟨u,rfl,rx⟩:=vals1 r;cases rx;have hn:=ZcA;rcases hq with hq|hq
 . obtain⟨its,r',pl,hz⟩:=I.list hq;have hlen:=r'.length;exact Calls.call_len_list pl.isList (by simp only[Of]<;>lia) ⟨.int ys.length,H,I.tok _,⟨s.toks+1,by rw[Of,hlen]⟩,q⟩
 . obtain⟨its,r',pl,hz⟩:=I.tuple hq;have hlen:=r'.length;exact len_tuple pl (by simp only[Of]<;>lia) ⟨.int ys.length,H,I.tok _,⟨s.toks+1,by rw[Of,hlen]⟩,q⟩
def ZlD:Zaa X (.builtin "len") (λxs H Q=>∃z,xs=[.str z]/\z.length<=sizeLine/\Q (.int z.length) H):=by intro pins s Z H xs us Q I r h;obtain⟨z,rfl,hz,q⟩:=h;obtain⟨u,rfl,t,rfl⟩:=vals1 r;have hn:=ZcA;exact len_str (by lia) ⟨.int z.length,H,I.tok _,⟨_,rfl⟩,q⟩
def ZlC:Zaa X (.type "list") (λxs H Q=>∃p ys,xs=[.ref p]/\(SqL X.K H p ys\/SqT X.K H p ys)/\∀l,H l=Wo->Q (.ref l) (upd H l (.lst ys))):=by
 intro pins s Z H xs us Q I r h;obtain⟨p,ys,rfl,hq,q⟩:=h;obtain⟨u,rfl,rx⟩:=vals1 r;cases rx;have fin:∀(its:List Yj),Zu ys its->ys.length<=sizeLine->∀(h':YE) (c':Nat),(∀b o',s.heap.get? b=Wn o'->h'.get? b=Wn o') ->
  h'.get? s.heap.objs.size=Wn {cls:=.type "list",dict:=Wo,data:=.seq its.toArray c',slots:=#[]}->EP X pins Z Q (.ref s.heap.objs.size) {s with heap:=h'}:=λits r' hz h' c' kp e=>
  ⟨.ref s.heap.objs.size,_,I.laid (t':=s.toks) kp (Oq _) (show Zaq X.prog X.w _ h' _ (.lst ys)from⟨hz,its,c',r',e⟩),rfl,q _ (I.hok.fresh (Oq _))⟩
 rcases hq with hq|hq
 . obtain⟨its,r',pl,hz⟩:=I.list hq;have hlen:=r'.length;obtain⟨o,ho,hc,n,hd⟩:=pl.isList;exact call_list_seq p (.inl rfl) ho hc hd (λh' c' kp e=>fin its r' hz h' c' kp e) (by simp only[Of]<;>lia)
 . obtain⟨its,r',pl,hz⟩:=I.tuple hq;have hlen:=r'.length;obtain⟨o,ho,hc,n,hd⟩:=pl;exact call_list_seq p (.inr rfl) ho hc hd (λh' c' kp e=>fin its r' hz h' c' kp e) (by simp only[Of]<;>lia)
def Zef:Zaa X (.type "tuple") (λxs H Q=>∃p ys,xs=[.ref p]/\((SqL X.K H p ys/\∀l,H l=Wo->Q (.ref l) (upd H l (.tup ys)))\/(SqT X.K H p ys/\Q (.ref p) H))):=by
 intro pins s Z H xs us Q I r h;obtain⟨p,ys,rfl,h⟩:=h;obtain⟨u,rfl,rx⟩:=vals1 r;cases rx;rcases h with ⟨hq,q⟩|⟨hq,q⟩
 . obtain⟨its,r',pl,hz⟩:=I.list hq;have hlen:=r'.length;refine call_tuple_list pl.isList (λh' kp=>?_) (by simp only[Of]<;>lia);have I1:Inv X pins Z H {s with heap:=h'}:=I.kept (t':=s.toks) kp;have I2:Inv X pins Z (upd H h'.objs.size (.tup ys)) {s with heap:=h'.push {cls:=.type "tuple",data:=.seq its.toArray}}:=I1.laid (t':=s.toks) (λb o e=>Od _ e) (Oq _) (show Zaq X.prog X.w _ _ _ (.tup ys)from⟨hz,its,r',Zbi.fresh _ _⟩)
   exact⟨.ref h'.objs.size,_,I2,rfl,q _ (I1.hok.fresh (Oq _))⟩
 . obtain⟨its,r',pl,hz⟩:=I.tuple hq;exact call_tuple_same pl ⟨.ref p,H,I,rfl,q⟩
def tyV(K:Yk)(T:String)(x:V)(H:Hp):Prop:=match x with
 |.str _=>T = "str"
 |.int _=>T = "int"
 |.ref p=>(T = "list" /\ ∃xs,SqL K H p xs)\/(T = "tuple" /\ ∃o,K.lookup p=Wn o/\o.cls=.type "tuple" /\ o.dict=Wo) \/
  (T = "dict" /\ ((∃kvs,H p=Wn (.dK kvs))\/∃kvs,H p=Wn (.dT kvs)))\/(T = "set" /\ ∃S_ n,H p=Wn (.set S_ n))
 |_=>False
def ZqH(I:Inv X pins Z H s)(r:RelV x v)(ty:tyV X.K T x H):
 s.TypeIs v T/\∀a,v=.ref a->∃ob,s.heap.get? a=Wn ob/\ob.dict=Wo:=by
 cases x with
 |str z=>obtain⟨t,rfl⟩:=r;cases (show T = "str" from ty);exact⟨typeIs_str s z t,λ_ e=>nomatch e⟩
 |int i=>obtain⟨t,rfl⟩:=r;cases (show T = "int" from ty);exact⟨typeIs_int s i t,λ_ e=>nomatch e⟩
 |ref p=>
  cases r;rcases ty with ⟨rfl,xs,hq⟩|⟨rfl,o,hk,hc,hd⟩|⟨rfl,hk⟩|⟨rfl,S_,n,hk⟩
  . obtain⟨its,_,pl,_⟩:=I.list hq;refine⟨pl.isList.typeIs,λa e=>?_⟩;cases e;obtain⟨o,n,e,c,hd,_⟩:=pl;exact⟨o,e,hd⟩
  . refine⟨⟨o,I.kIn p o hk,hc⟩,λa e=>?_⟩;cases e;exact⟨o,I.kIn _ o hk,hd⟩
  . have z:∃o,s.heap.get? p=Wn o/\o.ExactDict:=by
     rcases hk with ⟨kvs,hk⟩|⟨kvs,hk⟩
     . obtain⟨_,_,_,_,o,_,_,e,ex,_⟩:=I.hok p _ hk;exact⟨o,e,ex⟩
     . obtain⟨_,_,_,_,o,_,_,e,ex,_⟩:=I.hok p _ hk;exact⟨o,e,ex⟩
    obtain⟨o,e,ex⟩:=z;refine⟨⟨o,e,ex.1⟩,λa e2=>?_⟩;cases e2;exact⟨o,e,ex.2.1⟩
  . obtain⟨o,_,_,_,e,ex,_⟩:=I.hok p _ hk;refine⟨⟨o,e,ex.1⟩,λa e2=>?_⟩;cases e2;exact⟨o,e,ex.2.1⟩
 |_=>exact False.elim ty
noncomputable def ZA0(K:Yk)(T:String)(r:V->List V->Hp->VK->Prop)(to:TE):TE:=λZ H Q=>to Z H λx H1=>tyV K T x H1/\r x [] H1 Q
noncomputable def tBM(K:Yk)(T:String)(r:V->List V->Hp->VK->Prop)(to:TE)(t:TA):TE:=λZ H Q=>to Z H λx H1=>tyV K T x H1/\t Z H1 λxs H2=>r x xs H2 Q
variable {o e:Expr}{es:List Expr}{to:TE}{t:TA}{name:Str}{apos cpos:Pos}{T id:String}{r:V->List V->Hp->VK->Prop}
def Zw5(pa:PlainAttrs T)(slot:Slot T name id)(hty:typeOf (.builtin id)=pure (.type "method_descriptor"))(hm:MtR X id r)(ho:PE X o to)
 (hbase:attributeBase o name X.env (eval o X.env)=eval o X.env:=by rfl) (hline:(apos.endLine==cpos.line)=Wp:=by rfl):PE X (.Call (.Attribute o name apos) [] [] cpos) (ZA0 X.K T r to):=by
 intro pins s Z H Q I h;refine wpAny_Call_method0_late hbase hline (thn (ho pins s Z H _ I h) λv s1 ⟨x,H1,I1,r1,ty,q1⟩=>?_);obtain⟨h1,h2⟩:=ZqH I1 r1 ty;exact⟨T,id,pa,slot,hty,h1,h2,Calls.callWith_builtin rfl (PySem.evalArgs_none (hm pins s1 Z H1 x [] v [] Q I1 r1 .nil q1))⟩
def ZvF(pa:PlainAttrs T)(slot:Slot T name id)(hty:typeOf (.builtin id)=pure (.type "method_descriptor"))(hm:MtR X id r)(ho:PE X o to)(ha:PA X (e::es) t)
 (hbase:attributeBase o name X.env (eval o X.env)=eval o X.env:=by rfl)
 (hfew:((YQ cpos (Yy (e::es) X.env)).all (λx=>!x.1)&&(backToKw cpos (keywordEach [] X.env)).all (λx=>x.1.isSome)
  && Wr ((e::es).length+([]:List Keyword).length+(if ([]:List Keyword).isEmpty then 0 else 1)<30))=Wp:=by rfl)
 (hline:(apos.endLine==cpos.line)=Wp:=by rfl) (hs:Yy (e::es) X.env=(Wq,eval e X.env)::Yy es X.env:=by rfl) (hplain:(YQ cpos (Yy es X.env)).any (·.1)=Wq:=by rfl) :
 PE X (.Call (.Attribute o name apos) (e::es) [] cpos) (tBM X.K T r to t):=by
 intro pins s Z H Q I h;refine wpAny_Call_method_late hbase hfew hline rfl (thn (ho pins s Z H _ I h) λv s1 ⟨x,H1,I1,r1,ty,q1⟩=>?_);obtain⟨h1,h2⟩:=ZqH I1 r1 ty;refine⟨T,id,pa,slot,hty,h1,h2,?_⟩;have hA:=ha cpos pins s1 Z H1 _ I1 q1;rw[hs]at hA ⊢;refine Calls.callWith_builtin (by show(Wq || (YQ cpos (Yy es X.env)).any (·.1))=Wq;rw[hplain]<;>rfl) (Calls.evalArgs_plain ?_);exact thn hA λus s2 ⟨vs,H2,I2,r2,q2⟩=>hm pins s2 Z H2 x vs v us Q I2 r1 r2 q2
end
def MtM(X:Cx)(id:String)(r:V->List V->Hp->VK->Prop):Prop:=
 ∀(pins:List (Yi×Obj)) (s:Yb) (Z:St) (H:Hp) (x:V) (xs:List V) (v:Yj) (us:List Yj) (Q:VK),Inv X pins Z H s->RelV x v->Zu xs us->r x xs H Q ->
  Yz (model X.prog X.w) X.A (call (.builtin id) (v::us)) (EP X pins Z Q) X.xe s
def Zu.one:∀{x:V}{us:List Yj},Zu [x] us->∃u,us=[u]/\RelV x u
 |_,_,.cons r .nil=>⟨_,rfl,r⟩
def Zu.zero:∀{us:List Yj},Zu [] us->us=[]
 |_,.nil=>rfl
theorem Zu.dropLast(h:Zu xs us):Zu xs.dropLast us.dropLast:=by
 induction h with
 |nil=>exact .nil
 |cons r t ih=>
  cases t with
  |nil=>exact .nil
  |cons q t'=>exact .cons r ih
theorem Zu.reverse(h:Zu xs us):Zu xs.reverse us.reverse:=by
 induction h with
 |nil=>exact .nil
 |cons r t ih=>rw[List.reverse_cons,List.reverse_cons];exact Zu.append ih (.cons r .nil)
theorem Zu.rep(h:Zu xs us):∀k:Nat,Zu (YI k xs).flatten (YI k us).flatten
 |0=>.nil
 |k+1=>by rw[List.replicate_succ,List.replicate_succ,List.flatten_cons,List.flatten_cons];exact Zu.append h (Zu.rep h k)
def ZnO(l:List α):l.eraseIdx (l.length - 1)=l.dropLast:=by
 induction l with
 |nil=>rfl
 |cons a r ih=>
  cases r with
  |nil=>rfl
  |cons b r=>
   have e:(a::b::r).length - 1=((b::r).length - 1)+1:=by
    have h1:(a::b::r).length=r.length+2:=rfl;have h2:(b::r).length=r.length+1:=rfl
    lia
   rw[e,List.eraseIdx_cons_succ,ih]
   all_goals rfl
theorem foldl_rep(its:List Yj):∀(k:Nat) (acc:List Yj),
 List.foldl (λx1 x2=>x1++x2) acc.toArray (YI k its.toArray)=(acc++(YI k its).flatten).toArray
 |0,acc=>by simp
 |k+1,acc=>by
  have e:acc.toArray++its.toArray=(acc++its).toArray:=by simp
  have e2:(acc++its)++(YI k its).flatten=acc++(YI (k+1) its).flatten:=by rw[List.replicate_succ,List.flatten_cons,Oz]
  rw[<- e2,<- foldl_rep its k (acc++its),<- e,List.replicate_succ,Wi]
section
variable {X:Cx}{pins:List (Yi×Obj)}{Z:St}{H:Hp}{s:Yb}{l b:Yi}{xs ys zs:List V}
def Inv.lset{its its':List Yj}{n:Nat}{f:Array Yj->Array Yj}{t':Nat}(I:Inv X pins Z H s)(hH:H l=Wn (.lst xs))
 (e:s.heap.get? l=Wn {cls:=.type "list",data:=.seq its.toArray n}) (hf:f its.toArray=its'.toArray) (hv:Zu ys its') (hz:ys.length<=sizeLine) :
 Inv X pins Z (upd H l (.lst ys)) {s with heap:=s.heap.update l (Obj.mapSeq f),toks:=t'}:=by
 have q:=PySem.IsL.update e f;rw[hf]at q;refine I.write (x:=l) (e:=l) (by rw[hH];exact trivial) (.inl rfl) (λb' u hb hu=>(YL s.heap (Obj.mapSeq f) (YJ hb)).trans hu) ⟨_,q⟩ ?_;exact⟨hz,its',_,hv,q⟩
def Inv.lnew(I:Inv X pins Z H s)(hv:Zu ys its)(hz:ys.length<=sizeLine):
 Inv X pins Z (upd H s.heap.objs.size (.lst ys)) {s with heap:=s.heap.push {cls:=.type "list",data:=.seq its.toArray},toks:=t'}:=
 I.laid (λ_ _ q=>Od _ q) (Oq _) ⟨hz,its,0,hv,Oj _ rfl⟩
theorem Inv.fresh(I:Inv X pins Z H s):H s.heap.objs.size=Wo:=I.hok.fresh (Oq _)
def Inv.lstM(I:Inv X pins Z H s)(hH:H l=Wn (.lst xs)):xs.length<=sizeLine/\∃(its:List Yj) (n:Nat),Zu xs its/\xs.length=its.length/\s.heap.get? l=Wn {cls:=.type "list",data:=.seq its.toArray n}:=by obtain⟨z,its,n,r,e⟩:=I.hok l _ hH;exact⟨z,its,n,r,r.length,e⟩
def ZiL{n:Nat}(h:n<=sizeLine):Wh n=Wq:=by unfold Wh;exact decide_eq_false (by lia)
end
section
variable {X:Cx}
def Ztz:V->List V->Hp->VK->Prop:=λx vs H Q=>∃l xs y,x=.ref l/\vs=[y]/\H l=Wn (.lst xs)/\xs.length<sizeLine/\Q .non (upd H l (.lst (xs++[y])))
def ZkA:MtM X "list.append" Ztz:=by
 intro pins s Z H x vs v us Q I rx rv h;obtain⟨l,xs,y,rfl,rfl,hH,hz,q⟩:=h;cases rx;obtain⟨u,rfl,ru⟩:=rv.one;obtain⟨z,its,n,r,hl,e⟩:=I.lstM hH;refine call_meets F.slot_list_append ⟨_,e,rfl⟩ F.entry_list_append (F.args_list_append_2 _ _) (PySem.list_append l its.toArray n u (by rw[Of];lia)) ⟨e,?_⟩;refine⟨.non,_,I.lset (its':=its++[u]) hH e (by simp) (r.append (.cons ru .nil)) ?_,rfl,q⟩;rw[OA,List.length_singleton]
 lia
def Zty:V->List V->Hp->VK->Prop:=λx vs H Q=>∃l b xs zs,x=.ref l/\vs=[.ref b]/\H l=Wn (.lst xs)/\H b=Wn (.lst zs)/\xs.length+zs.length<=sizeLine/\Q .non (upd H l (.lst (xs++zs)))
def Zp5:MtM X "list.extend" Zty:=by
 intro pins s Z H x vs v us Q I rx rv h;obtain⟨l,b,xs,zs,rfl,rfl,hH,hB,hz,q⟩:=h;cases rx;obtain⟨u,rfl,ru⟩:=rv.one;cases ru;obtain⟨z,its,n,r,hl,e⟩:=I.lstM hH;obtain⟨z2,its2,n2,r2,hl2,e2⟩:=I.lstM hB;have hsz:its.toArray.size+its2.toArray.size<=sizeLine:=by rw[Of,Of];lia
 have hlong:¬ (!its.toArray.isEmpty&&Wh (its.toArray.size+its2.toArray.size))=Wp:=by rw[ZiL hsz,Bool.and_false];exact Ow
 refine call_meets F.slot_list_extend ⟨_,e,rfl⟩ F.entry_list_extend (F.args_list_extend_2 _ _)
  (AutoSeq1.list_extend_list_list_0 l its.toArray n b its2.toArray n2 hlong (by rw[Of];lia) (by lia)) ⟨e,e2,?_⟩
 refine⟨.non,_,I.lset (its':=its++its2) hH e (by simp) (r.append r2) ?_,rfl,q⟩;rw[OA]
 lia
def ZBg:V->List V->Hp->VK->Prop:=λx vs H Q=>∃l xs y,x=.ref l/\vs=[]/\H l=Wn (.lst xs)/\xs[xs.length - 1]? = Wn y/\Q y (upd H l (.lst xs.dropLast))
def Zxn:MtM X "list.pop" ZBg:=by
 intro pins s Z H x vs v us Q I rx rv h;obtain⟨l,xs,y,rfl,rfl,hH,hy,q⟩:=h;cases rx;have hus:=rv.zero;subst hus;obtain⟨z,its,n,r,hl,e⟩:=I.lstM hH;obtain⟨u,hu,ru⟩:=r.get hy;have hy':its.toArray[its.toArray.size - 1]? = Wn u:=by show its.toArray[its.length - 1]? = Wn u;rw[<- Array.getElem?_toList,<- hl];exact hu
 refine call_meets F.slot_list_pop ⟨_,e,rfl⟩ F.entry_list_pop (F.args_list_pop_1 _) (MeetsSeq.list_pop_last l its.toArray n u hy' (by rw[Of];lia)) ⟨e,?_⟩;refine⟨y,_,I.lset (its':=its.dropLast) hH e ?_ r.dropLast ?_,ru,q⟩
 . show its.toArray.eraseIdxIfInBounds (its.toArray.size - 1)=its.dropLast.toArray;rw[Of,List.eraseIdxIfInBounds_toArray,ZnO]
 . rw[List.length_dropLast]
   lia
def Zrm:V->List V->Hp->VK->Prop:=λx vs H Q=>∃l xs,x=.ref l/\vs=[]/\H l=Wn (.lst xs)/\Q .non (upd H l (.lst xs.reverse))
def Zny:MtM X "list.reverse" Zrm:=by
 intro pins s Z H x vs v us Q I rx rv h;obtain⟨l,xs,rfl,rfl,hH,q⟩:=h;cases rx;have hus:=rv.zero;subst hus;obtain⟨z,its,n,r,hl,e⟩:=I.lstM hH;refine call_meets F.slot_list_reverse ⟨_,e,rfl⟩ F.entry_list_reverse (F.args_list_reverse_1 _) (AutoSeq1.list_reverse_list_0 l its.toArray n (by rw[Of];lia)) ⟨e,?_⟩;refine⟨.non,_,I.lset (its':=its.reverse) hH e (by simp) r.reverse ?_,rfl,q⟩;rw[List.length_reverse]
 lia
def ZwK:V->List V->Hp->VK->Prop:=λx vs H Q=>∃l xs,x=.ref l/\vs=[]/\H l=Wn (.lst xs)/\Q .non (upd H l (.lst []))
def Zr0:MtM X "list.clear" ZwK:=by intro pins s Z H x vs v us Q I rx rv h;obtain⟨l,xs,rfl,rfl,hH,q⟩:=h;cases rx;have hus:=rv.zero;subst hus;obtain⟨z,its,n,r,hl,e⟩:=I.lstM hH;refine call_meets F.slot_list_clear ⟨_,e,rfl⟩ F.entry_list_clear (F.args_list_clear_1 _) (AutoSeq1.list_clear_list_0 l its.toArray n (by rw[Of];lia)) ⟨e,?_⟩;exact⟨.non,_,I.lset (its':=[]) (ys:=[]) hH e rfl .nil (Yv _),rfl,q⟩
def ZBl:R2:=λx y H Q=>∃l b xs zs,x=.ref l/\y=.ref b/\H l=Wn (.lst xs)/\H b=Wn (.lst zs)/\xs.length+zs.length<=sizeLine/\∀p,H p=Wo->Q (.ref p) (upd H p (.lst (xs++zs)))
def Zxh:OpR X (binaryOp .Add) ZBl:=by
 intro pins s Z H x y v u Q I rx ry h;obtain⟨l,b,xs,zs,rfl,rfl,hH,hB,hz,q⟩:=h;cases rx;cases ry;obtain⟨z,its,n,r,hl,e⟩:=I.lstM hH;obtain⟨z2,its2,n2,r2,hl2,e2⟩:=I.lstM hB;refine PySem.P.add_list e e2 ?_ (by rw[Of,Of];lia);have ea:its.toArray++its2.toArray=(its++its2).toArray:=by simp
 rw[ea];exact⟨.ref _,_,I.lnew (t':=s.toks) (r.append r2) (by rw[OA];lia),rfl,q _ I.fresh⟩
def ZBf:R2:=λx y H Q=>∃l k xs,x=.ref l/\y=.int k/\H l=Wn (.lst xs)/\-(2 ^ 63)<=k/\k<2 ^ 63/\xs.length * k.toNat<=sizeLine /\
 ∀p,H p=Wo->Q (.ref p) (upd H p (.lst (YI k.toNat xs).flatten))
def len_rep(xs:List α)(k:Nat):(YI k xs).flatten.length=k * xs.length:=by
 induction k with
 |zero=>simp
 |succ k ih=>rw[List.replicate_succ,List.flatten_cons,OA,ih,Nat.succ_mul,Nat.add_comm]
def Zxc:OpR X (binaryOp .Mult) ZBf:=by
 intro pins s Z H x y v u Q I rx ry h;obtain⟨l,k,xs,rfl,rfl,hH,h1,h2,hz,q⟩:=h;cases rx;obtain⟨t,rfl⟩:=ry;obtain⟨z,its,n,r,hl,e⟩:=I.lstM hH;have hlen:its.toArray.size * k.toNat<=sizeLine:=by rw[Of,<- hl];exact hz
 have hcap:¬ its.toArray.size * k.toNat > (2 ^ 63 - 1) / 8:=by
  have:(sizeLine:Nat)<=(2 ^ 63 - 1) / 8:=by decide
  lia
 have hfit:¬ (!Builtin.List.listFitsIndex k)=Wp:=by rw[fitsIndex_both h1 h2];exact Ow
 have hlong:¬ Wh (its.toArray.size * k.toNat)=Wp:=by rw[ZiL hlen];exact Ow
 have hnew:List.foldl (λx1 x2=>x1++x2) #[] (YI (if its.toArray.isEmpty=Wp then 0 else k.toNat) its.toArray)=(YI k.toNat its).flatten.toArray:=by
  have f0:∀m:Nat,List.foldl (λx1 x2=>x1++x2) #[] (YI m its.toArray)=(YI m its).flatten.toArray:=λm=>by have:=foldl_rep its m [];rw[OB]at this;exact this
  rw[f0];cases its with
  |nil=>simp
  |cons a r'=>rw[if_neg (by simp)]
 refine wpAny_binaryOp_repeat_ref (T := "list") (U := "int") (by decide) ⟨_,e,rfl⟩ (λs'=>typeIs_int s' k t) noFill_list_mul F.fills_int_mul F.slot_int_rmul repeat_list F.slot_int_index.lookup
  (call_meets F.slot_int_rmul (typeIs_int s k t) F.entry_int_rmul (F.args_int_rmul_2 _ _) (int___rmul___int_list k t l its.toArray n)
   ⟨e,rfl,⟨_,e,rfl⟩,call_meets F.slot_list_mul ⟨_,e,rfl⟩ F.entry_list_mul (F.args_list_mul_2 _ _) (AutoListH.list___mul___list_int_3 l its.toArray n k t hfit hcap hlong) ⟨e,?_⟩⟩)
 rw[hnew];exact⟨.ref _,_,I.lnew (t':=s.toks) (r.rep k.toNat) (by rw[len_rep,Nat.mul_comm];exact hz),rfl,q _ I.fresh⟩
end
end L2
namespace Att
open PySem PySem.W PySem.Calls PyProof.Rows
def ZhS:∀(ns:List Int) (vs:List Yj),WellAll P h vs (ns.map WData.int)->IntsAre vs ns:=by
 intro ns;induction ns with
 |nil=>intro vs w;rw[Oy]at w;cases w;exact .nil
 |cons n ns ih=>
  intro vs w;rw[Op]at w;cases w with
  |cons a b=>cases a;exact .cons _ _ (ih _ b)
def ZpQ{l:OpenLaw}{n:Nat}(hn:l.most=Wn n){P:Params}{h:YE}{args:List WData}{vals:List Yj}
 (hpre:l.row.toRowW.claim.pre args=Wp) (hwl:WellAll P h vals args) :
 ∃a vs ns,vals=[YB a]/\args=[WData.list (ns.map WData.int)]/\h.get? a=Wn {cls:=.type "list",data:=.seq vs.toArray}/\IntsAre vs ns/\ns.length<=n:=by
 have hsh:WShape.hasAll [] args [.list .int]=Wp:=(pre_splitW hpre).1;have hc:l.pre.holds [] {args:=args}=Wp:=(pre_splitW hpre).2;obtain⟨d,r,rfl,h1,h2⟩:=hasAllW_cons hsh;obtain rfl:=hasAllW_nil h2;obtain⟨xs,rfl,h3⟩:=hasW_list h1;obtain⟨ns,rfl⟩:=items_int h3;have hlen:ns.length<=n:=by
  unfold OpenLaw.pre at hc;have h4:(WTm.not (.lt (.lit (.int (n:Int))) (.len (.arg 0)))).holds [] {args:=[.list (ns.map .int)]}=Wp:=by have h4:=(holds_andW hc).1;rw[hn]at h4;exact h4
  have h5:=condW_of h4 (w_not (w_lt w_lit (w_len_list (w_arg rfl))));rw[Ys]at h5;refine Nat.le_of_not_lt λq=>?_;have q':(n:Int)<((ns.length:Nat):Int):=by lia
  first
   |(rw[decide_eq_true q']at h5;exact absurd h5 (by decide))
   |(simp at h5;lia)
 cases hwl with
 |cons w1 w2=>
  cases w2;cases w1 with
  |list ho hall=>exact⟨_,_,ns,rfl,rfl,ho,ZhS ns _ hall,hlen⟩
def ZpV(l:OpenLaw)(args:List WData):l.row.toRowW.claim.post args (.bool Wp) args=Wp:=
 postW_of (r:=l.row.toRowW) (X:=(Wp==Wp))
  (show WShape.has [] (.bool Wp) .bool=Wp by first|rfl|decide|simp[WShape.has,WShape.arms,WShape.armsAll])
  (show(WTm.eq .res (.lit (.bool Wp))).value [] {args:=args,res:=Wn (.bool Wp),after:=args}=Wn (.bool (Wp==Wp))from w_eq_bool (w_res rfl) w_lit) rfl
def Zm4{l:OpenLaw}{n:Nat}{q:Yh}{loose:List Str}{XP:(Str->Option Yj)->YE->Prop}{YP:Yg->YE->Prop}{d:DefRec}
 (hn:l.most=Wn n) (hdf:d.params.defaults=[])
 (call:∀(w:Yg) (s₀ s₁:Yb) (mg mb:Str->Option Yj) (fa:Yi) (o:Obj) (pm cd doc:Yj) (a:Yi) (vs:List Yj) (ns:List Int),
  Ground q loose [] XP w s₀ mg mb s₁.heap->YP w s₁.heap ->
  s₁.heap.get? fa=Wn o->o.data=.func (docDef d.name d.params d.body d.scope pm cd doc)->s₁.heap.CodeRec cd d.name->mg d.name=Wn (.ref fa) ->
  s₁.heap.get? a=Wn {cls:=.type "list",data:=.seq vs.toArray}->IntsAre vs ns->ns.length<=n->s₁.gens=#[] ->
  codeAny (model l.prog w) callerA (.call (.ref fa) ⟨[.ref a],[]⟩) (λr s'=>r=.ok (.ret (.bool Wp))/\OldK s₁.heap s'.heap/\s'.os=s₁.os/\AllBare s'.gens) s₁) :
 WalkO q loose XP YP l.row.toRowW d [] (λf vs=>PySem.call f vs):=by
 intro w s₀ s₁ mg mb G Y fa o pm cd doc dV kV ho hd hcd hD hmg hg args vals as hpre hlay hrd hwl hlo;obtain rfl:dV=.none:=Dflts.none hD hdf;obtain rfl:kV=.none:=Dflts.noKw hD;obtain⟨a,vs,ns,rfl,rfl,hobj,hints,hlen⟩:=ZpQ hn hpre hwl;refine enter_call (codeAny_mono (call w s₀ s₁ mg mb fa o pm cd doc a vs ns G Y ho (fd_plain hd) hcd hmg hobj hints hlen hg) λr s' hq=>?_);obtain⟨rfl,h2,h3,h4⟩:=hq;exact⟨.inl ⟨.bool Wp,.bool Wp,[],rfl,λ_=>rfl,.bool Wp,ZpV l _,λ_=>⟨List.Pairwise.nil,λ_ hm=>(nomatch hm)⟩⟩,h2,h3,h4⟩
end Att
namespace L2
open PySem PySem.Spec PyProof.Rows
theorem Zks:∀{vs:List Yj}{ns:List Int},IntsAre vs ns->Zu (ns.map V.int) vs
 |_,_,.nil=>.nil
 |_,_,.cons n t h=>.cons ⟨t,rfl⟩ (Zks h)
def Zvh(H:Hp):Prop:=∀b,H b=Wo\/∃o xs,H b=Wn (.frz o (.lst xs))
theorem Zr6{P:Yh}{w:Yg}{K:Yk}{mg mb:Str->Option Yj}{CX:CXT}{k:Nat}{fa a:Yi}{fd:FuncData}{x:Str}{sp:Sp}{s₁:Yb}{vs:List Yj}{ns:List Int}
   (KX:K.In s₁.heap) (hns:s₁.heap.Ns Yd mg) (hb:s₁.heap.Ns builtinsNs mb) (hbb:∀ x:Str,x ≠ "__name__" -> mb x=bootBuiltins x) (hlim:s₁.heap.NoLimit) (hg:s₁.gens=#[])
   (ha:s₁.heap.get? a=Wn {cls:=.type "list",data:=.seq vs.toArray}) (hi:IntsAre vs ns) (hl:ns.length<=sizeLine) (hr:Room k callerA)
   (F:∀ base:YE,K.In base->base.Ns Yd mg->FnOk P w K mg base CX k fa fd [x] sp) (hbind:∀ (s:Yb) (u:Yj),BindsTo s fd ⟨[u],[]⟩ [(x,u)])
   (hsp:∀ H:Hp,Zvh H->SqL K H a (ns.map V.int)->sp [.ref a] H (fun v _=>v=.bl Wp) fun _ _ _=>False)
   (hCX:∀ H e s',CX [] H s₁ (fun _ _ _=>False) e s'->False) :
   codeAny (model P w) callerA (.call (.ref fa) ⟨[.ref a],[]⟩) (fun r s'=>r=.ok (.ret (.bool Wp))/\OldK s₁.heap s'.heap/\s'.os=s₁.os/\AllBare s'.gens) s₁:=by
 have rv:=Zks hi;have lenV:=hi.length;have core:∀ H:Hp,Zvh H->SqL K H a (ns.map V.int)->HOk P w H s₁.heap->(∀ b,H b≠Wo->b=a)->(H a≠Wo->K.lookup a=Wo) ->
     codeAny (model P w) callerA (.call (.ref fa) ⟨[.ref a],[]⟩) (fun r s'=>r=.ok (.ret (.bool Wp))/\OldK s₁.heap s'.heap/\s'.os=s₁.os/\AllBare s'.gens) s₁:=by
   intro H hO hS hok hA hK;have base_of:∀ {b:Yi}{o:Obj},s₁.heap.get? b=Wn o->H b=Wo->(Zlp s₁.heap H).get? b=Wn o:=fun e n=>Zsj e n;have noA:∀ {b:Yi}{o:Obj}{es:Array DictEntry}{ep:Nat},s₁.heap.get? b=Wn o->o.data=.dict es ep->H b=Wo:=fun {b o es ep} e d=>by
     cases q:H b with
     | none=>rfl
     | some u =>
       have e':b=a:=hA b (by rw [q];simp);subst e';rw [ha] at e;cases e;have d':Data.seq vs.toArray _=Data.dict es ep:=d;cases d'
   have nsK:∀ {b:Yi}{m:Str->Option Yj},s₁.heap.Ns b m->(Zlp s₁.heap H).Ns b m:=fun {b m} ⟨o,es,ep,e,d,r⟩=>⟨o,es,ep,base_of e (noA e d),d,r⟩
   have hKb:K.In (Zlp s₁.heap H):=fun b o e=>base_of (KX b o e) (by
     cases q:H b with
     | none=>rfl
     | some u =>
       have e':b=a:=hA b (by rw [q];simp);subst e';rw [hK (by rw [q];simp)] at e;cases e)
   have hM:Mod K mg (Zlp s₁.heap H):=⟨hKb,nsK hns,⟨mb,nsK hb,hbb⟩,let ⟨mc,h1,h2⟩:=hlim;⟨mc,nsK h1,h2⟩⟩
   have e0:Env0 P w K mg (Zlp s₁.heap H) callerA [] s₁ H:=⟨rfl,hM,fun b o e=>Zub e,Nat.le_of_eq (Zqh _ _),trivial,fun b hb=>absurd (show b∈([]:List Yi) from hb) (by simp),hok,.of_eq hg⟩
   refine codeAny_mono ((F _ hKb (nsK hns)).run callerA [] s₁ H ⟨[.ref a],[]⟩ [.ref a] [.ref a] _ _ hr e0 (hbind s₁ (.ref a)) (.cons rfl .nil) (hsp H hO hS)) fun r s' h=>?_;cases r with
   | error e=>exact (hCX H e s' h).elim
   | ok fl =>
     cases fl with
     | next=>exact False.elim h
     | brk=>exact False.elim h
     | cont=>exact False.elim h
     | ret u =>
       obtain ⟨v,H',os,bare,un,hok',r',q⟩:=h;have q':v=.bl Wp:=q;subst q';obtain rfl:u=Value.bool Wp:=r';refine ⟨rfl,OldK.of_keep fun b o e=>?_,os,bare⟩;cases q:H b with
       | none=>exact un.keep b o e q (by intro z;exact absurd (show b∈([]:List Yi) from z) (by simp)) (by simp)
       | some u =>
         rcases hO b with z|⟨ob,xs,z⟩
         . rw [q] at z;cases z
         . have z2:=un.frzs b ob _ z;obtain ⟨e1,_⟩:=hok b _ z;obtain ⟨e2,_⟩:=hok' b _ z2;rw [e] at e1;cases e1;exact e2
 cases hk:K.lookup a with
 | some o =>
   have e:=KX a o hk;rw [ha] at e;cases e;refine core (fun _=>Wo) (fun _=>.inl rfl) (.inr ⟨_,vs.toArray,_,hk,rfl,rfl,rfl,by rw [Of,lenV];exact hl,by simpa using rv⟩) (fun b u z=>by have z':(Wo:Option HO)=Wn u:=z;cases z') (fun b z=>absurd rfl z) fun z=>absurd rfl z
 | none =>
   refine core (fun b=>if b=a then Wn (.frz {cls:=.type "list",data:=.seq vs.toArray} (.lst (ns.map V.int))) else Wo) (fun b=>?_) (.inl (.inr ⟨{cls:=.type "list",data:=.seq vs.toArray},if_pos rfl⟩)) (fun b u z=>?_) (fun b z=>?_) fun _=>hk
   . by_cases hb:b=a
     . exact .inr ⟨_,_,if_pos hb⟩
     . exact .inl (if_neg hb)
   . by_cases hb:b=a
     . have z':=(if_pos hb).symm.trans z;cases z';subst hb;exact ⟨ha,by rw [Ys];exact hl,vs,_,rv,ha⟩
     . have z':=(if_neg hb).symm.trans z;cases z'
   . by_cases hb:b=a
     . exact hb
     . exact absurd (if_neg hb) z
def Zta{l:PySem.W.OpenLaw}{n k:Nat}{q:Yh}{loose:List Str}{XP:(Str->Option Yj)->YE->Prop}{YP:Yg->YE->Prop}{d:DefRec}{K:Params->Yk}{CX:Yg->CXT}{sp:Yg->Sp}{x:Str}
 (hn:l.most=Wn n) (hn2:n<=sizeLine) (hdf:d.params.defaults=[]) (hr:Room k callerA)
 (hY:∀(w:Yg) (h:YE),YP w h->(K w.params).In h)
 (F:∀(w:Yg) (mg:Str->Option Yj) (fa:Yi) (h:YE),(K w.params).In h->h.Ns Yd mg->mg d.name=Wn (.ref fa) ->
  ∃fd:FuncData,(∀(s:Yb) (u:Yj),BindsTo s fd ⟨[u],[]⟩ [(x,u)]) /\
   ∀base:YE,(K w.params).In base->base.Ns Yd mg->FnOk l.prog w (K w.params) mg base (CX w) k fa fd [x] (sp w))
 (hsp:∀(w:Yg) (H:Hp) (a:Yi) (ns:List Int),ns.length<=n->Zvh H->SqL (K w.params) H a (ns.map V.int)->sp w [.ref a] H (λv _=>v=.bl Wp) λ_ _ _=>False)
 (hCX:∀(w:Yg) (H:Hp) (s:Yb) (e:Yj) (s':Yb),CX w [] H s (λ_ _ _=>False) e s'->False) :
 PySem.W.WalkO q loose XP YP l.row.toRowW d [] (λf vs=>PySem.call f vs):=by
 refine Att.Zm4 hn hdf λw s₀ s₁ mg mb fa o pm cd doc a vs ns G Y ho hd hcd hmg hobj hints hlen hg=>?_;have KX:=hY w _ Y;obtain⟨fd,hb,hF⟩:=F w mg fa _ KX G.T.g hmg;exact Zr6 KX G.T.g G.T.b G.T.builtins G.T.nolimit hg hobj hints (OE hlen hn2) hr hF hb (λH hO hS=>hsp w H a ns hlen hO hS) λH e s'=>hCX w H s₁ e s'
noncomputable def inClass(s:Stmt)(j:Nat):Stmt:=match s with
 |.ClassDef _ _ _ body _ _ _ _ _ _ _=>body.getD j (.Pass ⟨0,0,0,0⟩)
 |_=>.Pass ⟨0,0,0,0⟩
noncomputable def ZdW(s:Stmt):Arguments:=match s with
 |.FunctionDef _ a _ _ _ _ _ _ _ _=>a
 |_=>{posonlyargs:=[],args:=[],vararg:=Wo,kwonlyargs:=[],kw_defaults:=[],kwarg:=Wo,defaults:=[]}
noncomputable def ZbY(s:Stmt):List Stmt:=match s with
 |.FunctionDef _ _ b _ _ _ _ _ _ _=>b
 |_=>[]
noncomputable def Z2(s:Stmt):Scope:=match s with
 |.FunctionDef _ _ _ _ _ _ sc _ _ _=>sc
 |_=>{kind:=.function,names:=[],isGenerator:=false,isCoroutine:=false}
noncomputable abbrev E0:XK:=λ_ _ _=>False
structure Fun(K:Yk)(x qual:Str)(st:Stmt)(f:Yi)(fd:FuncData):Prop where
 ex:∃(oc:Yj) (od:Option Yi) (kV doc pm:Yj) (an:Option Yi) (cdv ct:Yj) (osl:Array (Option Yj)),
  fd=PySem.W.fnOf x qual (ZdW st) (ZbY st) (Z2 st) .none kV doc pm an cdv ct/\K.lookup f=Wn ⟨oc,od,.func fd,osl⟩/\PySem.W.codeIn K cdv qual=Wp
 kp:YZ K (.ref f)=Wp
section
variable {P:Yh}{w:Yg}{K:Yk}{mg:Str->Option Yj}{base:YE}
def Fun.binds{x qual:Str}{st:Stmt}{f:Yi}{fd:FuncData}{ps:List Str}(F:Fun K x qual st f fd)
 (h:∀(kV doc pm:Yj) (an:Option Yi) (cdv ct:Yj) (us:List Yj),us.length=ps.length->bindArgs (PySem.W.fnOf x qual (ZdW st) (ZbY st) (Z2 st) .none kV doc pm an cdv ct) ⟨us,[]⟩=pure (ps.zip us)):Binds K fd ps []:=by
 obtain⟨oc,od,kV,doc,pm,an,cdv,ct,osl,rfl,lk,hcd⟩:=F.ex;exact .all (h kV doc pm an cdv ct)
def Zso{x qual:Str}{st:Stmt}{f:Yi}{oc:Yj}{od an:Option Yi}{osl:Array (Option Yj)}{kV doc pm cdv ct:Yj}(l:K.lookup f=Wn ⟨oc,od,.func (PySem.W.fnOf x qual (ZdW st) (ZbY st) (Z2 st) .none kV doc pm an cdv ct),osl⟩)
 (c:PySem.W.codeIn K cdv qual=Wp) (k:YZ K (.ref f)=Wp):Fun K x qual st f (PySem.W.fnOf x qual (ZdW st) (ZbY st) (Z2 st) .none kV doc pm an cdv ct):=⟨⟨oc,od,kV,doc,pm,an,cdv,ct,osl,rfl,l,c⟩,k⟩
end
def Zmx{A B_:Prop}(h:B_):if Wq=Wp then A else B_:=by rw[if_neg Ow];exact h
def Zmw{A B_:Prop}(h:A):if Wp=Wp then A else B_:=by rw[if_pos rfl];exact h
set_option tactic.hygienic false
section
variable {κ:Type} [DecidableEq κ]
noncomputable def Zfj(kvs:List (κ×V))(k:κ):Option V:=(kvs.find? λkv=>Wr (kv.1=k)).map (·.2)
noncomputable def putK(kvs:List (κ×V))(k:κ)(v:V):List (κ×V):=if (kvs.any λkv=>Wr (kv.1=k))=Wp then kvs.map (λkv=>if kv.1=k then(kv.1,v)else kv)else kvs++[(k,v)]
def ZqE{p:κ×V}{r:List (κ×V)}{k:κ}(e:p.1=k):Zfj (p::r) k=Wn p.2:=by simp[Zfj,Wj,e]
def ZqF{p:κ×V}{r:List (κ×V)}{k:κ}(e:¬ p.1=k):Zfj (p::r) k=Zfj r k:=by simp[Zfj,Wj,e]
def Zhi(kvs:List (κ×V))(k:κ)(v:V):(putK kvs k v).length<=kvs.length+1:=by
 unfold putK;split
 . rw[Ys];lia
 . rw[OA,Os,List.length_nil];lia
def Zgq.isSome_eq{o:Option V}{u:Option Yj}(r:Zgq o u):o.isSome=u.isSome:=by
 cases o with
 |none=>cases u with
  |none=>rfl
  |some _=>exact(show False from r).elim
 |some _=>cases u with
  |none=>exact(show False from r).elim
  |some _=>rfl
def KV.val{kvs:List (κ×V)}{vs:List (κ×Yj)}(r:KV kvs vs)(k:κ):Zgq (Zfj kvs k) (valueAt vs k):=by
 unfold KV at r;induction r with
 |nil=>exact True.intro
 |@cons p q ps qs h t ih=>
  obtain⟨h1,h2⟩:=h;by_cases e:p.1=k
  . have e':q.1=k:=h1.symm.trans e;have b:valueAt (q::qs) k=Wn q.2:=by simp[valueAt,Wj,e']
    rw[ZqE e,b];exact h2
  . have e':¬ q.1=k:=λz=>e (h1.trans z);have b:valueAt (q::qs) k=valueAt qs k:=by simp[valueAt,Wj,e']
    rw[ZqF e,b];exact ih
theorem KV.any{kvs:List (κ×V)}{vs:List (κ×Yj)}(r:KV kvs vs)(k:κ):(kvs.any λkv=>Wr (kv.1=k))=vs.any λkv=>Wr (kv.1=k):=by
 unfold KV at r;induction r with
 |nil=>rfl
 |cons h t ih=>rw[YY,YY,ih,h.1]
def KV.repl{kvs:List (κ×V)}{vs:List (κ×Yj)}(r:KV kvs vs)(k:κ){y:V}{u:Yj}(ry:RelV y u):
 KV (kvs.map λkv=>if kv.1=k then(kv.1,y)else kv) (vs.map λkv=>if kv.1=k then(kv.1,u)else kv):=by
 unfold KV at r ⊢;induction r with
 |nil=>exact .nil
 |@cons p q ps qs h t ih=>
  rw[Op,Op];refine .cons ?_ ih;obtain⟨h1,h2⟩:=h;by_cases e:p.1=k
  . rw[if_pos e,if_pos (h1.symm.trans e)];exact⟨h1,ry⟩
  . rw[if_neg e,if_neg (λz=>e (h1.trans z))];exact⟨h1,h2⟩
def KV.put{kvs:List (κ×V)}{vs:List (κ×Yj)}(r:KV kvs vs)(k:κ){y:V}{u:Yj}(ry:RelV y u):KV (putK kvs k y) (stored vs k u):=by
 unfold putK stored;rw[r.any k];by_cases e:(vs.any λkv=>Wr (kv.1=k))=Wp
 . rw[if_pos e,if_pos e];exact r.repl k ry
 . rw[if_neg e,if_neg e];exact Paired.snoc r ⟨rfl,ry⟩
theorem KV.length(r:KV kvs vs):kvs.length=vs.length:=Paired.length r
end
def Zmt(r:RelV (kV k) u):(Z0 P w).is k u=Wp:=by
 cases k with
 |inl i=>obtain⟨t,e⟩:=(show ∃t,u=Value.int i t from r);subst e;exact Zmi P w i t
 |inr x=>obtain⟨t,e⟩:=(show ∃t,u=Value.str x t from r);subst e;exact Zmh P w x t
section
variable {P:Yh}{w:Yg}{H:Hp}{h:YE}{a:Yi}
def Zy5(ok:HOk P w H h)(e:Rd H a u):Zaq P w H h a u:=e.ok ok
def Zv0(ok:HOk P w H h)(e:Rd H a (.dK kvs)):kvs.length<=sizeLine/\(a==Ye)=Wq/\∃vs,KV kvs vs/\h.DictOf (Z0 P w) a vs:=show Zaq P w H h a (.dK kvs)from Zy5 ok e
def Zv1(ok:HOk P w H h)(e:H a=Wn (.dK kvs)):kvs.length<=sizeLine/\(a==Ye)=Wq/\∃vs,KV kvs vs/\h.DictOf (Z0 P w) a vs:=Zv0 ok (.inl e)
end
section
variable {X:Cx}{pins:List (Yi×Obj)}{Z:St}{H:Hp}{s:Yb}{a:Yi}{y v:V}{u r:Yj}{o:Option V}{A:YF}{E:Yj->Yb->Prop}
def Inv.big(I:Inv X pins Z H s):Ye<s.heap.objs.size:=by have h:Yd<s.heap.objs.size:=(I.mod.glob.keeps I.bk).lt;exact Nat.lt_trans (by decide) h
def Zpj(I:Inv X pins Z H s)(mu:Mut (H a))(hs:Heap.SameBut a s.heap h')(he:∃q,h'.get? a=Wn q)(new:Zaq X.prog X.w (upd H a ob) h' a ob):
 Inv X pins Z (upd H a ob) {s with heap:=h',toks:=t'}:=
 I.write (x:=a) (e:=a) mu (.inl rfl) (λb q hb z=>(hs.2 b hb).trans z) he new
def ZsK(z:kvs.length<=sizeLine)(hd:(a==Ye)=Wq)(rel:KV kvs vs)(dd:h'.DictOf (Z0 P w) a vs):
 Zaq P w H' h' a (.dK kvs):=⟨z,hd,vs,rel,dd⟩
end
def ZmE(h:YE)(hb:Ye<h.objs.size):Zaq P w H (h.push {cls:=.type "dict",data:=.dict #[]}) h.objs.size (.dK []):=⟨Yv _,beq_eq_false_iff_ne.mpr (YJ (Ou hb)),[],.nil,Heap.DictOf.new h⟩
def Zwt:TE:=λ_ H Q=>∀p,H p=Wo->Q (.ref p) (upd H p (.dK []))
section
variable {X:Cx}{pos:Pos}
def ZrH:PE X (.Dict [] [] pos) Zwt:=λpins s Z H Q I h=>wpAny_Dict_empty ⟨.ref s.heap.objs.size,_,I.laid (a:=s.heap.objs.size) (o:=.dK []) (t':=s.toks) (λ_ _ q=>Od _ q) (Oq _) (ZmE s.heap I.big),rfl,h _ (I.hok.fresh (Oq _))⟩
end
def ZkZ:List (TE×TE)->St->Hp->(List (V×V)->Hp->Prop)->Prop
 |[],_,H,Q=>Q [] H
 |(tk,tv)::r,Z,H,Q=>tk Z H λx H1=>tv Z H1 λy H2=>ZkZ r Z H2 λps H3=>Q ((x,y)::ps) H3
abbrev VV:List (V×V)->List (Yj×Yj)->Prop:=Paired λp q=>RelV p.1 q.1/\RelV p.2 q.2
def PPs(X:Cx)(pos:Pos)(keys:List (Option Expr))(values:List Expr)(trs:List (TE×TE)):Prop:=
 ∀(pins:List (Yi×Obj)) (s:Yb) (Z:St) (H:Hp) (Q:List (V×V)->Hp->Prop),Inv X pins Z H s->ZkZ trs Z H Q ->
  Yz (model X.prog X.w) X.A (evalPairs (pairTrees keys values X.env pos)) (λvs s'=>∃ps H',Inv X pins Z H' s'/\VV ps vs/\Q ps H') X.xe s
def ZtH:PPs X pos [] [] []:=λpins s Z H Q I h=>pairTrees_nil_walk ⟨[],H,I,.nil,h⟩
def Zrv(hk:PE X k tk)(hv:PE X v tv)(hr:PPs X pos ks vs trs):
 PPs X pos (Wn k::ks) (v::vs) ((tk,tv)::trs):=λpins s Z H Q I h=>
 pairTrees_cons_walk (thn (hk pins s Z H _ I h) λu s1 ⟨x,H1,I1,rx,q1⟩=>thn (hv pins s1 Z H1 _ I1 q1) λw2 s2 ⟨y,H2,I2,ry,q2⟩=>thn (hr pins s2 Z H2 _ I2 q2) λws s3 ⟨ps,H3,I3,rel,q3⟩=>⟨(x,y)::ps,H3,I3,.cons ⟨rx,ry⟩ rel,q3⟩)
def Zgw(kvs more:List (Key×V)):List (Key×V):=more.foldl (λacc kv=>putK acc kv.1 kv.2) kvs
def KV.merge:∀{more:List (Key×V)}{rs:List (Key×Yj)}{kvs:List (Key×V)}{vs:List (Key×Yj)},KV more rs->KV kvs vs->KV (Zgw kvs more) (merged vs rs):=by
 intro more rs kvs vs r;unfold KV at r;induction r generalizing kvs vs with
 |nil=>intro q;exact q
 |@cons p q ps qs h t ih=>
  intro r0;have e:KV (putK kvs p.1 p.2) (stored vs q.1 q.2):=by have:=r0.put p.1 h.2;rw[<- h.1];exact this
  exact ih e
theorem Zd7:∀(more kvs:List (Key×V)),(Zgw kvs more).length<=kvs.length+more.length
 |[],kvs=>by show kvs.length<=kvs.length+0;lia
 |p::r,kvs=>by have h1:=Zd7 r (putK kvs p.1 p.2);have h2:=Zhi kvs p.1 p.2;show(Zgw (putK kvs p.1 p.2) r).length<=_;rw[Os];lia
theorem Zjl:∀{kvs:List (Key×V)}{ws:List (Yj×Yj)},VV (kvs.map λkv=>(kV kv.1,kv.2)) ws->∃rs,Carries (Z0 P w) ws rs/\KV kvs rs
 |[],_,r=>by rw[Oy]at r;cases r;exact⟨[],True.intro,.nil⟩
 |p::kvs,_,r=>by
  rw[Op]at r;cases r with
  |@cons a b as bs h t=>obtain⟨rs,c,q⟩:=Zjl (P:=P) (w:=w) t;obtain⟨b1,b2⟩:=b;exact⟨(p.1,b2)::rs,⟨Zmt h.1,rfl,c⟩,.cons ⟨rfl,h.2⟩ q⟩
def ZyW(trs:List (TE×TE)):TE:=λZ H Q=>∀p,H p=Wo->ZkZ trs Z (upd H p (.dK [])) λps H2=>H2 p=Wn (.dK [])/\∃kvs:List (Key×V),ps=kvs.map (λkv=>(kV kv.1,kv.2))/\kvs.length<=15/\Q (.ref p) (upd H2 p (.dK (Zgw [] kvs)))
def ZtT(h:PPs X pos keys values trs)(hall:keys.all (·.isSome)=Wp)(hl:keys.length=values.length)(h0:keys≠[])
 (h15:keys.length<=15):PE X (.Dict keys values pos) (ZyW trs):=by
 intro pins s Z H Q I q;have hn:=I.hok.fresh (Oq s.heap.objs.size);have I1:=I.laid (a:=s.heap.objs.size) (o:=.dK []) (h':=s.heap.push {cls:=.type "dict",data:=.dict #[]}) (t':=s.toks) (λ_ _ q=>Od _ q) (Oq _) (ZmE s.heap I.big);refine wpAny_Dict_walk (knd:=Z0 X.prog X.w) hall hl h0 h15 (thn (h pins _ Z _ _ I1 (q _ hn)) λws s2 ⟨ps,H2,I2,rel,e,kvs,ep,lk,q2⟩=>?_);subst ep;obtain⟨rs,c,rk⟩:=Zjl (P:=X.prog) (w:=X.w) rel;obtain⟨z,hd,vs0,r0,dd⟩:=Zv1 I2.hok e;cases r0;refine⟨rs,c,dd,λh' dd' hs=>⟨.ref s.heap.objs.size,_,?_,rfl,q2⟩⟩;have hz:(Zgw [] kvs).length<=sizeLine:=by have h1:=Zd7 kvs [];rw[List.length_nil]at h1;rw[YA];lia
 have he:∃q,h'.get? s.heap.objs.size=Wn q:=let ⟨q,_,_,hq,_⟩:=dd';⟨q,hq⟩;exact Zpj I2 (by rw[e];exact True.intro) hs he (ZsK hz hd (rk.merge .nil) dd')
set_option tactic.hygienic true
def Its(x:Str):It:=⟨λi _=>i<x.cps.size,λi H v H'=>H'=H/\∃c,x.cps[i]? = Wn c/\v=.str ⟨#[c]⟩,λi _=>i=x.cps.size⟩
def ZxH{M:Model}{A:YF}{E:Yj->Yb->Prop}{s:Yb}{tg:Expr}{it:Yi}{x:Str}{t:Tok}{Q:Unit->Yb->Prop}(hQ:Q () s):Yz M A (letOwnedTupleGo tg (.ref it) (.str x t)) Q E s:=by unfold letOwnedTupleGo;cases tg<;>exact Yc hQ
def Zl1{P:Yh}{w:Yg}{K:Yk}{tg:Expr}{it:Yi}{x:Str}{t:Tok}{ty:String}
 (W:∀A':YF,A'.handled=Wo->Walks P w A' it [it] [it] x.cps.size (SignAt x) (λi h=>h.IsStrIter it ty x t i))
 (hself:∀(A:YF) (i:Nat) (s:Yb) (Q:Yj->Yb->Prop) (E:Yj->Yb->Prop),s.heap.IsStrIter it ty x t i->Q (.ref it) s->Yz (model P w) A (pyIter (.ref it)) Q E s) :
 Turn P w K tg (Its x) [it] it (λi h=>h.IsStrIter it ty x t i) where
 mem:=by simp
 obj:=λi h st b hb=>by
  have e:b=it:=by simpa using hb
  subst e;obtain⟨o,e,c,d⟩:=st;exact⟨o,e,λv z=>by rw[d]at z;cases z⟩
 keep:=λi h h' st k=>by obtain⟨o,e,r⟩:=st;exact⟨o,k it (by simp) o e,r⟩
 item:=by intro X hP hw hK hc i pins s Z H E I hf st hg;subst hP hw hK;obtain⟨f0,f1,f2,f3,f4,f5⟩:=hf it (by simp);refine(W X.A (I.ok.hd hc)).item i s _ _ hg st λv h' tk hv st' kk=>?_;obtain⟨c,u,hcx,rfl⟩:=hv;have I1:Inv X pins Z H {s with heap:=h',toks:=tk}:=I.turned (λb o hb e=>kk b o (by simpa using hb) e) f0 f1 f3 f4 f5;exact⟨_,rfl,ZxH ⟨.str ⟨#[c]⟩,H,I1,⟨u,rfl⟩,⟨rfl,c,hcx,rfl⟩,st',λb hb=>(hf b hb).1⟩⟩
 done:=by intro X hP hw hK hc i pins s Z H E I hf st hg;subst hP hw hK;obtain⟨f0,f1,f2,f3,f4,f5⟩:=hf it (by simp);have e:i=x.cps.size:=hg;subst e;exact(W X.A (I.ok.hd hc)).done s _ _ st λh' tk kk=>⟨rfl,I.turned (λb o hb e=>kk b o (by simpa using hb) e) f0 f1 f3 f4 f5⟩
 self:=hself
def ZBx(tl:TE):TI:=λZ H R=>tl Z H λx H1=>∃y,x=.str y/\R (Its y) H1
def ZwU{X:Cx}{tg l:Expr}{tl:TE}(hl:PE X l tl):PI X tg l (ZBx tl):=by
 intro pins s Z H R I h;refine thn (hl pins s Z H _ I h) λv s1 ⟨x,H1,I1,r1,q1⟩=>?_;obtain⟨y,e,q⟩:=q1;subst e;obtain⟨t,rfl⟩:=r1;have fin:∀b∈[s1.heap.objs.size],Zc4 X pins H1 b:=λb hb=>by
  have e:b=s1.heap.objs.size:=by simpa using hb
  subst e;exact I1.fpOk (Oq _) (I1.hok.fresh (Oq _))
 cases ha:y.cps.all (·<128)
 . refine wpAny_pyIter_wide ha ?_;exact⟨s1.heap.objs.size,[s1.heap.objs.size],_,_,H1,rfl,I1.kept (t':=s1.toks) λb o e=>Od _ e,Zl1 (t:=t) (λA' hA=>Walks.strWide hA _ y t) (λ_ _ _ _ _ st h=>wpAny_pyIter_striter_wide st h),⟨_,Oj _ rfl,rfl,rfl⟩,fin,q⟩
 . refine wpAny_pyIter_ascii ha ?_;exact⟨s1.heap.objs.size,[s1.heap.objs.size],_,_,H1,rfl,I1.kept (t':=s1.toks) λb o e=>Od _ e,Zl1 (t:=t) (λA' hA=>Walks.strAscii hA _ y t) (λ_ _ _ _ _ st h=>wpAny_pyIter_striter_ascii st h),⟨_,Oj _ rfl,rfl,rfl⟩,fin,q⟩
theorem Zdb{env:Env}:∀(names:List (Str×NameKind)) (x:Str),
 (names.map λ(n,k)=>if (k==Yn&&env.scope.kind==.function&&env.kindOf n==Wn .cell)then(n,NameKind.cell)else(n,k)).lookup x =
  (names.lookup x).map λk=>if (k==Yn&&env.scope.kind==.function&&env.kindOf x==Wn .cell)then NameKind.cell else k
 |[],_=>rfl
 |(n,k)::r,x=>by
  have ih:=@Zdb env r x;show We x ((if (k==Yn&&env.scope.kind==.function&&env.kindOf n==Wn .cell)=Wp then(n,NameKind.cell)else(n,k))::_)=_;cases hx:x==n with
  |true=>
   have e:x=n:=by simpa using hx
   subst e;by_cases hc:(k==Yn&&env.scope.kind==.function&&env.kindOf x==Wn .cell)=Wp
   . rw[if_pos hc];simp only[OF,hx,Yt,if_pos hc]
   . rw[if_neg hc];simp only[OF,hx,Yt,if_neg hc]
  |false=>
   by_cases hc:(k==Yn&&env.scope.kind==.function&&env.kindOf n==Wn .cell)=Wp
   . rw[if_pos hc];simp only[OF,hx];exact ih
   . rw[if_neg hc];simp only[OF,hx];exact ih
noncomputable def ZgL(env:Env):List (Str×NameKind)->List (Str×Yi)->List (Str×Yi)
 |[],cs=>cs
 |(n,k)::r,cs=>ZgL env r (if (k==.free)=Wp then(n,(env.cells.lookup n).getD 0)::cs else cs)
theorem ZmK{env:Env}:∀(l:List (Str×NameKind)) (cs:List (Str×Yi)),(∀y∈l,y.2=.free->∃c,env.cells.lookup y.1=Wn c) ->
 (∀x c,(x,c)∈cs->env.cells.lookup x=Wn c)->∀x c,(x,c)∈ZgL env l cs->env.cells.lookup x=Wn c
 |[],cs,_,h2,x,c,hm=>h2 x c hm
 |(n,k)::r,cs,h1,h2,x,c,hm=>by
  refine ZmK r _ (λy hy=>h1 y (Oh _ hy)) (λx c hm=>?_) x c hm;by_cases hk:(k==Yn)=Wp
  . rw[if_pos hk]at hm;rcases O2.mp hm with e|hm
    . cases e;have hk':k=.free:=by cases k<;>first|rfl|(exact absurd hk (by decide))
      obtain⟨c,e⟩:=h1 (n,k) Oi hk';rw[e];rfl
    . exact h2 x c hm
  . rw[if_neg hk]at hm;exact h2 x c hm
theorem ZkN:∀(l:List (Str×NameKind)) (cs:List (Str×Yi)) (p:Str×Yi),p∈cs->p∈ZgL env l cs
 |[],_,_,h=>h
 |(n,k)::r,cs,p,h=>by
  refine ZkN r _ p ?_;by_cases hk:(k==Yn)=Wp
  . rw[if_pos hk];exact Oh _ h
  . rw[if_neg hk];exact h
theorem ZmL:∀(l:List (Str×NameKind)) (cs:List (Str×Yi)) (y:Str×NameKind),y∈l->y.2=.free->∃c,(y.1,c)∈ZgL env l cs
 |(n,k)::r,cs,y,h,hf=>by
  rcases O2.mp h with e|h
  . subst e;refine⟨(env.cells.lookup n).getD 0,ZkN r _ _ ?_⟩;have hk:(k==Yn)=Wp:=by have:k=.free:=hf;subst this;rfl
    rw[if_pos hk];exact Oi
  . exact ZmL r _ y h hf
theorem Zd5:∀{l:List (Str×α)}{x:Str}{c:α},(x,c)∈l->∃c',l.lookup x=Wn c'/\(x,c')∈l
 |(n,d)::r,x,c,h=>by
  cases hx:x==n with
  |true=>
   have e:x=n:=by simpa using hx
   subst e;exact⟨d,by simp[OF],Oi⟩
  |false=>
   rcases O2.mp h with e|h
   . cases e;simp at hx
   . obtain⟨c',h1,h2⟩:=Zd5 h;exact⟨c',by simp only[OF,hx];exact h1,Oh _ h2⟩
def Zj1(h:∀y∈scope.names,y.2=.free->∃c,env.cells.lookup y.1=Wn c):closureFor scope env=pure (ZgL env scope.names []):=by
 have all:∀(l:List (Str×NameKind)) (cs:List (Str×Yi)),(∀y∈l,y.2=.free->∃c,env.cells.lookup y.1=Wn c) ->
  (forIn l cs λ(x:Str×NameKind) r=>match x with|(name,kind)=>if (kind==Yn)=Wp then(do let a <- cellOf env name;pure (ForInStep.yield ((name,a)::r)))else pure (ForInStep.yield r):Sem (List (Str×Yi)))=pure (ZgL env l cs):=by
  intro l;induction l with
  |nil=>intro cs _;rfl
  |cons y r ih=>
   intro cs hl;obtain⟨n,k⟩:=y;rw[List.forIn_cons];have hr:=λcs=>ih cs λy hy=>hl y (Oh _ hy);by_cases hk:(k==Yn)=Wp
   . have hk':k=.free:=by cases k<;>first|rfl|(exact absurd hk (by decide))
     obtain⟨c,e⟩:=hl (n,k) Oi hk';have ec:cellOf env n=pure c:=by unfold cellOf;rw[e]
     simp only[hk,if_true,ec];show(forIn r ((n,c)::cs) _:Sem _)=_;rw[hr];show _=pure (ZgL env r (if (k==Yn)=Wp then(n,(env.cells.lookup n).getD 0)::cs else cs));rw[if_pos hk,e];rfl
   . simp only[hk];show(forIn r cs _:Sem _)=_;rw[hr];show _=pure (ZgL env r (if (k==Yn)=Wp then(n,(env.cells.lookup n).getD 0)::cs else cs));rw[if_neg hk]
 unfold closureFor;have z:=all scope.names [] h;dsimp only at z ⊢;rw[z];rfl
set_option tactic.hygienic false
def ZmI(I:Nat->Yb->Prop)
 (turn:∀n s,I n s->Yz (model prog w) A (pyNext it) (λr s₁=>match r with
  |none=>R (.ok .next) s₁
  |some v=>Yz (model prog w) A (letOwnedTupleGo target it v) (λ_ s₁'=>Yz (model prog w) A (assign target env v) (λ_ s₂=>
   Yz (model prog w) A (forIn ifs Wp λc r=>if r=Wp then do let ok <- isTrue c env (eval c env);pure (ForInStep.yield ok)else pure (ForInStep.yield r)) (λok s₃=>
    if ok=Wp then Yz (model prog w) A (eval elt env) (λx s₄=>Yz (model prog w) A (call (.builtin "list.append") [acc,x]) (λ_ s₅=>∃m,m<n/\I m s₅) (notedBy (model prog w) A env λe s'=>R (.error e) s') s₄) (notedBy (model prog w) A env λe s'=>R (.error e) s') s₃
    else ∃m,m<n/\I m s₃) (notedBy (model prog w) A env λe s'=>R (.error e) s') s₂) (notedBy (model prog w) A env λe s'=>R (.error e) s') s₁') (notedBy (model prog w) A env λe s'=>R (.error e) s') s₁) (notedBy (model prog w) A env λe s'=>R (.error e) s') s)
 (n:Nat) (h:I n s) :
 codeAny (model prog w) A (.compLoop (.ListComp elt [⟨target,iter,ifs,0⟩] scope pos) 0 it acc env) R s:=by
 refine codeAny_loop rfl I (λn s hI=>?_) n h;show Yz _ A ((compTurn (.ListComp elt [⟨target,iter,ifs,0⟩] scope pos) 0 it acc env).onRaise (λx=>do noteFrame x env;theTreesLotGoes x)) _ _ s;refine wpAny_noted ?_;rw[compTurn_list];refine Ya (wpAny_standAt (Ya (Yf (turn n s hI) (λr s₁ h₁=>?_) λ_ _ h'=>h')));cases r with
 |none=>exact Yc h₁
 |some v=>
  refine Ya (Yf h₁ (λ_ s₁' h₁'=>?_) λ_ _ h'=>h');refine Ya (Yf h₁' (λ_ s₂ h₂=>Ya (Yf h₂ (λok s₃ h₃=>?_) λ_ _ h'=>h')) λ_ _ h'=>h');cases ok with
  |false=>exact Yc ⟨rfl,h₃⟩
  |true=>exact Ya (Ya (Yf h₃ (λx s₄ h₄=>Ya (Yf h₄ (λ_ s₅ h₅=>Yc (Yc ⟨rfl,h₅⟩)) λ_ _ h'=>h')) λ_ _ h'=>h'))
structure CompSc(NC N:List Str)(js:List (Option Nat))(sc scope:Scope):Prop where
 kind:scope.kind=.function
 dkind:sc.kind=.function
 nocell:∀y∈scope.names,y.2≠.cell
 locs:∀y∈scope.names,y.2=.local->scope.names.lookup y.1=Wn .local
 free:∀y∈scope.names,y.2=.free->sc.names.lookup y.1=Wn .cell
 nd:NC.Nodup
 len:js.length=NC.length
 jok:((NC.zip js).all λp=>p.2.all λj=>Wr (N[j]? = Wn p.1)&&Wr (scope.names.lookup p.1=Wn .free))=Wp
theorem CompSc.at{NC N:List Str}{js:List (Option Nat)}(S_:CompSc NC N js sc scope){i j:Nat}{x:Str}(h1:NC[i]? = Wn x)(h2:js[i]? = Wn (Wn j)):N[j]? = Wn x/\scope.names.lookup x=Wn .free:=by
 have h:=S_.jok;rw[OC]at h;have hm:(x,Wn j)∈NC.zip js:=by refine O1 (i:=i) ?_;rw[List.getElem?_zip_eq_some];exact⟨h1,h2⟩
 have q:=h _ hm;simp only[Option.all_some,Oa,decide_eq_true_eq]at q;exact q
def capt(js:List (Option Nat))(Z:St):St:=js.map λo=>o.bind λj=>(Z[j]?).join
def ZI(X:Cx)(NC:List Str)(scope:Scope)(C:Yi)(s3:Yb)(H3:Hp)(fp:List Yi):Cx:={X with N:=NC,s₀:=s3,H₀:=H3,env:=compEnvC scope (ZgL X.env scope.names []) C X.env,outer:=X.stack,stack:=X.stack,ex:=fp,fn:=λ_=>Wq,calm:=true,pn:=[],xe:=λ_ _=>False}
def ZnV(k:Nat)(g:TG):Prop:=∀x Z H Q,g x Z H Q->g x Z H λσ2 H2=>Q σ2 H2/\σ2.length=Z.length/\∀j,k<=j->σ2[j]? = Z[j]?
def Zm8(k:Nat)(g:TGs):Prop:=∀x Z H Q,g x Z H Q->g x Z H λσ2 H2=>Q σ2 H2/\σ2.length=Z.length/\∀j,k<=j->σ2[j]? = Z[j]?
def Zte(h:i<k):ZnV k (ZcQ i):=λx Z H Q q=>⟨q,List.length_set,λj hj=>by rw[Oc (by lia)]⟩
def Zn8:Zm8 k ZuC:=λx Z H Q q=>⟨q.1,q.2,rfl,λ_ _=>rfl⟩
def Ziu(h:i<k)(hu:Zm8 k u):Zm8 k (ZmB (ZcQ i) u):=by
 rintro xs Z H Q ⟨v,r,e,q⟩;refine⟨v,r,e,?_⟩;have z:=hu r (Z.set i (Wn v)) H Q q;have z2:=hu r (Z.set i (Wn v)) H (λσ2 H2=>Q σ2 H2/\σ2.length=(Z.set i (Wn v)).length/\∀j,k<=j->σ2[j]? = (Z.set i (Wn v))[j]?) z;show u r (Z.set i (Wn v)) H _;have e1:(Z.set i (Wn v)).length=Z.length:=List.length_set;have e2:∀j,k<=j->(Z.set i (Wn v))[j]? = Z[j]? := λj hj=>Oc (by lia);have e3:(λσ2 H2=>Q σ2 H2/\σ2.length=Z.length/\∀j,k<=j->σ2[j]? = Z[j]?)=(λσ2 H2=>Q σ2 H2/\σ2.length=(Z.set i (Wn v)).length/\∀j,k<=j->σ2[j]? = (Z.set i (Wn v))[j]?):=by funext σ2 H2;rw[e1];refine propext ⟨λ⟨a,b,c⟩=>⟨a,b,λj hj=>(c j hj).trans (e2 j hj).symm⟩,λ⟨a,b,c⟩=>⟨a,b,λj hj=>(c j hj).trans (e2 j hj)⟩⟩
 rw[e3];exact z
def ZqN{K:Yk}(hu:Zm8 k u):ZnV k (ZuB K n u):=by rintro x Z H Q ⟨a,xs,e,h1,h2,q⟩;exact⟨a,xs,e,h1,h2,hu xs Z H Q q⟩
def PIf(X:Cx)(ifs:List Expr)(t:TT):Prop:=
 ∀(pins:List (Yi×Obj)) (s:Yb) (Z:St) (H:Hp) (Q:Bool->Hp->Prop),Inv X pins Z H s->t Z H Q ->
  Yz (model X.prog X.w) X.A (forIn ifs Wp λc r=>if r=Wp then do let ok <- isTrue c X.env (eval c X.env);pure (ForInStep.yield ok)else pure (ForInStep.yield r)) (TP X pins Z Q) X.xe s
noncomputable def ZAN:TT:=λ_ H Q=>Q Wp H
def ZtN{X:Cx}:PIf X [] ZAN:=λ_ _ _ H _ I h=>wpAny_tests_nil ⟨H,I,h⟩
def ZtM{X:Cx}{c:Expr}{t:TT}(hc:PT X c t):PIf X [c] t:=λpins s Z H Q I h=>wpAny_tests_one (hc pins s Z H Q I h)
def ZqQ(wi:TI)(js:List (Option Nat))(g:TG)(tc:TT)(te:TE):TE:=λZ H Q=>wi Z H λJ H1=>∀D,H1 D=Wo->∃W:Nat->Nat->List V->Hp->Prop,(∃m,W 0 m [] (upd H1 D (.lst []))) /\
 ∀i m ys H,W i m ys H->H D=Wn (.lst ys)->(J.stop i H/\Q (.ref D) H) \/
  (J.go i H/\ys.length<sizeLine/\∀x H',J.yld i H x H'->g x (capt js Z) H' λσ2 H2=>tc σ2 H2 λb H3=>
   if b=Wp then te σ2 H3 λy H4=>H4 D=Wn (.lst ys)/\∃m',m'<m/\W (i+1) m' (ys++[y]) (upd H4 D (.lst (ys++[y])))
   else H3 D=Wn (.lst ys)/\∃m',m'<m/\W (i+1) m' ys H3)
section
variable {X:Cx}{pins:List (Yi×Obj)}{Z:St}{H:Hp}{s:Yb}
def Zsi{NC:List Str}{js:List (Option Nat)}{sc scope:Scope}{C:Yi}{h4:YE}{tk:Nat}{fp:List Yi}{m:Str->Option Yj}(S_:CompSc NC X.N js sc scope)(hsc:X.env.scope=sc)(hc:X.calm=Wp)
 (I:Inv X pins Z H s) (f:∀b∈fp,Zc4 X pins H b) (fo:∀b∈fp,∃o,s.heap.get? b=Wn o) (hC:C=s.heap.objs.size) (hns:h4.Ns C m) (hk:∀b o,s.heap.get? b=Wn o->h4.get? b=Wn o) :
 Inv (ZI X NC scope C s H fp) [] (capt js Z) H {s with heap:=h4,toks:=tk}:=by
 have hcells:∀y∈scope.names,y.2=.free->∃c,X.env.cells.lookup y.1=Wn c:=λy hy hf=>I.ok.has y.1 (.inl (show X.env.scope.names.lookup y.1=Wn .cell by rw[hsc];exact S_.free y hy hf));have cl1:∀x c,(ZgL X.env scope.names []).lookup x=Wn c->X.env.cells.lookup x=Wn c:=λx c e=>ZmK scope.names [] hcells (λ_ _ z=>by cases z) x c (YG e);have cl2:∀y∈scope.names,y.2=.free->∃c,(ZgL X.env scope.names []).lookup y.1=Wn c:=λy hy hf=>by obtain⟨c,hm⟩:=ZmL (env:=X.env) scope.names [] y hy hf;obtain⟨c',e,_⟩:=Zd5 hm;exact⟨c',e⟩
 have kinds:∀x,(ZI X NC scope C s H fp).env.kindOf x=(scope.names.lookup x).map λk=>if (k==Yn&&X.env.scope.kind==.function&&X.env.kindOf x==Wn .cell)then NameKind.cell else k:=λx=>Zdb scope.names x;have fcell:∀x,scope.names.lookup x=Wn .free->(ZI X NC scope C s H fp).env.kindOf x=Wn .cell:=λx e=>by
  rw[kinds,e];have h1:X.env.kindOf x=Wn .cell:=show X.env.scope.names.lookup x=Wn .cell by rw[hsc];exact S_.free (x,.free) (YG e) rfl
  have h2:X.env.scope.kind=.function:=I.ok.kind;simp only[Yt,h1,h2];rfl
 have flt:∀b∈fp,b<s.heap.objs.size:=λb hb=>let ⟨o,e⟩:=fo b hb;Ym e;refine⟨⟨I.ok.mod,S_.kind,I.ok.glob,I.ok.blt,Nat.le_of_eq hC.symm,λx y c h1 h2=>I.ok.inj x y c (cl1 x c h1) (cl1 y c h2),λx hx=>?_,λx c hf _=>absurd (show Wq=Wp from hf) Ow,λ_=>I.ok.hd hc,I.ok.frames,.inl rfl,λb hb=>⟨?_,λx c e=>(f b hb).2.2.2.2.1 x c (cl1 x c e)⟩,
  I.bs,OE I.ok.bsz I.sz,λb o e hb=>?_,λb hb hm=>?_,I.stack,I.stkFree⟩,
  rfl,I.bare,Un.kept hk,⟨m,hns,λi x v h1 h2 h3=>?_⟩,λx c e=>?_,?_,λx c e=>I.freeC x c (cl1 x c e),λp hp=>absurd (show p∈([]:List (Yi×Obj))from hp) (by simp),I.hok.kept hk,?_⟩
 . rw[kinds]at hx;cases e:scope.names.lookup x with
   |none=>rw[e]at hx;rcases hx with hx|hx<;>cases hx
   |some k=>
    rw[e]at hx;have hm:=YG e;have hk:k=.free:=by
     by_cases hf:(k==Yn)=Wp
     . cases k<;>first|rfl|(exact absurd hf (by decide))
     . have hf':(k==Yn)=Wq:=Bool.eq_false_iff.mpr hf;simp only[Yt,hf',Bool.false_and,OG,if_false]at hx;rcases hx with hx|hx
       . exact absurd (YD hx) (S_.nocell _ hm)
       . exact YD hx
    exact cl2 (x,k) hm hk
 . show b≠C;rw[hC];exact Ou (flt b hb)
 . obtain⟨_,_,_,f3,_⟩:=f b hb;rcases f3 with z|z
   . exact I.ok.noex b o e z
   . exact absurd (Ot (Ym e) (OE I.ok.bsz z)) (Yu _)
 . obtain⟨_,f1,f2,_⟩:=f b hb;exact(O2.mp (I.stkSub b hm)).elim f1 f2
 . have hj:∃j,js[i]? = Wn (Wn j)/\Z[j]? = Wn (Wn v):=by
    unfold capt at h2;rw[On]at h2;cases e:js[i]? with
    |none=>rw[e]at h2;cases h2
    |some o=>
     rw[e]at h2;have h2':(o.bind λj=>(Z[j]?).join)=Wn v:=YD h2;cases o with
     |none=>cases h2'
     |some j=>
      refine⟨j,rfl,?_⟩;have h3':(Z[j]?).join=Wn v:=h2';cases q:Z[j]? with
      |none=>rw[q]at h3';cases h3'
      |some r=>rw[q]at h3';rw[show r=Wn v from h3']
   obtain⟨j,hj,hσ⟩:=hj;obtain⟨hN,hfr⟩:=S_.at (show NC[i]? = Wn x from h1) hj;have hcell:X.env.scope.names.lookup x=Wn .cell:=by rw[hsc];exact S_.free (x,.free) (YG hfr) rfl
   obtain⟨m0,_,hl⟩:=I.loc;obtain⟨u,r,l⟩:=hl j x v hN hσ (.inr (.inl hcell));refine⟨u,r,?_⟩;rcases l with ⟨k,_⟩|⟨_,c,e,z⟩
   . rw[show X.env.kindOf x=Wn .cell from hcell]at k;cases k
   . obtain⟨c',e'⟩:=cl2 (x,.free) (YG hfr) rfl;have ec:=cl1 x c' e';rw[e]at ec;cases ec;obtain⟨o,ho,hd⟩:=z;exact .inr ⟨.inl (fcell x hfr),c,e',o,hk _ _ ho,hd⟩
 . obtain⟨v,o,ho,hd⟩:=I.cell x c (cl1 x c e);exact⟨v,o,hk _ _ ho,hd⟩
 . show H C=Wo;rw[hC];exact I.hok.fresh (Oq _)
 . unfold capt;rw[Ys];exact S_.len
end
section
variable {X:Cx}{elt tg iter:Expr}{ifs:List Expr}{scope sc:Scope}{pos:Pos}{NC:List Str}{js:List (Option Nat)}{k:Nat}{wi:TI}{g:TG}{tc:TT}{te:TE}
def Inv.comp_out{pins:List (Yi×Obj)}{Z σ':St}{H3 H':Hp}{s3 s1:Yb}{C:Yi}{fp:List Yi}{h'':YE}(I3:Inv X pins Z H3 s3)(f:∀b∈fp,Zc4 X pins H3 b)(hC:C=s3.heap.objs.size)
 (I':Inv (ZI X NC scope C s3 H3 fp) [] σ' H' s1) (hs:Heap.SameBut C s1.heap h''):Inv X pins Z H' {s1 with heap:=h''}:=by
 have ne:∀b o,s3.heap.get? b=Wn o->b≠C:=λb o e=>by rw[hC];exact Ou (Ym e)
 have u:=I'.base;refine I3.call' (s':={s1 with heap:=h''}) (ch:=fp) I'.os ⟨λb o e n hb hx=>(hs.2 b (ne b o e)).trans (u.keep b o e n hb hx),λb o e n hb hx=>?_,u.free,λb o e hx=>?_,u.tups,u.frzs,u.tbls⟩ ?_ I'.bare λb hb=>?_
 . obtain⟨sl,q⟩:=u.slot b o e n hb hx;exact⟨sl,(hs.2 b (ne b o e)).trans q⟩
 . obtain⟨o',q⟩:=u.there b o e hx;exact⟨o',(hs.2 b (ne b o e)).trans q⟩
 . have hfree:H' C=Wo:=I'.free;intro b ob e;refine(I'.hok b ob e).stay (λc w' hc q=>(hs.2 c ?_).trans q) (λ_ q=>q) λ_ _ q=>q;rintro rfl;rcases hc with rfl|hc
   . rw[hfree]at e;cases e
   . rw[hfree]at hc;cases hc
 . obtain⟨_,f1,_,f3,f4,f5⟩:=f b hb;exact⟨f3,f1,f4,f5⟩
def Zqm{pins:List (Yi×Obj)}{Z:St}{H3:Hp}{s3 s4:Yb}{C Dd it:Yi}{fp:List Yi}{tn:Nat->YE->Prop}{J:It}{W:Nat->Nat->List V->Hp->Prop}{Q:VK}{m0:Nat}{post:Result->Yb->Prop}
 (hb:∀(C:Yi) (s3:Yb) (H3:Hp) (fp:List Yi),PG (ZI X NC scope C s3 H3 fp) tg g/\PIf (ZI X NC scope C s3 H3 fp) ifs tc/\PE (ZI X NC scope C s3 H3 fp) elt te)
 (hk:ZnV k g) (hjk:∀j,j<k->js[j]? = Wn Wo) (hC:C=s3.heap.objs.size) (f3:∀b∈fp,Zc4 X pins H3 b) (fpl:∀b∈fp,∃o,s3.heap.get? b=Wn o) (I4:Inv (ZI X NC scope C s3 H3 fp) [] (capt js Z) H3 s4) (T:Turn X.prog X.w X.K tg J fp it tn) (st4:tn 0 s4.heap) (hD0:H3 Dd=Wn (.lst [])) (w0:W 0 m0 [] H3)
 (turn:∀i m ys H,W i m ys H->H Dd=Wn (.lst ys)->(J.stop i H/\Q (.ref Dd) H)\/(J.go i H/\ys.length<sizeLine/\∀x H',J.yld i H x H'->g x (capt js Z) H' λσ2 H2=>tc σ2 H2 λb H3=>if b=Wp then te σ2 H3 λy H4=>H4 Dd=Wn (.lst ys)/\∃m',m'<m/\W (i+1) m' (ys++[y]) (upd H4 Dd (.lst (ys++[y])))else H3 Dd=Wn (.lst ys)/\∃m',m'<m/\W (i+1) m' ys H3))
 (stp:∀s6 H5,Inv (ZI X NC scope C s3 H3 fp) [] (capt js Z) H5 s6->Q (.ref Dd) H5->post (.ok .next) s6) :
 codeAny (model X.prog X.w) X.A (.compLoop (.ListComp elt [⟨tg,iter,ifs,0⟩] scope pos) 0 (.ref it) (.ref Dd) (compEnvC scope (ZgL X.env scope.names []) C X.env)) post s4:=by
 have stat:∀{H':Hp},(∀b∈fp,H' b=Wo)->∀b∈fp,Zc4 (ZI X NC scope C s3 H3 fp) [] H' b:=λhn b hb=>⟨hn b hb,(by rw[hC];exact Ou (let ⟨o,e⟩:=fpl b hb;Ym e)),λhm=>I4.ok.exfs b hb hm,.inl hb,λx c e=>(I4.ok.exf b hb).2 x c e,λp hp=>absurd (show p∈([]:List (Yi×Obj))from hp) (by simp)⟩
 refine ZmI (λn s'=>∃i ys H',Inv (ZI X NC scope C s3 H3 fp) [] (capt js Z) H' s'/\tn i s'.heap/\(∀b∈fp,H' b=Wo)/\H' Dd=Wn (.lst ys)/\W i n ys H') ?_ m0
  ⟨0,[],_,I4,st4,λb hb=>(f3 b hb).1,hD0,w0⟩
 rintro n s5 ⟨i,ys,H5,I5,st5,fr5,hD5,w5⟩;rcases turn i n ys H5 w5 hD5 with ⟨stop,qn⟩|⟨go,hlen,step⟩
 . refine Yf (T.done (ZI X NC scope C s3 H3 fp) rfl rfl rfl rfl i [] s5 (capt js Z) H5 (λ_ _=>False) I5 (stat fr5) st5 stop) (λr s6 ⟨hr,I6⟩=>?_) λ_ _ z=>z.elim;subst hr;exact stp s6 H5 I6 qn
 . refine Yf (T.item (ZI X NC scope C s3 H3 fp) rfl rfl rfl rfl i [] s5 (capt js Z) H5 (λ_ _=>False) I5 (stat fr5) st5 go) (λr s6 ⟨u,hr,h6⟩=>?_) λ_ _ z=>z.elim;subst hr;refine Yf h6 (λ_ s7 ⟨x,H7,I7,r7,y7,st7,fr7⟩=>?_) λ_ _ z=>z.elim;have I7':=I7.pinned (stat fr7) (T.obj _ _ st7);obtain⟨pg,pif,pe⟩:=hb C s3 H3 fp;refine Yf (pg _ s7 (capt js Z) H7 x u _ I7' r7 (hk _ _ _ _ (step x H7 y7))) (λ_ s8 ⟨σ8,H8,I8,q8,l8,k8⟩=>?_) λ_ _ z=>z.elim;have back:∀{H9:Hp}{s9:Yb},Inv (ZI X NC scope C s3 H3 fp) ([]++ZiG fp s7.heap) σ8 H9 s9 ->
    Inv (ZI X NC scope C s3 H3 fp) [] (capt js Z) H9 s9/\tn (i+1) s9.heap/\∀b∈fp,H9 b=Wo:=λ{H9 s9} I9=>by
    refine⟨(I9.unpinned).weak l8.symm λj v e=>?_,T.keep _ _ _ st7 λb hb o e=>(I9.pin (b,o) (Ov _ (Ov _ (Zcz hb e)))).1,λb hb=>?_⟩
    . by_cases hj:j<k
      . unfold capt at e;rw[On,hjk j hj]at e;cases e
      . rw[k8 j (Nat.le_of_not_lt hj)];exact e
    . obtain⟨o,e,d⟩:=T.obj _ _ st7 b hb;exact(I9.pin (b,o) (Ov _ (Ov _ (Zcz hb e)))).2.1
   refine Yf (pif _ s8 σ8 H8 _ I8 q8) (λok s9 ⟨H9,I9,q9⟩=>?_) λ_ _ z=>z.elim;cases ok with
   |false=>rw[if_neg Ow]at q9 ⊢;obtain⟨hD9,m',hm,w9⟩:=q9;obtain⟨b1,b2,b3⟩:=back I9;exact⟨m',hm,i+1,ys,H9,b1,b2,b3,hD9,w9⟩
   |true=>
    rw[if_pos rfl]at q9 ⊢;refine Yf (pe _ s9 σ8 H9 _ I9 q9) (λy s10 ⟨v,H10,I10,r10,hD10,m',hm,w10⟩=>?_) λ_ _ z=>z.elim;refine Yf (ZkA (X:=ZI X NC scope C s3 H3 fp) _ s10 σ8 H10 (.ref Dd) [v] (.ref Dd) [y]
     (λ_ H11=>H11=upd H10 Dd (.lst (ys++[v]))) I10 rfl (.cons r10 .nil) ⟨_,ys,v,rfl,rfl,hD10,hlen,rfl⟩) (λ_ s11 ⟨_,H11,I11,_,e11⟩=>?_) λ_ _ z=>z.elim
    subst e11;obtain⟨b1,b2,b3⟩:=back I11;exact⟨m',hm,i+1,ys++[v],_,b1,b2,b3,Zo,w10⟩
def ZmH{U:Option (Yj->Sem Unit)}{Q0:Yj->Yb->Prop}{Q:VK}{pins:List (Yi×Obj)}{Z:St}{H:Hp}{s:Yb}(S_:CompSc NC X.N js sc scope)(hsc:X.env.scope=sc)(hc:X.calm=Wp)(hi:PI X tg iter wi)
 (hb:∀(C:Yi) (s3:Yb) (H3:Hp) (fp:List Yi),PG (ZI X NC scope C s3 H3 fp) tg g/\PIf (ZI X NC scope C s3 H3 fp) ifs tc/\PE (ZI X NC scope C s3 H3 fp) elt te)
 (hk:ZnV k g) (hjk:∀j,j<k->js[j]? = Wn Wo) (hs:∀x,foldedSetIterable iter X.env x=pure x) (I:Inv X pins Z H s) (h:ZqQ wi js g tc te Z H Q)
 (stp:∀C Dd (s3 s6:Yb) H3 H5 fp,C=s3.heap.objs.size->Inv X pins Z H3 s3->(∀b∈fp,Zc4 X pins H3 b)->Inv (ZI X NC scope C s3 H3 fp) [] (capt js Z) H5 s6->Q (.ref Dd) H5->compPost (model X.prog X.w) X.A X.xe U Q0 (.ref Dd) C (.ok .next) s6) :
 Yz (model X.prog X.w) X.A (comprehension (.ListComp elt [⟨tg,iter,ifs,0⟩] scope pos) scope X.env posn (newList []) Wq (eval iter X.env) U) Q0 X.xe s:=by
 have hcells:∀y∈scope.names,y.2=.free->∃c,X.env.cells.lookup y.1=Wn c:=λy hy hf=>I.ok.has y.1 (.inl (show X.env.scope.names.lookup y.1=Wn .cell by rw[hsc];exact S_.free y hy hf));refine wpAny_comprehension_free rfl hs (Zj1 hcells) S_.kind S_.locs (thn (hi pins s Z H _ I h) λxv s1 h1=>thn h1 λitv s2 h2=>?_);obtain⟨it,fp,tn,J,H2,e,I2,T,st2,f2,rest⟩:=h2;subst e;have hD:H2 s2.heap.objs.size=Wo:=I2.hok.fresh (Oq _);obtain⟨W,⟨m0,w0⟩,turn⟩:=rest s2.heap.objs.size hD;refine Yp (wpAny_newFunctionEnv S_.nocell (by intro y hy;simp at hy) (λh4 hns hsb=>?_) S_.kind);have I3:Inv X pins Z (upd H2 s2.heap.objs.size (.lst [])) {s2 with heap:=s2.heap.push {cls:=.type "list",dict:=Wo,data:=.seq ([]:List Yj).toArray}}:=I2.lnew (t':=s2.toks) (ys:=[]) (its:=[]) .nil (Yv _);dsimp only at hns hsb ⊢;generalize hs3:({s2 with heap:=s2.heap.push {cls:=.type "list",dict:=Wo,data:=.seq ([]:List Yj).toArray}}:Yb)=s3 at I3;have eh:s2.heap.push {cls:=.type "list",dict:=Wo,data:=.seq ([]:List Yj).toArray}=s3.heap:=by rw[<- hs3]
 have eD:s2.heap.objs.size<s3.heap.objs.size:=by rw[<- eh,Heap.size_push];exact OH _
 rw[eh]at hns hsb;have keep:∀b o,s3.heap.get? b=Wn o->h4.get? b=Wn o:=λb o e=>(hsb.2 b (Ou (Ym e))).trans (Od _ e);have fpl:∀b∈fp,∃o,s3.heap.get? b=Wn o:=λb hb=>by obtain⟨o,e,_⟩:=T.obj 0 _ st2 b hb;exact⟨o,by rw[<- eh];exact Od _ e⟩
 have neD:∀b∈fp,b≠s2.heap.objs.size:=λb hb=>by obtain⟨o,e,_⟩:=T.obj 0 _ st2 b hb;exact Ou (Ym e)
 have f3:∀b∈fp,Zc4 X pins (upd H2 s2.heap.objs.size (.lst [])) b:=λb hb=>⟨by rw[Zy (neD b hb)];exact(f2 b hb).1,(f2 b hb).2⟩
 have I4:=Zsi (tk:=s2.toks+([]:List (Str×Yj)).length) S_ hsc hc I3 f3 fpl rfl hns keep;have st4:tn 0 h4:=T.keep 0 _ _ st2 λb hb o e=>keep b o (by rw[<- eh];exact Od _ e);have eC:(s2.heap.push {cls:=.type "list",dict:=Wo,data:=.seq ([]:List Yj).toArray}).objs.size=s3.heap.objs.size:=by rw[eh]
 have loop:∀s4:Yb,s4={s3 with heap:=h4,toks:=s2.toks+([]:List (Str×Yj)).length} ->
  codeAny (model X.prog X.w) X.A (.compLoop (.ListComp elt [⟨tg,iter,ifs,0⟩] scope pos) 0 (.ref it) (.ref s2.heap.objs.size) (compEnvC scope (ZgL X.env scope.names []) s3.heap.objs.size X.env))
   (compPost (model X.prog X.w) X.A X.xe U Q0 (.ref s2.heap.objs.size) s3.heap.objs.size) s4:=by
  rintro s4 rfl;exact Zqm hb hk hjk rfl f3 fpl I4 T st4 Zo w0 turn λs6 H5 I6 qn=>stp _ _ s3 s6 _ H5 fp rfl I3 f3 I6 qn
 have e4:({s2 with heap:=h4,toks:=s2.toks+([]:List (Str×Yj)).length}:Yb)={s3 with heap:=h4,toks:=s2.toks+([]:List (Str×Yj)).length}:=by rw[<- hs3]
 rw[eC];exact codeAny_compStart_list (loop _ e4) (T.self X.A 0 _ _ _ st4 (loop _ e4))
def ZtU(S_:CompSc NC X.N js sc scope)(hsc:X.env.scope=sc)(hc:X.calm=Wp)(hi:PI X tg iter wi)
 (hb:∀(C:Yi) (s3:Yb) (H3:Hp) (fp:List Yi),PG (ZI X NC scope C s3 H3 fp) tg g/\PIf (ZI X NC scope C s3 H3 fp) ifs tc/\PE (ZI X NC scope C s3 H3 fp) elt te)
 (hk:ZnV k g) (hjk:∀j,j<k->js[j]? = Wn Wo) (hs:∀x,foldedSetIterable iter X.env x=pure x:=by intro _;rfl) :
 PE X (.ListComp elt [⟨tg,iter,ifs,0⟩] scope pos) (ZqQ wi js g tc te):=λpins s Z H Q I h=>ZmH S_ hsc hc hi hb hk hjk hs I h λC Dd s3 s6 H3 H5 fp hC I3 f3 I6 qn=>by obtain⟨m,hm,_⟩:=I6.loc;exact⟨m,hm,λh' hs'=>⟨.ref Dd,H5,I3.comp_out f3 hC I6 hs',rfl,qn⟩⟩
end
set_option tactic.hygienic true
section
variable {X:Cx}
def TyN(K:Yk)(x:V)(H:Hp)(t:String):Prop:=match x with
 |.int _=>t = "int"
 |.str _=>t = "str"
 |.bl _=>t = "bool"
 |.non=>t = "NoneType"
 |.ref p=>(t = "list" /\ ∃xs,SqL K H p xs)\/(t = "tuple" /\ ∃xs,SqT K H p xs)
 |_=>False
def ZsT:Zaa X (.builtin "isinstance") (λxs H Q=>∃x t T b,xs=[x,.ty T]/\TyN X.K x H t/\PySem.W.kitOne X.K (.type t) (.type T)=Wn b/\Q (.bl b) H):=by
 intro pins s Z H xs us Q I r h;obtain⟨x,t,T,b,rfl,ty,e,q⟩:=h;obtain⟨u,w',rfl,rx,rT⟩:=vals2 r;obtain rfl:w'=Value.type T:=rT;have fin:∀tk,EP X pins Z Q (.bool b) {s with toks:=tk}:=λtk=>⟨.bl b,H,I.tok tk,rfl,q⟩
 cases x with
 |int i=>obtain⟨tk,rfl⟩:=rx;obtain rfl:t = "int" := ty;exact PySem.W.kia_one PySem.W.kitx_int I.kIn trivial e (by intro z;cases z) fin
 |str i=>obtain⟨tk,rfl⟩:=rx;obtain rfl:t = "str" := ty;exact PySem.W.kia_one PySem.W.kitx_str I.kIn trivial e (by intro z;cases z) fin
 |bl i=>obtain rfl:u=Value.bool i:=rx;obtain rfl:t = "bool" := ty;exact PySem.W.kia_one PySem.W.kitx_bool I.kIn trivial e (by intro z;cases z) fin
 |non=>obtain rfl:u=Value.none:=rx;obtain rfl:t = "NoneType" := ty;exact PySem.W.kia_one PySem.W.kitx_none I.kIn trivial e (by intro z;cases z) fin
 |ref p=>
  obtain rfl:u=YB p:=rx;rcases ty with ⟨rfl,xs,hx⟩|⟨rfl,xs,hx⟩
  . obtain⟨its,_,pl,_⟩:=I.list hx;exact PySem.W.kia_one PySem.W.kitx_list I.kIn pl.isList.typeIs e (by intro z;cases z) fin
  . obtain⟨its,_,pl,_⟩:=I.tuple hx;exact PySem.W.kia_one PySem.W.kitx_tuple I.kIn pl.typeIs e (by intro z;cases z) fin
 |_=>exact(show False from ty).elim
def Zqb{K:Yk}(h:PySem.W.kitOne [] (.type t) (.type T)=Wn b):PySem.W.kitOne K (.type t) (.type T)=Wn b:=h
def range_all(bs:List Bool):(List.range bs.length).all (λi=>bs.getD i Wq)=bs.all id:=by
 rw[Bool.eq_iff_iff,OC,OC];constructor
 . intro h x hx;obtain⟨i,hi,e⟩:=List.getElem_of_mem hx;have:=h i (List.mem_range.mpr hi);rw[List.getD_eq_getElem?_getD,Og hi]at this;subst e;exact this
 . intro h i hi;have hi':=List.mem_range.mp hi;rw[List.getD_eq_getElem?_getD,Og hi'];exact h _ (List.getElem_mem hi')
def ZsU(hc:X.calm=Wp):Zaa X (.builtin "all") (λxs H Q=>∃(a:Yi) (bs:List Bool),xs=[.ref a]/\SqL X.K H a (bs.map V.bl)/\Q (.bl (bs.all id)) H):=by
 intro pins s Z H xs us Q I r h;obtain⟨a,bs,rfl,hx,q⟩:=h;obtain⟨u,rfl,rx⟩:=vals1 r;obtain rfl:u=YB a:=rx;obtain⟨its,rv,pl,hz⟩:=I.list hx;have hlt:a<s.heap.objs.size:=by obtain⟨_,_,e,_⟩:=pl;exact Ym e
 have hl:its.length=bs.length:=by have:=rv.length;rw[Ys]at this;exact this.symm
 refine call_all_walk (wpAny_pyIter_list pl.isList ?_);refine⟨s.heap.objs.size,_,_,_,_,_,λi=>bs.getD i Wq,rfl,Walks.list (A:=X.A.in1) (show X.A.in1.handled=Wo from I.ok.hd hc) s.heap.objs.size a (Ou hlt) its.toArray,⟨⟨_,Oj _ rfl,rfl,rfl⟩,pl.isList.push _⟩,?_,λh' tk hk=>?_⟩
 . intro i v s' Q' E' hv hq;have hv':its[i]? = Wn v:=by simpa using hv
   have hi:i<bs.length:=by rw[<- hl];exact(Ob.mp hv').1
   have hb:(bs.map V.bl)[i]? = Wn (.bl bs[i]):=by rw[On,Og hi]<;>rfl
   obtain⟨u',e',r'⟩:=rv.get hb;rw[hv']at e';cases e';obtain rfl:v=Value.bool bs[i]:=r';refine wpAny_truthy_bool ?_;have e:bs.getD i Wq=bs[i]:=by rw[List.getD_eq_getElem?_getD,Og hi]<;>rfl
   rw[<- e];exact hq
 . refine⟨.bl (bs.all id),H,I.kept λb o e=>hk b o (λz=>?_) (Od _ e),?_,q⟩
   . have:b=s.heap.objs.size:=by simpa using z
     subst this;exact absurd (Ym e) (Yu _)
   . rw[<- range_all];show Value.bool ((List.range its.toArray.size).all _)=_;rw[Of,hl]
def ZBd:V->Option Int->Option Int->Hp->VK->Prop:=λx lo hi H Q=>∃y,x=.str y/\y.length<=sizeLine/\Q (.str (StrLaws.sliceText y lo hi)) H
def Zwx:SlR X ZBd:=by
 intro pins s Z H x v vl vu lo hi sl Q I rx hs pl pu h;obtain⟨y,rfl,hz,q⟩:=h;obtain⟨t,rfl⟩:=rx;refine⟨"str",_,F.slot_str_getitem.lookup,typeIs_str _ _ _,?_⟩;have go:∀(l u:Option (Int×Tok)),vl=partValue l->vu=partValue u->lo=l.map (·.1)->hi=u.map (·.1)->Yz (model X.prog X.w) X.A (getItem (.str y t) (.ref sl)) (EP X pins Z Q) X.xe s:=by rintro l u rfl rfl rfl rfl;refine wpAny_getItem_str_slice (l:=l) (u:=u) (st:=Wo) hs rfl ?_;refine post_val_or_str ⟨OE (Txt.slice_le y _ _) hz,λt' k=>⟨.str _,H,I.tok k,⟨t',rfl⟩,q⟩⟩
 cases pl with
 |none=>
  cases pu with
  |none=>exact go Wo Wo rfl rfl rfl rfl
  |int j tj=>exact go Wo (Wn (j,tj)) rfl rfl rfl rfl
 |int i ti=>
  cases pu with
  |none=>exact go (Wn (i,ti)) Wo rfl rfl rfl rfl
  |int j tj=>exact go (Wn (i,ti)) (Wn (j,tj)) rfl rfl rfl rfl
def Zj2:Zaa X (.type "int") (λxs H Q=>∃y n,xs=[.str y]/\PySem.intText? y=Wn n/\y.length<=640/\Q (.int n) H):=by intro pins s Z H xs us Q I r h;obtain⟨y,n,rfl,e,hl,q⟩:=h;obtain⟨u,rfl,t,rfl⟩:=vals1 r;exact PySem.W.KIN.call_text e hl ⟨.int n,H,I.tok _,⟨_,rfl⟩,q⟩
def ZrG(he:PE X e te)(hc:c.length<=1000000:=by decide):
 PE X (.JoinedStr [.Constant (.str c) j p1,.FormattedValue e 114 Wo p2] pos) (λZ H Q=>te Z H λx H1=>∃y,x=.str y/\(reprText y).length<=1000000/\∀z,Q (.str z) H1):=by
 intro pins s Z H Q I h;have hs:sizeLine=16777216:=YA;have e0:(Str.empty:Str).length=0:=rfl;refine JoinedStr_many (joinParts_cons (Calls.Constant_str ⟨by rw[strLen_append];lia,joinParts_cons (wpAny_FormattedValue_repr (thn (he pins {s with toks:=s.toks+1} Z H _ (I.tok _) h) λv s1 ⟨x,H1,I1,r1,y,ey,h1,q⟩=>?_))⟩));subst ey;obtain⟨t,rfl⟩:=r1;refine wpAny_pyReprObj_str ?_ (by lia);refine formatField_str (λt' tk=>?_) (by lia);have hl:(Str.empty++c++reprText y).length<=sizeLine:=by rw[strLen_append,strLen_append];lia
 exact⟨hl,joinParts_nil ⟨.str _,H1,I1.tok _,⟨_,rfl⟩,q _⟩ hl⟩
end
def Zaq.there(x:Zaq P w H h a o):∃ob,h.get? a=Wn ob:=by
 cases o with
 |lst xs=>obtain⟨_,_,_,_,e⟩:=x;exact⟨_,e⟩
 |tup xs=>obtain⟨_,_,_,ob,e,_⟩:=x;exact⟨_,e⟩
 |dK kvs=>obtain⟨_,_,_,_,o,_,_,e,_⟩:=x;exact⟨_,e⟩
 |dT kvs=>obtain⟨_,_,_,_,o,_,_,e,_⟩:=x;exact⟨_,e⟩
 |set S_ n=>obtain⟨o,_,_,_,e,_⟩:=x;exact⟨_,e⟩
 |ins C dx fs=>obtain⟨_,_,_,e,_⟩:=x;exact⟨_,e⟩
 |own y=>obtain⟨_,e⟩:=x;exact⟨_,e⟩
 |xd fs=>obtain⟨_,⟨_,_,_,e,_⟩,_⟩:=x;exact⟨_,e⟩
 |rng lo hi=>obtain⟨_,_,_,e⟩:=x;exact⟨_,e⟩
 |frz ob u=>obtain⟨e,_⟩:=x;exact⟨_,e⟩
 |tbl ps=>exact⟨_,(show h.get? a=Wn _ from x)⟩
 |met f y=>exact⟨_,(show h.get? a=Wn _ from x)⟩
 |ext φ=>obtain⟨_,⟨_,e⟩,_⟩:=x;exact⟨_,e⟩
def Kept(fs:List Yi)(H':Hp)(h h1 B_:YE):Prop:=∀b o,h1.get? b=Wn o->(H' b≠Wo\/((∃o',h.get? b=Wn o')/\b ∉ fs))->B_.get? b=Wn o
def CXF(P:Yh)(w:Yg):CXT:=λouter H s E e s'=>
 ∃(a:Yi) (cls a0:Yj) (H':Hp) (B_:YE),e=.ref a/\s'.os=s.os/\AllBare s'.gens/\Un (frs outer) [] H H' s.heap s'.heap/\HOk P w H' s'.heap /\
  Heap.FlyingW B_ outer a cls a0 s'.heap/\Kept (frs outer) H' s.heap s'.heap B_/\H' a=Wo/\E cls Wo H'
def Ze1(un:Un fs [] H H' h h1)(hok:HOk P w H' h1)(kb:Kept fs H' h h1 B_)(stay:B_.StaysIn h2)(up:h1.UpToSlots h2)
 (hf:∀b∈fs,∃o,h1.get? b=Wn o/\∀vs,o.data≠.fields vs):Un fs [] H H' h h2/\HOk P w H' h2/\Kept fs H' h h2 B_:=by
 have tr:∀b u,H' b=Wn u->∃o,h1.get? b=Wn o/\h2.get? b=Wn o/\B_.get? b=Wn o:=λb u e=>by obtain⟨o,q⟩:=(hok b u e).there;have z:=kb b o q (.inl (by rw[e];simp));exact⟨o,q,stay _ _ z,z⟩
 have old:∀b o,h.get? b=Wn o->b ∉ fs->∃o1,h1.get? b=Wn o1/\h2.get? b=Wn o1/\B_.get? b=Wn o1:=λb o e hb=>by obtain⟨o1,q⟩:=un.there b o e (by simp);have z:=kb b o1 q (.inr ⟨⟨o,e⟩,hb⟩);exact⟨o1,q,stay _ _ z,z⟩
 refine⟨⟨λb o e n hb _=>?_,λb o e n hb _=>?_,λb o e n _=>un.free b o e n (by simp),λb o e _=>?_,un.tups,un.frzs,un.tbls⟩,λb u e=>?_,λb o e hb=>?_⟩
 . obtain⟨o1,q1,q2,_⟩:=old b o e hb;have z:=un.keep b o e n hb (by simp);rw[q1]at z;cases z;exact q2
 . obtain⟨sl,z⟩:=un.slot b o e n hb (by simp);obtain⟨o',z',nf⟩:=hf b hb;rw[z]at z';cases z';obtain⟨sl',q⟩:=up b _ z nf;exact⟨sl',q⟩
 . by_cases hb:b∈fs
   . obtain⟨o',z',nf⟩:=hf b hb;obtain⟨sl',q⟩:=up b _ z' nf;exact⟨_,q⟩
   . obtain⟨o1,_,q2,_⟩:=old b o e hb;exact⟨_,q2⟩
 . refine(hok b u e).stay (λc v hc q=>?_) (λ_ q=>q) λ_ _ q=>q;have hc':∃u',H' c=Wn u':=by
    rcases hc with rfl|hc
    . exact⟨u,e⟩
    . exact⟨_,hc⟩
   obtain⟨u',e'⟩:=hc';obtain⟨o,q1,q2,_⟩:=tr c u' e';rw[q]at q1;cases q1;exact q2
 . rcases hb with hb|⟨⟨o',e'⟩,hb⟩
   . cases q:H' b with
     |none=>exact absurd q hb
     |some u=>obtain⟨o1,q1,q2,q3⟩:=tr b u q;rw[e]at q2;cases q2;exact q3
   . obtain⟨o1,q1,q2,q3⟩:=old b o' e' hb;rw[e]at q2;cases q2;exact q3
def ZlX(X:Cx)(E:XK):Prop:=∀(pins:List (Yi×Obj)) (Z:St) (H:Hp) (s:Yb) (h':YE) (e:Yi) (cls:Yj) (vs:List Yj),Inv X pins Z H s->Heap.MadeExcOf s.heap h' e cls vs->E cls Wo H->X.xe (.ref e) {s with heap:=h'}
section
variable {P:Yh}{w:Yg}{K:Yk}{mg:Str->Option Yj}{base:YE}{N:List Str}{qual:Str}{scope:Scope}{f:Yi}{cd:Yj}{A:YF}{outer:List Env}{s0:Yb}{H0:Hp}{E:XK}
def Zrc:ZlX (ZnP (CXF P w) P w K mg base N qual scope f cd A outer s0 H0 E) E:=by
 intro pins Z H s h' e cls vs I hx hE;have hfr:(A.deeper (envOfC qual scope s0.heap.objs.size f cd)).frames=Wn (envOfC qual scope s0.heap.objs.size f cd::outer):=I.ok.frames;have hin:∀env∈(envOfC qual scope s0.heap.objs.size f cd::outer),∀b,env.frame=Wn b->b∈(envOfC qual scope s0.heap.objs.size f cd::outer).filterMap (·.frame):=λenv he b hb=>List.mem_filterMap.mpr ⟨env,he,hb⟩;have hst:s.heap.FunFrames base (envOfC qual scope s0.heap.objs.size f cd::outer):=I.stack;show Yz (model P w) (A.deeper (envOfC qual scope s0.heap.objs.size f cd)) (leaving (envOfC qual scope s0.heap.objs.size f cd) (.ref e)) _ _ {s with heap:=h'};refine wpAny_leaves_madeW (s:={s with heap:=h'}) (base:=PySem.W.hideAll s.heap (frs (envOfC qual scope s0.heap.objs.size f cd::outer))) hfr rfl (λb o q=>PySem.W.of_hideAll _ q) (PySem.W.funFrames_hide hst hin) hx λh'' t x1 x2 x3 x4=>?_;have un:Un (frs outer) [] H0 H s0.heap h':=(I.base:Un (frs outer) [] H0 H s0.heap s.heap).trans (Un.kept hx.keeps);have hok:HOk P w H h':=I.hok.kept hx.keeps;have kb:Kept (frs outer) H s0.heap h' (PySem.W.hideAll s.heap (frs (envOfC qual scope s0.heap.objs.size f cd::outer))):=λb o e1 hb=>by
  rcases hb with hb|⟨⟨o',e'⟩,hb⟩
  . cases q:H b with
    |none=>exact absurd q hb
    |some u=>
     obtain⟨o1,q1⟩:=(I.hok b u q).there;have q2:=hx.keeps b o1 q1;rw[e1]at q2;cases q2;exact PySem.W.hideAll_get _ q1 λhm=>by have z:H b=Wo:=I.stkFree b hm;rw[q]at z;cases z
  . obtain⟨o1,q1⟩:=(I.base:Un (frs outer) [] H0 H s0.heap s.heap).there b o' e' (show b ∉ ([]:List Yi)from List.not_mem_nil);have q2:=hx.keeps b o1 q1;rw[e1]at q2;cases q2;refine PySem.W.hideAll_get _ q1 λhm=>?_;have hm':b∈s0.heap.objs.size::frs outer:=I.stkSub b hm;rcases O2.mp hm' with z|z
    . rw[z]at e';exact absurd (Ym e') (Yu _)
    . exact hb z
 have hfo:∀b∈frs outer,∃o,h'.get? b=Wn o/\∀vs,o.data≠.fields vs:=λb hb=>by obtain⟨_,o,q,nf⟩:=I.funs.mem hb;exact⟨o,hx.keeps _ _ q,nf⟩
 obtain⟨r1,r2,r3⟩:=Ze1 un hok kb x1.1 x4 hfo;refine⟨e,cls,_,H,_,rfl,I.os,I.bare,r1,r2,x1,r3,?_,hE⟩;cases q:H e with
 |none=>rfl
 |some u=>obtain⟨o1,q1⟩:=(I.hok e u q).there;rw[hx.new]at q1;cases q1
def ZtW(h:∀cls H',E1 cls Wo H'->E cls Wo H'):ZbS (CXF P w) (ZnP (CXF P w) P w K mg base N qual scope f cd A outer s0 H0 E) E1:=by
 intro pins Z H s e s' I hx;obtain⟨a,cls,a0,H',B_,rfl,os,bare,un,hok,fl,kb,ha,hE⟩:=hx;have I':=I.call' (ch:=[]) os un hok bare (λb z=>absurd z (by simp));have hfr:(A.deeper (envOfC qual scope s0.heap.objs.size f cd)).frames=Wn (envOfC qual scope s0.heap.objs.size f cd::outer):=I.ok.frames;show Yz (model P w) (A.deeper (envOfC qual scope s0.heap.objs.size f cd)) (leaving (envOfC qual scope s0.heap.objs.size f cd) (.ref a)) _ _ s';refine wpAny_leaves_onW hfr rfl fl λh'' x1 x4=>?_;have kb':Kept (frs outer) H' s0.heap s'.heap B_:=λb o e1 hb=>by
  refine kb b o e1 ?_;rcases hb with hb|⟨⟨o',e'⟩,hb⟩
  . exact .inl hb
  . obtain⟨o1,q1⟩:=(I.base:Un (frs outer) [] H0 H s0.heap s.heap).there b o' e' (show b ∉ ([]:List Yi)from List.not_mem_nil);refine .inr ⟨⟨o1,q1⟩,λhm=>?_⟩;have hm':b∈s0.heap.objs.size::frs outer:=I.stkSub b hm;rcases O2.mp hm' with z|z
    . rw[z]at e';exact absurd (Ym e') (Yu _)
    . exact hb z
 have hfo:∀b∈frs outer,∃o,s'.heap.get? b=Wn o/\∀vs,o.data≠.fields vs:=λb hb=>by obtain⟨_,o,q,nf⟩:=I'.funs.mem hb;exact⟨o,q,nf⟩
 obtain⟨r1,r2,r3⟩:=Ze1 (I'.base:Un (frs outer) [] H0 H' s0.heap s'.heap) hok kb' x1.1 x4 hfo;exact⟨a,cls,a0,H',B_,rfl,I'.os,bare,r1,r2,x1,r3,ha,h _ _ hE⟩
end
def Zkx:ZbS (CXF P w) X E0:=λ_ _ _ _ _ _ _ h=>by obtain⟨_,_,_,_,_,_,_,_,_,_,_,_,_,z⟩:=h;exact z.elim
def ZuG{K:Yk}{h:YE}{C:Yi}{bmB:List Yj}{newId:String}(X:K.In h)(q:PySem.W.excIn K C bmB newId=Wp):
 ∃bm N nm qn bs hdct sn sub ab col dd k0 k1 k2 k3 k5 mN,h.get? C=Wn (excClassObj nm qn C N bs bm hdct sn sub ab col dd k0 k1 k2 k3 k5 newId)/\h.Ns N mN/\mN "__init__" = Wo/\OwnTail h bmB bm:=by
 unfold PySem.W.excIn at q;split at q
 . rename_i dd cd sl ho;split at q
   . rename_i C' bm k0 k1 k2 k3 n k5 hm hs;simp only[Oa,beq_iff_eq,Bool.not_eq_true']at q;obtain⟨⟨⟨⟨⟨rfl,rfl⟩,hdel⟩,ht⟩,hok⟩,hni⟩:=q;obtain⟨nm,bs,mro,ns,qn,hd,sn,sub,ab,col,del⟩:=cd;dsimp only at hm hdel hok hni;subst hm hdel;have hsl:sl=#[k0,k1,k2,k3,Wn (.builtin n),k5]:=by obtain⟨l⟩:=sl;simp only at hs;rw[hs]
     subst hsl;exact⟨bm,ns,nm,qn,bs,hd,sn,sub,ab,col,dd,k0,k1,k2,k3,k5,_,X _ _ ho,.of_isNs (PySem.W.isNs_of_in X hok),PySem.W.nsMap_none_of_in X hok hni,PySem.W.tail_of_in X ht⟩
   . cases q
 . cases q
section
variable {X:Cx}{x:Str}{C:Yi}{bmB:List Yj}{B_ newId initId:String}{np cpos pos:Pos}{e:Expr}{es:List Expr}{t:TA}{E:XK}
noncomputable def Zwr(C:Yi)(E:XK)(t:TA):TS:=λ_ Z H=>t Z H λvs H1=>vs.length<=sizeLine/\E (.ref C) Wo H1
def Zma(hR:ZlX X E)(hc:X.calm=Wp)(FB:ExcBaseFacts B_ newId initId bmB)(hg:Gl X x)(hm:X.mg x=Wn (.ref C))(hq:PySem.W.excIn X.K C bmB newId=Wp)(ha:PA X (e::es) t)
 (hdb:(x==("__debug__" : Str))=Wq:=by decide) (he:Yy (e::es) X.env=(Wq,eval e X.env)::Yy es X.env:=by rfl) (hpl:(YQ cpos (Yy es X.env)).any (·.1)=Wq:=by rfl) :
 PS X (.Raise (Wn (.Call (.Name x np) (e::es) [] cpos)) Wo pos) (Zwr C E t):=by
 intro pins s Z H D I h;obtain⟨tl,N,nm,q,bs,hdct,sn,sub,ab,col,dd,k0,k1,k2,k3,k5,mN,hC,hN,hni,T⟩:=ZuG I.mod.kin hq;refine wpAny_Raise_call_subT (C:=C) (nm:=nm) (q:=q) (N:=N) (bs:=bs) (bm:=tl) (hdct:=hdct) (sn:=sn) (sub:=sub) (ab:=ab) (col:=col) (dd:=dd) (k0:=k0) (k1:=k1) (k2:=k2) (k3:=k3) (k5:=k5)
  FB (mN:=mN) (T.hasType FB.hasBase) (I.ok.hd hc) (by rw[he];show(Wq || (YQ cpos (Yy es X.env)).any (·.1))=Wq;rw[hpl];rfl) hni (ZcB I hg hm ⟨rfl,?_⟩ hdb)
 have h1:=ha cpos pins s Z H _ I h;rw[he]at h1 ⊢;refine Calls.evalArgs_plain (thn h1 λus s2 ⟨vs,H2,I2,r2,hl,hE⟩=>?_);exact⟨rfl,by rw[<- r2.length];exact hl,I2.bk _ _ hC,hN.keeps I2.bk,T.keeps I2.bk,λh' a hmade=>hR pins Z H2 s2 h' a _ us I2 hmade hE⟩
end
noncomputable def cxH(X:Cx)(a:Yi)(oe:Obj):Cx:={X with A:=X.A.mark (Wn (.ref a)),calm:=false,pn:=X.pn++[(a,oe)],xe:=λ_ _=>False}
noncomputable abbrev cxM(X:Cx)(a:Yi):Cx:={X with A:=X.A.mark (Wn (.ref a)),calm:=false,xe:=λ_ _=>False}
section
variable {X:Cx}{pins:List (Yi×Obj)}{Z:St}{H:Hp}{s:Yb}{a:Yi}{oe:Obj}
def Inv.toM(I:Inv X pins Z H s)(a:Yi):Inv (cxM X a) pins Z H s:=⟨⟨I.ok.mod,I.ok.kind,I.ok.glob,I.ok.blt,I.ok.above,I.ok.inj,I.ok.has,I.ok.cab,λz=>absurd z Ow,I.ok.frames,I.ok.stk,I.ok.exf,I.ok.bs,I.ok.bsz,I.ok.noex,I.ok.exfs,I.ok.funs,I.ok.frf⟩,I.os,I.bare,I.base,I.loc,I.cell,I.free,I.freeC,I.pin,I.hok,I.len⟩
def Inv.toH(I:Inv X pins Z H s)(h1:s.heap.get? a=Wn oe)(h2:H a=Wo)(h3:a≠X.env.locals)(h4:a ∉ X.fs)(h5:∀v,oe.data≠.cell v):Inv (cxH X a oe) pins Z H s:=
 ⟨⟨I.ok.mod,I.ok.kind,I.ok.glob,I.ok.blt,I.ok.above,I.ok.inj,I.ok.has,I.ok.cab,λz=>absurd z Ow,I.ok.frames,I.ok.stk,I.ok.exf,I.ok.bs,I.ok.bsz,I.ok.noex,I.ok.exfs,I.ok.funs,I.ok.frf⟩,I.os,I.bare,I.base,I.loc,I.cell,I.free,I.freeC,
  λp hp=>by
   rcases OD.mp (show p∈(X.pn++[(a,oe)])++pins from hp)with z|z
   . rcases OD.mp z with z|z
     . exact I.pin p (Yq _ z)
     . have e:p=(a,oe):=by simpa using z
       subst e;exact⟨h1,h2,h3,h4,h5⟩
   . exact I.pin p (Ov _ z),I.hok,I.len⟩
theorem Inv.ofH(I:Inv (cxH X a oe) pins Z H s)(hd:X.calm=Wp->X.A.handled=Wo):Inv X pins Z H s :=
 ⟨⟨I.ok.mod,I.ok.kind,I.ok.glob,I.ok.blt,I.ok.above,I.ok.inj,I.ok.has,I.ok.cab,hd,I.ok.frames,I.ok.stk,I.ok.exf,I.ok.bs,I.ok.bsz,I.ok.noex,I.ok.exfs,I.ok.funs,I.ok.frf⟩,I.os,I.bare,I.base,I.loc,I.cell,I.free,I.freeC,
   fun p hp=>I.pin p (by
     rcases OD.mp hp with z|z
     . exact Yq _ (Yq _ z)
     . exact Ov _ z),I.hok,I.len⟩
end
def ZmD{K:Yk}(X:K.In s.heap)(h1:PySem.W.typeIn K (.ref C2)=Wn (.type "type"))(h0:(PySem.W.clsIn K C2).isSome=Wp)
 (h2:YT K (.ref C2) (.type "BaseException")=Wn Wp) (h3:YT K (.ref C) (.ref C2)=Wn Wp) (he:s.heap.get? a=Wn oe) (hc:oe.cls=.ref C) (q:Q Wp s):Yz M A (excMatches (.ref a) (.ref C2)) Q E s:=by
 have i1:PySem.W.instIn K (.ref C2) (.type "tuple")=Wn Wq:=by unfold PySem.W.instIn;rw[h1];show YT K (.type "type") (.type "tuple")=Wn Wq;show YT [] (.type "type") (.type "tuple")=Wn Wq;decide +kernel
 have L1:=PySem.W.looks_instIn (M:=M) X i1;have L2:=PySem.W.looks_subIn (M:=M) X h2;have L3:=PySem.W.looks_subIn (M:=M) X h3;have L0:PySem.W.Looks M s.heap (isType (.ref C2)) Wp:=by
  unfold PySem.W.clsIn at h0;split at h0
  . rename_i c' d' cd' sl' ho;intro A' Q' E' s' k q;unfold isType loadHead;exact Ya (wpAny_loadPart (k _ _ (X _ _ ho)) (Yc q))
  . cases h0
 have LT:PySem.W.Looks M s.heap (typeOf (.ref a)) (.ref C):=by rw[<- hc];exact(PySem.W.Looks.ld he).andThen .now
 unfold excMatches isExcClass
 repeat (any_goals (first|assumption|lk|wp_step))
structure ExcN(K:Yk)(C2:Yi):Prop where
 ty:PySem.W.typeIn K (.ref C2)=Wn (.type "type")
 cls:(PySem.W.clsIn K C2).isSome=Wp
 exc:YT K (.ref C2) (.type "BaseException")=Wn Wp
def ZyR(K:Yk)(sp:Sp)(C2:Yi)(ie:Nat)(ts:Yi->Obj->TS)(t:TA):TS:=λD Z H=>t Z H λvs H1=>sp vs H1 (λ_ H2=>D.nx Z H2) (λcls _ H2=>∃C,cls=.ref C/\YT K (.ref C) (.ref C2)=Wn Wp /\
 ∀a oe,oe.cls=.ref C->(∃ws,oe.data=.fields ws)->H2 a=Wo->ts a oe {nx:=λσ' H'=>D.nx (σ'.set ie Wo) H',rt:=D.rt,bk:=λσ' H'=>D.bk (σ'.set ie Wo) H',ct:=λσ' H'=>D.ct (σ'.set ie Wo) H'} (Z.set ie (Wn (.ref a))) H2)
section
variable {X:Cx}{k:Nat}{x cx n:Str}{ps:List Str}{sp:Sp}{e:Expr}{es:List Expr}{t:TA}{p np cpos epos hpos pos:Pos}{f C2:Yi}{fd:FuncData}{ie:Nat}{b0:Stmt}{suite:List Stmt}{ts:Yi->Obj->TS}
def ZdT(I:Inv X pins Z H s)(hN:X.N.Nodup)(hi:X.N[ie]? = Wn n)(hl:X.env.scope.names.lookup n=Wn .local)
 (h:∀s',Inv X pins (Z.set ie Wo) H s'->Q () s'):Yz M A (do bindName X.env n .none;unbindBehindTheSuite X.env n pos) Q E s:=by
 obtain⟨m,hn,hlo⟩:=id I.loc;have hcls:(X.env.scope.kind==.class || (X.env.scope.kind==.module&&X.env.locals != X.env.globals))=Wq:=by rw[I.ok.kind];rfl
 have hiσ:ie<Z.length:=by rw[I.len];exact(Ob.mp hi).1
 refine wpAny_nameGoes_keeps hl hn hcls λh' v hn' hs=>?_;obtain⟨oL,_,_,hoL,_⟩:=id hn;have neL:∀b o,X.s₀.heap.get? b=Wn o->b≠X.env.locals:=λb o e=>Ou (Ot (Ym e) I.ok.above);have tracked:HOk X.prog X.w H h':=λb ob e=>by
  have hfree:=I.free;refine(I.hok b ob e).stay (λc w' hc q=>(hs.2 c ?_).trans q) (λ_ q=>q) λ_ _ q=>q;rintro rfl;rcases hc with rfl|hc
  . rw[hfree]at e;cases e
  . rw[hfree]at hc;cases hc
 refine h {s with heap:=h',toks:=s.toks+1} ⟨I.ok,I.os,I.bare,⟨λb o e n hb hx=>(hs.2 b (neL b o e)).trans (I.base.keep b o e n hb hx),λb o e n hb hx=>?_,I.base.free,λb o e hx=>?_,I.base.tups,I.base.frzs,I.base.tbls⟩,⟨_,hn',λj y v' e1 e2 e3=>?_⟩,λy c e=>?_,I.free,I.freeC,λp hp=>?_,tracked,by simpa using I.len⟩
 . obtain⟨sl,e1⟩:=I.base.slot b o e n hb hx;exact⟨sl,(hs.2 b (neL b o e)).trans e1⟩
 . obtain⟨o',e1⟩:=I.base.there b o e hx;exact⟨o',(hs.2 b (neL b o e)).trans e1⟩
 . by_cases hj:j=ie
   . subst hj;rw[Ol hiσ]at e2;cases e2
   . rw[Oc (YJ hj)]at e2;obtain⟨u',r',q⟩:=hlo j y v' e1 e2 e3;refine⟨u',r',?_⟩;rcases q with ⟨k,e⟩|⟨k,c,e,z⟩
     . refine .inl ⟨k,?_⟩;have:y≠n:=λe=>hj (ZiM hN e1 (e ▸ hi));simp[this,e]
     . exact .inr ⟨k,c,e,z.sameBut hs (I.cne y c e)⟩
 . obtain⟨w',z⟩:=I.cell y c e;exact⟨w',z.sameBut hs (I.cne y c e)⟩
 . obtain⟨e,n,ne,nf,d⟩:=I.pin p hp;exact⟨(hs.2 p.1 ne).trans e,n,ne,nf,d⟩
def Znn(F:FnOk X.prog X.w X.K X.mg X.base (CXF X.prog X.w) k f fd ps sp)(hr:Room k X.A)(hg:Gl X x)(hm:X.mg x=Wn (.ref f))(hk:YZ X.K (.ref f)=Wp)(hb:Binds X.K fd ps [])(ha:PA X.nox (e::es) t)
 (hgc:Gl X cx) (hmc:X.mg cx=Wn (.ref C2)) (hC:ExcN X.K C2) (hN:X.N.Nodup) (hi:X.N[ie]? = Wn n) (hl:X.env.scope.names.lookup n=Wn .local) (hc:X.calm=Wp) (hstk:X.stack=X.env::X.outer) (hfrm:X.env.frame=Wn X.env.locals)
 (hsuite:∀a oe,PSs (cxH X a oe) (b0::suite) (ts a oe)) (hdb:(x==("__debug__" : Str))=Wq:=by decide) (hdb2:(cx==("__debug__" : Str))=Wq:=by decide) (he:Yy (e::es) X.env=(Wq,eval e X.env)::Yy es X.env:=by rfl) (hpl:(YQ cpos (Yy es X.env)).any (·.1)=Wq:=by rfl)
 (hsw:swapsWith (.Call (.Name x p) (e::es) [] cpos) Wo epos.line X.env=pure Wq:=by rfl) :
 PS X (.Try [.Expr (.Call (.Name x p) (e::es) [] cpos) epos] [.ExceptHandler (Wn (.Name cx np)) (Wn n) (b0::suite) hpos] [] [] pos) (ZyR X.K sp C2 ie ts t):=by
 intro pins s Z H D I h;refine wpAny_Try_except (wpAny_execs_cons (wpAny_Expr_any (YV (ZcB I hg hm ?_ hdb)) I.quiet hsw));refine PySem.W.callWith_K (h₀:=X.base) I.ok.mod.kin hk (Yf (ha cpos pins s Z H _ (I.wish _) h) (λus s1 ⟨vs,H1,I1',r,q⟩=>?_) λ_ _ z=>z.elim) he hpl;have I1:Inv X pins Z H1 s1:=I1'.unwish;refine⟨I1.kIn,?_⟩;have hlen:(us++[]).length=ps.length:=by rw[Yr,<- r.length];exact F.len _ _ _ _ q
 have hlen':us.length=ps.length:=by rw[<- r.length];exact F.len _ _ _ _ q
 have hbt:=hb s1 us I1.kIn hlen;rw[Yr]at hbt;refine wpAny_call (codeAny_mono (F.run X.A X.stack s1 H1 ⟨us,[]⟩ us vs _ _ hr I1.env0 hbt r q) λr s' hq=>?_);cases r with
 |ok fl=>
  cases fl with
  |ret u=>obtain⟨v,H',I',rv,q'⟩:=I1.after hq;exact wpAny_execs_nil (wpAny_execs_nil ⟨Z,H',I',q'⟩)
  |next=>exact False.elim hq
  |brk=>exact False.elim hq
  |cont=>exact False.elim hq
 |error ev=>
  obtain⟨a,cls,a0,H',B_,rfl,os,bare,un,hok,fl,kb,hna,C,rfl,hsub,hts⟩:=hq;have hfr:X.A.frames=Wn (X.env::X.outer):=by rw[<- hstk];exact I1.ok.frames
  have fl':Heap.FlyingW B_ (X.env::X.outer) a (.ref C) a0 s'.heap:=by rw[<- hstk];exact fl
  have I':=I1.call' (ch:=[]) os un hok bare (λb z=>absurd z (by simp));have hfo:∀b∈frs X.stack,∃o,s'.heap.get? b=Wn o/\∀vs,o.data≠.fields vs:=λb hb=>by obtain⟨_,o,q,nf⟩:=I'.stack.mem hb;exact⟨o,q,nf⟩
  have atH:∀h2:YE,B_.StaysIn h2->s'.heap.UpToSlots h2->∀tk,Inv X pins Z H' {s' with heap:=h2,toks:=tk}:=λh2 st up tk=>by obtain⟨r1,r2,_⟩:=Ze1 un hok kb st up hfo;exact I1.call' (s':={s' with heap:=h2,toks:=tk}) (ch:=[]) os r1 r2 bare (λb z=>absurd z (by simp))
  refine wpAny_looks_onW hfr hfrm fl' λh4 held4 up4=>?_;refine wpAny_landsW held4 λh5 fl5 up5=>?_;have I5:Inv X pins Z H' {s' with heap:=h5}:=atH h5 fl5.1 (up4.trans up5) s'.toks;refine wpAny_handleBy_cons (codeAny_handlers_test (ZcB (X:=cxM X a) (I5.toM a) hgc hmc ?_ hdb2)) (by intro q;cases q);obtain⟨oe,hoe,hoc⟩:=fl5.there;refine ZmD (s:={s' with heap:=h5}) I5.kIn hC.ty hC.cls hC.exc hsub hoe hoc (codeAny_handlers_suite_as ?_);refine lands_againW fl5 λh6 fl6 up6=>?_;have I6:Inv X pins Z H' {s' with heap:=h6}:=atH h6 fl6.1 ((up4.trans up5).trans up6) s'.toks;obtain⟨oe6,ws,hoe6,hoc6,hod6,_⟩:=fl6.first;have hnl:a≠X.env.locals:=λz=>by obtain⟨m,⟨o,es',ep,ho,hd,_⟩,_⟩:=I6.loc;rw[<- z,hoe6]at ho;cases ho;rw[hod6]at hd;cases hd
  have hnf:a ∉ X.fs:=λz=>by obtain⟨_,o,q,nf⟩:=I6.funs.mem z;rw[hoe6]at q;cases q;exact nf _ hod6
  have IH:Inv (cxH X a oe6) pins Z H' {s' with heap:=h6}:=I6.toH hoe6 hna hnl hnf (λv z=>by rw[hod6]at z;cases z);refine Zfn (X:=cxH X a oe6) IH hN hi (.inl hl) (v:=.ref a) rfl (λs7 I7=>?_) (.inr hl);refine Yf (hsuite a oe6 pins s7 _ H' _ I7 (hts a oe6 hoc6 ⟨ws,hod6⟩ hna)) (λfl s8 q8=>?_) λ_ _ z=>z.elim;cases fl with
  |next=>obtain⟨σ',H8,I8,q8⟩:=q8;exact ZdT (I8.ofH I.ok.hd) hN hi hl λs9 I9=>⟨_,H8,I9,q8⟩
  |brk=>obtain⟨σ',H8,I8,q8⟩:=q8;exact ZdT (I8.ofH I.ok.hd) hN hi hl λs9 I9=>⟨_,H8,I9,q8⟩
  |cont=>obtain⟨σ',H8,I8,q8⟩:=q8;exact ZdT (I8.ofH I.ok.hd) hN hi hl λs9 I9=>⟨_,H8,I9,q8⟩
  |ret v=>obtain⟨y,σ',H8,I8,r8,q8⟩:=q8;exact ZdT (I8.ofH I.ok.hd) hN hi hl λs9 I9=>⟨y,_,H8,I9,r8,q8⟩
end
def Def(P:Yh)(w:Yg)(K:Yk)(mg:Str->Option Yj)(base:YE)(k:Nat)(x:Str)(ps:List Str)(sp:Sp):Prop:=∃f fd,mg x=Wn (.ref f)/\YZ K (.ref f)=Wp/\Binds K fd ps []/\FnOk P w K mg base (CXF P w) k f fd ps sp
section
variable {X:Cx}{k:Nat}{x:Str}{ps:List Str}{sp:Sp}{E:XK}{e:Expr}{es:List Expr}{t:TA}{p pos:Pos}
noncomputable def ZAZ(sp:Sp)(E:XK)(t:TA):TE:=λZ H Q=>t Z H λvs H1=>sp vs H1 Q E
def Zw3(D:Def X.prog X.w X.K X.mg X.base k x ps sp)(hr:Room k X.A)(hg:Gl X x)(hx:ZbS (CXF X.prog X.w) X E)(ha:PA X (e::es) t)
 (hdb:(x==("__debug__" : Str))=Wq:=by decide) (he:Yy (e::es) X.env=(Wq,eval e X.env)::Yy es X.env:=by rfl) (hpl:(YQ pos (Yy es X.env)).any (·.1)=Wq:=by rfl) :
 PE X (.Call (.Name x p) (e::es) [] pos) (ZAZ sp E t):=by
 obtain⟨f,fd,h1,h2,h3,h4⟩:=D;intro pins s Z H Q I h;refine ZtV h4 hr hg h1 h2 h3 .nil hx ha hdb he hpl pins s Z H Q I ?_;have z:t Z H λvs H1=>sp vs H1 Q E:=h;show t Z H λvs H1=>sp (vs++[]) H1 Q E;simpa only[Yr]using z
end
section
variable {X:Cx}{pins:List (Yi×Obj)}{Z:St}{H:Hp}{s:Yb}{h':YE}
def Zo4{ch:List Yi}(hf:∀b∈ch,Zc4 X pins H b):∀b∈ch,(b∈X.ex\/X.s₀.heap.objs.size<=b)/\b≠X.env.locals/\(∀x c,X.env.cells.lookup x=Wn c->c≠b)/\∀p∈X.pn++pins,p.1≠b:=λb hb=>by obtain⟨_,f1,_,f3,f4,f5⟩:=hf b hb;exact⟨f3,f1,f4,f5⟩
def Inv.turnL{t':Nat}{ch:List Yi}(I:Inv X pins Z H s)(hf:∀b∈ch,Zc4 X pins H b)(k:∀b o,b ∉ ch->s.heap.get? b=Wn o->h'.get? b=Wn o):Inv X pins Z H {s with heap:=h',toks:=t'}:=by
 have nit:∀b u,H b=Wn u->b ∉ ch:=λb u e z=>by rw[(hf b z).1]at e;cases e
 refine I.step (g':=s.gens) (d':=s.drawn) (ch:=ch) (Zo4 hf) (λb o _ _ hc e _=>k b o hc e) (λb o _ _ hc e _=>⟨o.slots,k b o hc e⟩) (λ_ _ _ _ n=>n)
  (λb o hc e=>⟨o,k b o hc e⟩) (λ_ _ e=>e) (λ_ _ _ e=>e) (λb ps e=>⟨#[],by rw[e];simp⟩) (λm hm=>?_) (λb u e=>?_) I.bare
 . obtain⟨o,es,ep,ho,r⟩:=hm;exact⟨o,es,ep,k _ o (λz=>(hf _ z).2.1 rfl) ho,r⟩
 . refine(I.hok b u e).stay (λc v hc q=>k c v ?_ q) (λ_ q=>q) λ_ _ q=>q;rcases hc with z|z
   . rw[z];exact nit b u e
   . exact nit c _ z
def Inv.turnT{t':Nat}{ch:List Yi}{us:List Yj}(I:Inv X pins Z H s)(hf:∀b∈ch,Zc4 X pins H b)(k:∀b o,b ∉ ch->s.heap.get? b=Wn o->h'.get? b=Wn o)
 (hT:s.heap.objs.size<=T) (tup:Zbi h' T us.toArray) (rv:Zu vs us) (hz:vs.length<=sizeLine):Inv X pins Z (upd H T (.tup vs)) {s with heap:=h',toks:=t'}:=by
 have nit:∀b u,H b=Wn u->b ∉ ch:=λb u e z=>by rw[(hf b z).1]at e;cases e
 have neT:∀b o,s.heap.get? b=Wn o->b≠T:=λb o e=>Ou (Ot (Ym e) hT);have hTn:H T=Wo:=I.hok.fresh hT;refine I.step (g':=s.gens) (d':=s.drawn) (ch:=ch) (Zo4 hf) (λb o _ _ hc e _=>k b o hc e) (λb o _ _ hc e _=>⟨o.slots,k b o hc e⟩) (λb o _ e n=>by rw[Zy (neT b o e)];exact n)
  (λb o hc e=>⟨o,k b o hc e⟩) (λb xs e=>by rw[Zy (ZW e hTn)];exact e) (λb o u e=>by rw[Zy (ZW e hTn)];exact e) (λb ps e=>⟨#[],by rw[Zy (ZW e hTn),e];simp⟩) (λm hm=>?_) (λb u e=>?_) I.bare
 . obtain⟨o,es,ep,ho,r⟩:=hm;exact⟨o,es,ep,k _ o (λz=>(hf _ z).2.1 rfl) ho,r⟩
 . by_cases hb:b=T
   . subst hb;rw[Zo]at e;cases e;exact⟨hz,us,rv,tup⟩
   . rw[Zy hb]at e;refine(I.hok b u e).stay (λc v hc q=>k c v ?_ q) (λc q=>by rw[Zy (ZW q hTn)];exact q) λc xs q=>by rw[Zy (ZW q hTn)];exact q
     rcases hc with z|z
     . rw[z];exact nit b u e
     . exact nit c _ z
end
def Ite(K:Yk)(a:Yi):It:=⟨λi H=>∃xs x,SqL K H a xs/\xs[i]? = Wn x,λi H v H'=>∃p,v=.ref p/\H p=Wo/\∃x,(∀xs,SqL K H a xs->xs[i]? = Wn x)/\H'=upd H p (.tup [.int i,x]),λi H=>∃xs,SqL K H a xs/\xs.length=i⟩
def ZpJ{P:Yh}{w:Yg}{K:Yk}{es:List Expr}{kk:Nat}{tp:Pos}(a it e:Yi)(hei:e≠it)(hae:a≠e)(hai:a≠it):
 Turn P w K (.Tuple es kk tp) (Ite K a) [e,it] e (λi h=>(∃old,IsEnum h e it i old)/\h.IsListIter it a i) where
 mem:=by simp
 obj:=λi h st b hb=>by
  obtain⟨⟨old,he⟩,o,e1,c,d⟩:=st;rcases O2.mp hb with rfl|hb
  . exact⟨_,he,λv z=>by cases z⟩
  . have e2:b=it:=by simpa using hb
    subst e2;exact⟨o,e1,λv z=>by rw[d]at z;cases z⟩
 keep:=λi h h' st k=>by obtain⟨⟨old,he⟩,st⟩:=st;exact⟨⟨old,k e (by simp) _ he⟩,st.at λo z=>k it (by simp) o z⟩
 item:=by
  intro X hP hw hK hc i pins s Z H E I hf st hg;subst hP hw hK;obtain⟨xs,x,hq,hx⟩:=hg;obtain⟨its,rv,p,hz⟩:=I.list hq;have hl:=rv.length;have hi:i<xs.length:=(Ob.mp hx).1;have W:=WalksT.enumerate (prog:=X.prog) (w:=X.w) (I.ok.hd hc) e it a hei hae hai its.toArray;have itm:∀(Q':Option Yj->Yb->Prop) (E':Yj->Yb->Prop),(∀T vals h' tk,(∃t x,its.toArray[i]? = Wn x/\vals=#[.int i t,x])->s.heap.objs.size<=T->Zbi h' T vals ->
   ((∃x,IsEnumOut h' e it ((i:Int)+1) x T)/\h'.IsListIter it a (i+1)/\h'.IsList a its.toArray/\T≠e/\T≠it)->(∀b o,b ∉ [e,it]->s.heap.get? b=Wn o->h'.get? b=Wn o)->Q' (Wn (.ref T)) {s with heap:=h',toks:=tk}) ->
   Yz (model X.prog X.w) X.A (pyNext (.ref e)) Q' E' s:=by
   intro Q' E' hQ;obtain⟨⟨old,he⟩,hit⟩:=st;have hx2:its.toArray[i]? = Wn (its.toArray[i]'(by simp;lia)):=Array.getElem?_eq_getElem (by simp;lia);refine wpAny_pyNext_enum_item he hit p.isList hx2 hei λh' ho hit' hT hsz hk=>?_;have e1:e<s.heap.objs.size:=Ym he;have e2:it<s.heap.objs.size:=by obtain⟨_,z,_⟩:=hit;exact Ym z
   exact hQ s.heap.objs.size _ h' (s.toks+1) ⟨_,_,hx2,rfl⟩ (Oq _) ⟨_,hT,rfl,rfl,_,rfl⟩ ⟨⟨_,ho⟩,hit',p.isList.at λo z=>hk a o hae hai z,Nat.ne_of_gt e1,Nat.ne_of_gt e2⟩
    λb o hb z=>hk b o (λe'=>hb (by simp[e'])) (λe'=>hb (by simp[e'])) z
  refine itm _ _ λT vals h1 tk hP hT tup mid kk=>?_;refine⟨_,rfl,W.go _ _ _ i T {s with heap:=h1,toks:=tk} _ _ mid λh2 st2 kk2=>?_⟩;obtain⟨t,y,hy,rfl⟩:=hP;have hy':its[i]? = Wn y:=by simpa using hy
  obtain⟨u,hu,ru⟩:=rv.get hx;rw[hy']at hu;cases hu;have hTw:T ∉ [e,it]:=W.apart i T h1 mid;have tup2:Zbi h2 T #[.int i t,y]:=by obtain⟨o,q,r⟩:=tup;exact⟨o,kk2 T o hTw q,r⟩
  have I2:Inv X pins Z (upd H T (.tup [.int i,x])) {s with heap:=h2,toks:=tk}:=I.turnT hf (λb o hb q=>kk2 b o hb (kk b o hb q)) hT (us:=[.int i t,y]) tup2 (.cons ⟨t,rfl⟩ (.cons ru .nil)) (by show 2<=sizeLine;decide);refine⟨.ref T,_,I2,rfl,⟨T,rfl,I.hok.fresh hT,x,λys hy=>by rw[I.list_inj hy hq];exact hx,rfl⟩,⟨st2.1,st2.2.1⟩,λb hb=>?_⟩;have neb:b≠T:=λz=>hTw (by rw[<- z];exact hb);rw[Zy neb];exact(hf b hb).1
 done:=by
  intro X hP hw hK hc i pins s Z H E I hf st hg;subst hP hw hK;obtain⟨xs,hq,hx⟩:=hg;obtain⟨its,rv,p,hz⟩:=I.list hq;have hl:=rv.length;have W:=WalksT.enumerate (prog:=X.prog) (w:=X.w) (I.ok.hd hc) e it a hei hae hai its.toArray;have e1:its.toArray.size=i:=by simp;lia
  refine W.done s _ _ ?_ λh1 tk kk=>⟨rfl,I.turnL hf kk⟩
  rw[e1];exact⟨st.1,st.2,p.isList⟩
 self:=λA i s Q E st h=>by obtain⟨⟨old,he⟩,_⟩:=st;exact wpAny_pyIter_enum he h
def Zz3(K:Yk)(ta:TA):TI:=λZ H R=>ta Z H λvs H1=>∃a,vs=[.ref a]/\(∃xs,SqL K H1 a xs)/\R (Ite K a) H1
def ZtP{X:Cx}{es:List Expr}{kk:Nat}{tp:Pos}{l:Expr}{ta:TA}{p pos:Pos}(hg:Gl X "enumerate")(hm:X.mg "enumerate" = Wo)(ha:PA X [l] ta)(hs:Yy [l] X.env=[(Wq,eval l X.env)]:=by rfl):
 PI X (.Tuple es kk tp) (.Call (.Name "enumerate" p) [l] [] pos) (Zz3 X.K ta):=by
 intro pins s Z H R I h;refine Call_ (Zdc I hg hm boot_enumerate (PyProof.Rows.callWith_type1 (thn (ha pos pins s Z H _ I h) λus s1 ⟨vs,H1,I1,r1,q1⟩=>?_) hs rfl));obtain⟨a,rfl,⟨xs,hq⟩,q⟩:=q1;obtain⟨u,rfl,ru⟩:=vals1 r1;obtain rfl:u=YB a:=ru;obtain⟨its,rv,pl,hz⟩:=I1.list hq;have hlt:a<s1.heap.objs.size:=by obtain⟨_,_,e,_⟩:=pl;exact Ym e
 refine call_enumerate_list pl.isList λh' he hi hsz kk=>?_;refine wpAny_pyIter_enum he ?_;refine⟨s1.heap.objs.size+1,[s1.heap.objs.size+1,s1.heap.objs.size],_,_,H1,rfl,I1.kept (t':=s1.toks) kk,ZpJ a s1.heap.objs.size (s1.heap.objs.size+1) (Nat.succ_ne_self _) (Ou (Nat.lt_succ_of_lt hlt)) (Ou hlt),⟨⟨_,he⟩,hi⟩,λb hb=>?_,q⟩;rcases O2.mp hb with rfl|hb
 . exact I1.fpOk (Nat.le_succ _) (I1.hok.fresh (Nat.le_succ _))
 . have e:b=s1.heap.objs.size:=by simpa using hb
   subst e;exact I1.fpOk (Oq _) (I1.hok.fresh (Oq _))
end L2
namespace L2
open PySem PySem.Spec PyProof.Rows PySem.Builtin PySem.Builtin.ObjectAttr PySem.Builtin.Getset_descriptor
structure ExcA(K:Yk)(D:Yi):Prop where
 ga:YH K (.ref D) "__getattribute__" = Wn (Wn (.builtin "BaseException.__getattribute__"))
 ga2:YH K (.ref D) "__getattr__" = Wn Wo
 cl:YH K (.ref D) "__class__" = Wn (Wn (.builtin "object.__class__"))
 get:PySem.W.specialIn K (.builtin "object.__class__") "__get__" = Wn (Wn (.builtin "getset_descriptor.__get__"))
 takes:PySem.W.takesIn K (.builtin "object.__class__")=Wn Wp
 obj:PySem.W.mroIn K D (.type "object")=Wn Wp
 base:YT K (.ref D) (.type "BaseException")=Wn Wp
 isc:(PySem.W.clsIn K D).isSome=Wp
def ZhK{K:Yk}(X:K.In h)(A:ExcA K D):PySem.W.Looks M h (find x (.ref D) "__class__") (.bind (.builtin "getset_descriptor.__get__") (.builtin "object.__class__")):=by have L1:=PySem.W.looks_findIn (M:=M) X A.cl;have L2:=PySem.W.looks_specialIn (M:=M) X A.get;have L3:=PySem.W.looks_takesIn (M:=M) X A.takes;refine L1.andThen (PySem.W.Looks.andThen (show PySem.W.Looks M h (getOf (Wn (.builtin "object.__class__"))) (Wn (.builtin "getset_descriptor.__get__"))from L2) ?_);exact(show PySem.W.Looks M h (dataDescriptor? (Wn (.builtin "object.__class__")) (Wn (.builtin "getset_descriptor.__get__"))) (Wn (.builtin "getset_descriptor.__get__",.builtin "object.__class__"))from L3.andThen .now).andThen (PySem.W.Looks.tag .now)
section
variable {prog:Yh}{w:Yg}{A:YF}{E:Yj->Yb->Prop}{s:Yb}{K:Yk}{x D:Yi}{ox:Obj}
def ZjZ(X:K.In s.heap)(hx:s.heap.get? x=Wn ox)(hc:ox.cls=.ref D)(Z_:ExcA K D)
 (h:R (.ok (.ret (.ref D))) s):codeAny (model prog w) A (.call (.builtin "getset_descriptor.__get__") ⟨[.builtin "object.__class__",.ref x,tp],[]⟩) R s:=by
 obtain⟨hh,g,dr,t,os⟩:=s;have L0:PySem.W.Looks (model prog w) hh (typeOf (.ref x)) (.ref D):=hc ▸ (PySem.W.Looks.ld hx).andThen .now;have L1:=PySem.W.looks_mroIn (M:=model prog w) X Z_.obj;refine codeAny_call_builtin PySem.W.KF.slot_gs.plain PySem.W.KF.entry_gs (PySem.W.KF.slot_gs.check _ _ _ _ _ _ _ _ PySem.W.KF.type_class (PySem.W.KF.args_gs _ _ _) ?_);unfold Builtin.«getset_descriptor.__get__» descrGet;rw[PySem.W.dga_obj];refine Ya (Yc ?_);unfold descrGetter descrCheckInstance descrNameAndClass isInstance;simp only[PySem.W.KF.owner_class]
 repeat lk
 refine⟨Code.quiet_builtin _ (by decide +kernel),codeAny_builtin PySem.W.KF.entry_class ?_⟩;unfold Builtin.«object.__class__» shownTypeOf
 repeat lk
 all_goals (first|exact h|fail)
def Zlu{tk:Tok}(X:K.In s.heap)(hx:s.heap.get? x=Wn ox)(hc:ox.cls=.ref D)(Z_:ExcA K D)(h:Q (.done (.ret (.ref D))) s):
 Yz (model prog w) A (Builtin.«object.__getattribute__» ⟨[.ref x,.str "__class__" tk],[]⟩) Q E s:=by
 obtain⟨hh,g,dr,t,os⟩:=s;have L0:PySem.W.Looks (model prog w) hh (typeOf (.ref x)) (.ref D):=hc ▸ (PySem.W.Looks.ld hx).andThen .now;have L1:=ZhK (M:=model prog w) (x:=.ref x) X Z_;unfold Builtin.«object.__getattribute__»;refine Ya (Yc (Ya (Yc (Ya (L0.at (Ya (L1.at ?_)))))));show Yz _ _ (holding [Value.builtin "object.__class__"] (call (.builtin "getset_descriptor.__get__") [.builtin "object.__class__",.ref x,.ref D]) >>= ret) _ _ _;exact Ya (Wa (wpAny_call (ZjZ X hx hc Z_ (Yc h))))
def Zqk(X:K.In s.heap)(hx:s.heap.get? x=Wn ox)(hc:ox.cls=.ref D)(Z_:ExcA K D)(h:Q (Wn (.ref D)) {s with toks:=s.toks+1}):
 Yz (model prog w) A (getAttr? (.ref x) "__class__") Q E s:=by
 obtain⟨hh,g,dr,t,os⟩:=s;have L0:PySem.W.Looks (model prog w) hh (typeOf (.ref x)) (.ref D):=hc ▸ (PySem.W.Looks.ld hx).andThen .now;have L1:=PySem.W.looks_findIn (M:=model prog w) X Z_.ga;have L2:=PySem.W.looks_findIn (M:=model prog w) X Z_.ga2;have L3:=PySem.W.looks_subIn (M:=model prog w) X Z_.base;have L4:PySem.W.Looks (model prog w) hh (isInstance (.ref x) (.type "BaseException")) Wp:=L0.andThen L3;unfold getAttr? getAttrBy? getAttrBy;refine Ya (wpAny_mkText (Ya (wpAny_attempt (Wa (Ya (L0.at (Ya (L1.at ?_))))))));show Yz _ _ (getAttrByItsOwn _ _ _ _ _ _) _ _ _;unfold getAttrByItsOwn hookBefore;refine Ya (L2.at (Ya (wpAny_attempt (Wa ?_))));show Yz _ _ (boundAndCalled (.builtin "BaseException.__getattribute__") (.ref x) _) _ _ _;unfold boundAndCalled;refine Ya (Wg (F.attr_ValueError.ga.bind (.ref x)) (wpAny_call (codeAny_call_builtin F.attr_ValueError.ga.plain F.entry_bexc_ga ?_)));have hk:builtinKind "BaseException.__getattribute__" = Wn .slot:=by decide +kernel
 have hsplit:splitId "BaseException.__getattribute__" = Wn ("BaseException", "__getattribute__"):=by decide +kernel
 have ha:=F.args_bexc_ga (.ref x) (.str (O "__class__") t);simp only[checkBuiltinCall,hk,hsplit,List.cons_append,OB];refine Ya ?_;refine L4.at ?_;simp only[Bool.not_true,OG,if_false];refine Wg ha ?_;refine Zlu (s:=⟨hh,g,dr,t+1,os⟩) X hx hc Z_ ?_;show Yz _ _ (handedOut (.ref D)) _ _ _;refine Yc ?_;exact Yc h
def Zsc(Z_:ExcA K D):PySem.W.KitX K (.ref x) (.ref D) (λh=>∃ob,h.get? x=Wn ob/\ob.cls=.ref D) where
 ty:=λ_ _ _ ⟨ob,h1,h2⟩=>h2 ▸ (PySem.W.Looks.ld h1).andThen .now
 it:=λ_ _ X _=>by
  have h0:=Z_.isc;unfold PySem.W.clsIn at h0;split at h0
  . rename_i c' d' cd' sl' ho;intro A' Q' E' s' k q;unfold isType loadHead;exact Ya (wpAny_loadPart (k _ _ (X _ _ ho)) (Yc q))
  . cases h0
 ne:=λh tp dd its n sl X htp=>by
  have h0:=Z_.isc;refine Bool.eq_false_iff.mpr λq=>?_;have e:D=tp:=Value.ref.inj (beq_iff_eq.mp q);subst e;unfold PySem.W.clsIn at h0;split at h0
  . rename_i c' d' cd' sl' ho;have z:=(X _ _ ho).symm.trans htp;cases z
  . cases h0
 ca:=λX ⟨ob,h1,h2⟩ k=>Zqk X h1 h2 Z_ k
end
def ZlF:Zaa X (.builtin "isinstance") (λxs H Q=>∃a oe D c v b,xs=[.ref a,c]/\(a,oe)∈X.pn/\oe.cls=.ref D/\ExcA X.K D/\RelV c v/\PySem.W.kitOne X.K (.ref D) v=Wn b/\Q (.bl b) H):=by
 intro pins s Z H xs us Q I r h;obtain⟨a,oe,D,c,v,b,rfl,hp,hc,Z_,rc,e,q⟩:=h;obtain⟨u,w',rfl,rx,rT⟩:=vals2 r;obtain rfl:u=YB a:=rx;have ev:w'=v:=by
  cases c with
  |ref p=>exact(show w'=YB p from rT).trans (show v=YB p from rc).symm
  |ty n=>exact(show w'=Value.type n from rT).trans (show v=Value.type n from rc).symm
  |non=>exact(show w'=Value.none from rT).trans (show v=Value.none from rc).symm
  |bl z=>exact(show w'=Value.bool z from rT).trans (show v=Value.bool z from rc).symm
  |int z=>obtain⟨_,rfl⟩:=rc;cases e
  |str z=>obtain⟨_,rfl⟩:=rc;cases e
  |byt z=>obtain⟨_,rfl⟩:=rc;cases e
  |flt z=>obtain⟨_,rfl⟩:=rc;cases e
 subst ev;have hpin:=(I.pin (a,oe) (Yq _ hp)).1;exact PySem.W.kia_one (Zsc Z_) I.kIn ⟨oe,hpin,hc⟩ e (by intro z;cases z) λtk=>⟨.bl b,H,I.tok tk,rfl,q⟩
end L2
namespace L2
open PySem PySem.Spec PyProof.Rows
def ZuV(h:PSs X b t)(r:t D Z H):∃t,PSs X b t/\t D Z H:=⟨t,h,r⟩
def Zcf:RelV (.str x) (.str x t):=⟨t,rfl⟩
def Zcg:RelV (.int x) (.int x t):=⟨t,rfl⟩
def ZaD:RelV (.ref a) (.ref a):=rfl
def ZAr:bootBuiltins "ValueError" = Wn (.type "ValueError"):=by decide +kernel
def isSome_of{K:Yk}(h:PySem.W.isClsIn K C=Wp):(PySem.W.clsIn K C).isSome=Wp:=h
def DkK(P:Yh)(w:Yg)(K:Yk)(a:Yi)(kvs:List (Key×V)):Prop:=∃(o:Obj) (es:Array DictEntry) (ep:Nat) (vs:List (Key×Yj)),K.lookup a=Wn o/\o.ExactDict/\o.data=.dict es ep/\KeysOf (Z0 P w) es/\Pairs (Z0 P w) es.toList vs/\(vs.map (·.1)).Nodup/\KV kvs vs/\kvs.length<=sizeLine/\(a==Ye)=Wq
def Dk(P:Yh)(w:Yg)(K:Yk)(H:Hp)(a:Yi)(kvs:List (Key×V)):Prop:=Rd H a (.dK kvs)\/DkK P w K a kvs
section
variable {X:Cx}{pins:List (Yi×Obj)}{Z:St}{H:Hp}{s:Yb}{a:Yi}
def Inv.dk(I:Inv X pins Z H s)(h:Dk X.prog X.w X.K H a kvs):kvs.length<=sizeLine/\(a==Ye)=Wq/\∃vs,KV kvs vs/\s.heap.DictOf (Z0 X.prog X.w) a vs:=by
 rcases h with h|⟨o,es,ep,vs,lk,ex,da,ks,ps,nd,kv,z,hm⟩
 . exact Zv0 I.hok h
 . exact⟨z,hm,vs,kv,o,es,ep,I.kIn a o lk,ex,da,ks,ps,nd⟩
def Zze(P:Yh)(w:Yg)(K:Yk)(neg:Bool):R2:=λx y H Q=>∃a kvs k,y=.ref a/\x=kV k/\Dk P w K H a kvs/\Q (.bl (if neg then !(Zfj kvs k).isSome else(Zfj kvs k).isSome)) H
def Zxg:OpR X (YK .In) (Zze X.prog X.w X.K Wq):=by intro pins s Z H x y v u Q I rx ry h;obtain⟨a,kvs,k,rfl,rfl,hd,q⟩:=h;cases ry;obtain⟨z,hm,vs,rel,dd⟩:=I.dk hd;refine wpAny_in_of (Zmt rx) hm dd.mapOf ?_;rw[<- (rel.val k).isSome_eq];exact⟨.bl _,H,I.tok _,rfl,q⟩
def ZpY:OpR X (YK .NotIn) (Zze X.prog X.w X.K Wp):=by intro pins s Z H x y v u Q I rx ry h;obtain⟨a,kvs,k,rfl,rfl,hd,q⟩:=h;cases ry;obtain⟨z,hm,vs,rel,dd⟩:=I.dk hd;refine wpAny_notIn_of (Zmt rx) hm dd.mapOf ?_;rw[<- (rel.val k).isSome_eq];exact⟨.bl _,H,I.tok _,rfl,q⟩
def ZBk(P:Yh)(w:Yg)(K:Yk):R2:=λx y H Q=>∃a kvs k v,x=.ref a/\y=kV k/\Dk P w K H a kvs/\Zfj kvs k=Wn v/\Q v H
def Zuy:IxR X (ZBk X.prog X.w X.K):=by intro value slice pins s Z H x y v u Q I rx ry h hs;obtain⟨a,kvs,k,z,rfl,rfl,hd,hv,q⟩:=h;cases rx;obtain⟨_,hm,vs,rel,dd⟩:=I.dk hd;obtain⟨w',hw,rw'⟩:=Zgq.some_of (v:=z) (o:=valueAt vs k) (by rw[<- hv];exact rel.val k);exact subscriptTail_builtinR (x:=w') dd.typeIs PySem.F.slot_dict_getitem.lookup (wpAny_getItem_of (Zmt ry) dd.mapOf hw ⟨rfl,z,H,I.tok _,rw',q⟩) hs
def ZAk(I:Inv X pins Z H s)(e:H a=Wn (.dK kvs))(l:kvs.length<sizeLine)(ry:RelV (kV k) u)(rv:RelV v r)
 (h:∀s',Inv X pins Z (upd H a (.dK (putK kvs k v))) s'->Q () s'):Yz (model X.prog X.w) A (setItem (.ref a) u r) Q E s:=by
 obtain⟨z,hd,vs,rel,dd⟩:=Zv1 I.hok e;have hz:vs.length<=sizeLine:=by rw[<- rel.length];exact z
 have hl:(putK kvs k v).length<=sizeLine:=by have:=Zhi kvs k v;lia
 refine wpAny_setItem_pairs (hsz:=hz) (Zmt ry) dd λh' dd' hs=>h _ ?_;have he:∃q,h'.get? a=Wn q:=let ⟨q,_,_,hq,_⟩:=dd';⟨q,hq⟩;exact Zpj I (by rw[e];exact True.intro) hs he (ZsK hl hd (rel.put k rv) dd')
def Zy4:Zvf:=λo i v H Q=>∃a kvs k,o=.ref a/\i=kV k/\H a=Wn (.dK kvs)/\kvs.length<sizeLine/\Q (upd H a (.dK (putK kvs k v)))
def set_dict:Zvg X Zy4:=by intro pins s Z H o i v ov iv u Q I ro ri rv h;obtain⟨a,kvs,k,rfl,rfl,e,l,q⟩:=h;cases ro;exact ZAk I e l ri rv λs' I'=>⟨_,I',q⟩
end
set_option tactic.hygienic false
section
variable {X:Cx}{elt tg iter:Expr}{ifs:List Expr}{scope sc:Scope}{pos:Pos}{NC:List Str}{js:List (Option Nat)}{k:Nat}{wi:TI}{g:TG}{tc:TT}{te:TE}
def Zno(hN:X.N.Nodup)(hy:X.N[i0]? = Wn y)(hx:Loc X.env.scope y)(hf:X.fn y=Wp\/X.env.scope.names.lookup y=Wn .local)(S_:CompSc NC X.N js sc scope)(hsc:X.env.scope=sc)(hc:X.calm=Wp)(hi:PI X tg iter wi)
 (hb:∀(C:Yi) (s3:Yb) (H3:Hp) (fp:List Yi),PG (ZI X NC scope C s3 H3 fp) tg g/\PIf (ZI X NC scope C s3 H3 fp) ifs tc/\PE (ZI X NC scope C s3 H3 fp) elt te)
 (hk:ZnV k g) (hjk:∀j,j<k->js[j]? = Wn Wo) (hs:∀x,foldedSetIterable iter X.env x=pure x:=by intro _;rfl) (hsw:swapsWith (.ListComp elt [⟨tg,iter,ifs,0⟩] scope pos) (Wn (.Name y py)) spos.line X.env=pure Wp:=by rfl) :
 PS X (.Assign [.Name y py] (.ListComp elt [⟨tg,iter,ifs,0⟩] scope pos) spos) (Znd (ZqQ wi js g tc te) (ZcQ i0)):=by
 intro pins s Z H D0 I h;rw[exec_Assign_Name_used _ _ _ _ hsw];refine Ya (wpAny_standAt (Ya ?_));show Yz _ X.A (do let _ <- comprehension (.ListComp elt [⟨tg,iter,ifs,0⟩] scope pos) scope X.env _ (newList []) Wq (eval iter X.env) (Wn (assign (.Name y py) X.env))) _ _ s;refine Ya (Yf (ZmH (Q:=λx H1=>ZcQ i0 x Z H1 D0.nx) (Q0:=λ_ s'=>SP X pins D0 .next s') S_ hsc hc hi hb hk hjk hs I h λC Dd s3 s6 H3 H5 fp hC I3 f3 I6 qn=>?_) (λ_ s' hq=>Yc (Yc hq)) λ_ _ e=>e);obtain⟨m,hm,_⟩:=I6.loc;have Io:Inv X pins Z H5 s6:=I3.comp_out (h'':=s6.heap) f3 hC I6 ⟨rfl,λ_ _=>rfl⟩;have fC:Zc4 X pins H5 C:=I3.fpOk (Nat.le_of_eq hC.symm) I6.free;show Yz _ X.A (assign (.Name y py) X.env (.ref Dd)) _ _ _;refine wpAny_assign_Name (Zku Io hN hy hx (v:=.ref Dd) rfl (λs8 I8 ⟨a8,sb8,ha8⟩=>?_) hf);have ne8:C≠a8:=λz=>by
  rcases ha8 with e|e
  . exact fC.2.1 (z.trans e)
  . exact fC.2.2.2.2.1 _ _ e z.symm
 refine⟨m,hm.sameBut sb8 ne8,λh' hs'=>?_⟩;exact⟨_,H5,I8.turnL (t':=s8.toks) (ch:=[C]) (λb hb=>by rw[Ox.mp hb];exact fC) (λb o hb e=>(hs'.2 b (λz=>hb (by rw[z];exact List.mem_singleton_self _))).trans e),qn⟩
end
set_option tactic.hygienic true
mutual
inductive Dp(K:Yk)(H:Hp):V->PyData->Prop
 |non:Dp K H .non .none
 |bl (b:Bool):Dp K H (.bl b) (.bool b)
 |int (i:Int):Dp K H (.int i) (.int i)
 |str (x:Str) (ok:Yo x=Wp):Dp K H (.str x) (.str x)
 |lst {a:Yi}{xs:List V}{ds:List PyData}:SqL K H a xs->Dps K H xs ds->Dp K H (.ref a) (.list ds)
 |tup {a:Yi}{xs:List V}{ds:List PyData}:SqT K H a xs->Dps K H xs ds->Dp K H (.ref a) (.tuple ds)
inductive Dps(K:Yk)(H:Hp):List V->List PyData->Prop
 |nil:Dps K H [] []
 |cons {v:V}{vs:List V}{d:PyData}{ds:List PyData}:Dp K H v d->Dps K H vs ds->Dps K H (v::vs) (d::ds)
end
section
variable {K:Yk}{H H':Hp}
mutual
theorem Dp.lay:∀{v:V}{d:PyData},Dp K H v d->d.canLay0=Wp
 |_,_,.non=>rfl
 |_,_,.bl b=>rfl
 |_,_,.int i=>rfl
 |_,_,.str x ok=>ok
 |_,_,.lst h r=>Dps.lay r
 |_,_,.tup h r=>Dps.lay r
theorem Dps.lay:∀{v:List V}{d:List PyData},Dps K H v d->PyData.canLayAll0 d=Wp
 |_,_,.nil=>rfl
 |_,_,.cons h r=>by rw[PyData.canLayAll0,Dp.lay h,Dps.lay r];rfl
end
end
section
variable {X:Cx}{pins:List (Yi×Obj)}{Z:St}{H:Hp}{s:Yb}
mutual
theorem Inv.reads(I:Inv X pins Z H s):∀{v:V}{d:PyData}{u:Yj},Dp X.K H v d->RelV v u->∃as,Reads s.heap u d as
 |_,_,_,.non,r=>by cases r;exact⟨_,.none⟩
 |_,_,_,.bl b,r=>by cases r;exact⟨_,.bool b⟩
 |_,_,_,.int i,r=>by obtain⟨t,rfl⟩:=r;exact⟨_,.int i t⟩
 |_,_,_,.str x ok,r=>by obtain⟨t,rfl⟩:=r;exact⟨_,.str x t⟩
 |_,_,_,.lst h rs,r=>by cases r;obtain⟨its,rv,⟨o,n,e,c,_,dd⟩,_⟩:=I.list h;obtain⟨as,q⟩:=Inv.readsAll I rs rv;exact⟨_,.list e c dd (by simpa using q)⟩
 |_,_,_,.tup h rs,r=>by cases r;obtain⟨its,rv,⟨o,e,c,n,dd⟩,_⟩:=I.tuple h;obtain⟨as,q⟩:=Inv.readsAll I rs rv;exact⟨_,.tuple e c dd (by simpa using q)⟩
theorem Inv.readsAll(I:Inv X pins Z H s):∀{v:List V}{d:List PyData}{u:List Yj},Dps X.K H v d->Zu v u->∃as,ReadsAll s.heap u d as
 |_,_,_,.nil,r=>by cases r;exact⟨_,.nil⟩
 |_,_,_,.cons h rs,r=>by
  cases r with
  |cons r1 r2=>obtain⟨as,q⟩:=Inv.reads I h r1;obtain⟨bs,q2⟩:=Inv.readsAll I rs r2;exact⟨_,.cons q q2⟩
end
end
set_option tactic.hygienic false
namespace Rv
def own:Manifest.owners.lookup (String.ofList ['d','e','s','r','e','v','e','r'].reverse)=Wn Manifest.sig_reversed:=by kernel_rfl
def next:Slot "reversed" "__next__" "reversed.__next__" :=
 .of (owner := "reversed") (n := "__next__") (by rw[typeLookup_type,builtinLookup_eq_fast]<;>kernel_rfl) (by decide +kernel) (by decide +kernel) (by decide +kernel) (by first|exact .inl (by decide +kernel)|exact .inr (by decide +kernel)) (by rw[isSubtype_type]<;>kernel_rfl)
def ZvZ:entryFor table "reversed.__next__" = Wn Builtin.«reversed.__next__»:=entryFor_of_tree (by kernel_rfl)
def Zwa(a:Yj):argsOk "reversed.__next__" ⟨[a],[]⟩:=by unfold argsOk;rw[signature?_of (id := "reversed.__next__") (n:=['_','_','t','x','e','n','_','_']) (o:=['d','e','s','r','e','v','e','r']) (by kernel_rfl) own];kernel_rfl
def iter:Slot "reversed" "__iter__" "reversed.__iter__" :=
 .of (owner := "reversed") (n := "__iter__") (by rw[typeLookup_type,builtinLookup_eq_fast]<;>kernel_rfl) (by decide +kernel) (by decide +kernel) (by decide +kernel) (by first|exact .inl (by decide +kernel)|exact .inr (by decide +kernel)) (by rw[isSubtype_type]<;>kernel_rfl)
def ZAw(a:Yj):argsOk "reversed.__iter__" ⟨[a],[]⟩:=by unfold argsOk;rw[signature?_of (id := "reversed.__iter__") (n:=['_','_','r','e','t','i','_','_']) (o:=['d','e','s','r','e','v','e','r']) (by kernel_rfl) own];kernel_rfl
def ZAg:entryFor table "reversed.__iter__" = Wn Builtin.«dict_keyiterator.__iter__» :=entryFor_alias (id' := "dict_keyiterator.__iter__") (by kernel_rfl) (by first|rfl|decide +kernel|(unfold String.splitOn;simp +decide [String.splitOnAux])) (by decide +kernel) (by kernel_rfl)
def ZzF:typeLookup (.type "tuple") "__reversed__" = pure Wo:=by rw[typeLookup_type,builtinLookup_eq_fast]<;>kernel_rfl
def Zth:isSubtype (.type "reversed") (.type "reversed")=pure Wp:=by rw[isSubtype_type]<;>kernel_rfl
def init:Slot "reversed" "__init__" "object.__init__" :=
 .of (owner := "object") (n := "__init__") (by rw[typeLookup_type,builtinLookup_eq_fast]<;>kernel_rfl) (by decide +kernel) (by decide +kernel) (by decide +kernel) (by first|exact .inl (by decide +kernel)|exact .inr (by decide +kernel)) (by rw[isSubtype_type]<;>kernel_rfl)
def called:TypeCalled "reversed" "reversed.__new__" "object.__init__" := ⟨by decide +kernel,F.create_reversed,⟨_,_,F.mro_reversed⟩,F.made_reversed,by decide +kernel,Zth,init⟩
noncomputable def obj(l:Yi)(i:Int):Obj:={cls:=.type "reversed",data:=.fields #[.ref l,rawInt i]}
def Is(h:YE)(a l:Yi)(i:Int):Prop:=∃o,h.get? a=Wn o/\o.cls=.type "reversed" /\ o.data=.fields #[.ref l,rawInt i]
section
variable {prog:Yh}{w:Yg}{A:YF}{E:Yj->Yb->Prop}{s:Yb}
def Is.typeIs(x:Is s.heap a l i):s.TypeIs (.ref a) "reversed" := let ⟨o,ho,hc,_⟩:=x;⟨o,ho,hc⟩
def Is.at(x:Is h a l i)(e:∀o,h.get? a=Wn o->h'.get? a=Wn o):Is h' a l i:=let ⟨o,ho,r⟩:=x;⟨o,e _ ho,r⟩
def new(hl:IsTup s.heap l items)(hz:items.size<=sizeLine)
 (h:Q (.ref s.heap.objs.size) {s with heap:=s.heap.push (obj l ((items.size:Int) - 1)),toks:=s.toks+1+1}) :
 codeAny (model prog w) A (.call (.builtin "reversed.__new__") ⟨[.type "reversed",.ref l],[]⟩) (wants Q E) s:=by
 have hfit:(items.size:Int)<2 ^ 63:=by have:=ZcA;lia
 refine codeAny_of_tree ?_;show Yz _ A.in1 (do checkBuiltinCall "reversed.__new__" ⟨[.type "reversed",.ref l],[]⟩;again (.builtin "reversed.__new__" ⟨[.type "reversed",.ref l],[]⟩)) _ _ s;refine Ya (Wg (F.newCall_reversed_1 _) (Yc ⟨plainId_quiet F.plain_reversed_new _,codeAny_builtin F.entry_reversed_new ?_⟩));rw[Around.under_plainId F.plain_reversed_new _];unfold Builtin.«reversed.__new__»;refine Ya (Wg (newClass_reversed _) ?_)
 try dsimp only
 refine Ya (Wg (a:=()) (by first|rfl|kernel_rfl) (Ya (Wg (a:=()) (by first|rfl|kernel_rfl) ?_)))
 try dsimp only
 refine Ya (wpAny_specialOf hl.typeIs ZzF ?_)
 try dsimp only
 refine Ya ?_;show Yz _ _ (isInstance (.ref l) (.type "dict") >>= λb=>_) _ _ s;refine Ya (wpAny_isInstance hl.typeIs F.sub_tuple_dict ?_);show Yz _ _ (specialOf (.ref l) "__getitem__" >>= λb=>_) _ _ s;refine Ya (wpAny_specialOf hl.typeIs slot_tuple_getitem.lookup ?_);refine Wg (a:=true) (by rfl) ?_;show Yz _ _ (call (.builtin "len") [.ref l] >>= λb=>_) _ _ s;refine Ya (len_tuple hl hfit ?_);show Yz _ _ (asInt? (.int _ _) >>= λb=>_) _ _ _;refine Ya (Yc ?_);show Yz _ _ (newObj (.type "reversed") (.fields #[.ref l,rawInt ((items.size:Int) - 1)]) >>= λb=>_) _ _ _;exact Ya (Yp (Yc h))
theorem call(hl:IsTup s.heap l items)(hz:items.size<=sizeLine)
 (h:Q (.ref s.heap.objs.size) {s with heap:=s.heap.push (obj l ((items.size:Int) - 1)),toks:=s.toks+1+1}):Yz (model prog w) A (PySem.call (.type "reversed") [.ref l]) Q E s:=by
 refine callType_codes called (F.typeCall_reversed_1 _) F.entry_object_init (new (Q:=λo s1=>o=.ref s.heap.objs.size/\s1={s with heap:=s.heap.push (obj l ((items.size:Int) - 1)),toks:=s.toks+1+1}) hl hz ⟨rfl,rfl⟩) ?_;rintro _ _ ⟨rfl,rfl⟩;have hT:Shared.TypeIs {s with heap:=s.heap.push (obj l ((items.size:Int) - 1)),toks:=s.toks+1+1} (.ref s.heap.objs.size) "reversed" := ⟨_,Oj _ rfl,rfl⟩
 refine⟨hT,F.args_object_init_2 _ _,?_⟩;exact object_init_meets init.lookup F.made_reversed (by decide) prog w _ _ _ ⟨hT,rfl,h⟩
def next_item{it l:Yi}{i:Nat}{Q:Option Yj->Yb->Prop}(hit:Is s.heap it l (i:Int))(hl:IsTup s.heap l items)(hz:items.size<=sizeLine)(hx:items[i]? = Wn x)
 (hQ:∀h' t',Is h' it l ((i:Int) - 1)->Heap.SameBut it s.heap h'->Q (Wn x) {s with heap:=h',toks:=t'}):Yz (model prog w) A (pyNext (.ref it)) Q E s:=by
 obtain⟨o,ho,hc,hd⟩:=id hit;have hi:i<items.size:=by have:=(Array.getElem?_eq_some_iff.mp hx).1;exact this
 have l63:=ZcA;unfold pyNext;refine Ya (wpAny_attempt (YX (name:=O "__next__") hit.typeIs next (Wb next hit.typeIs ZvZ ?_ (Zwa _))));unfold Builtin.«reversed.__next__»;refine Ya (Wg (a:=(YB it,[])) rfl ?_)
 try dsimp only
 refine Ya (YO ho hd (x:=.ref l) rfl (Ya (YO ho hd (x:=rawInt (i:Int)) rfl ?_)));show Yz _ _ (if (i:Int)<0 then _ else _) _ _ s;rw[if_neg (by lia)];show Yz _ _ (specialOf (.ref l) "__getitem__" >>= λb=>_) _ _ s;refine Ya (wpAny_specialOf hl.typeIs slot_tuple_getitem.lookup ?_);show Yz _ _ (mkInt (i:Int) >>= λb=>_) _ _ s;refine Ya (wpAny_mkInt ?_);refine Ya (wpAny_attempt (getItem_tuple (s:={s with toks:=s.toks+1}) (j:=i) (x:=x) hl (by lia) (by lia) (seqIndex_of (by lia) (by lia)) hx ?_));show Yz _ _ (field (.ref it) 1 >>= λb=>_) _ _ _;refine Ya (YO ho hd (x:=rawInt (i:Int)) rfl ?_);show Yz _ _ (setField (.ref it) 1 (rawInt ((i:Int) - 1)) >>= λb=>_) _ _ _;refine Ya (wpAny_setField ho hd (by simp) ?_);refine Yc ⟨x,rfl,Yc (hQ _ _ ?_ (Heap.SameBut.update ..))⟩;exact⟨_,YU _ ho (Obj.isFreed_of_fields (YW hd _)),(Obj.cls_mapFields ..).trans hc,by rw[YW hd]<;>simp⟩
def next_end(hh:A.handled=Wo)(hit:Is s.heap it l (-1))(hQ:∀h',Heap.ExtBut it s.heap h'->Q Wo {s with heap:=h'}):Yz (model prog w) A (pyNext (.ref it)) Q E s:=by
 obtain⟨o,ho,hc,hd⟩:=id hit;unfold pyNext;refine Ya (wpAny_attempt (YX (name:=O "__next__") hit.typeIs next (Wb next hit.typeIs ZvZ ?_ (Zwa _))));unfold Builtin.«reversed.__next__»;refine Ya (Wg (a:=(YB it,[])) rfl ?_)
 try dsimp only
 refine Ya (YO ho hd (x:=.ref l) rfl (Ya (YO ho hd (x:=rawInt (-1)) rfl ?_)));show Yz _ _ (if (-1:Int)<0 then _ else _) _ _ s;rw[if_pos (by decide)];refine Ya (wpAny_rule ?_);show Yz _ _ ((setField (.ref it) 1 (rawInt (-1)) >>= λ_=>setField (.ref it) 0 .none) >>= λb=>_) _ _ _;have e1:=YU (Obj.mapFields (·.setIfInBounds 1 (rawInt (-1)))) ho (Obj.isFreed_of_fields (YW hd _));refine Ya (Ya (wpAny_setField ho hd (by simp) (wpAny_setField e1 (YW hd _) (by simp) ?_)));refine Ya ?_;show Yz _ _ (newExc (.type "StopIteration") [] >>= λb=>_) _ _ _;refine Ya ?_;simp only[newExc,newTuple];refine Ya (Yp ?_ (by size_fits));refine Ya (m:=firstArgMember _ _) (Wg (a:=Value.none) (by first|rfl|(simp only[firstArgMember]<;>rfl)) (Yp ?_ (by size_fits)));simp only[raiseNew];refine Ya (wpAny_handled ?_);rw[show A.in1.handled=Wo from hh];refine Ya (Yc (wpAny_throw ?_));refine Ya (wpAny_isInstance (T := "StopIteration") (b:=true) ⟨_,Oj _ rfl,rfl⟩ isSubtype_stop (Yc (hQ _ ?_)));exact((((Heap.ExtBut.refl _ _).trans (Heap.SameBut.update ..).extBut).trans (Heap.SameBut.update ..).extBut).push _).push _
def ZkG(hit:Is s.heap it l i)(h:Q (.ref it) s):Yz (model prog w) A (pyIter (.ref it)) Q E s:=by refine wpAny_pyIter_slot hit.typeIs iter (Wb iter hit.typeIs ZAg ?_ (ZAw _));exact Yc ⟨_,rfl, "reversed",_,hit.typeIs,next.lookup,h⟩
end
end Rv
noncomputable def Itv(K:Yk)(a:Yi)(n:Nat):It:=⟨λi H=>∃xs x,SqT K H a xs/\xs.length=n/\xs.reverse[i]? = Wn x,λi H x H'=>H'=H/\∀xs,SqT K H a xs->xs.reverse[i]? = Wn x,λi H=>∃xs,SqT K H a xs/\xs.length=n/\n=i⟩
def ZqK{P:Yh}{w:Yg}{K:Yk}{tg:Expr}(a it:Yi)(n:Nat):Turn P w K tg (Itv K a n) [it] it (λi h=>i<=n/\Rv.Is h it a ((n:Int) - 1 - i)) where
 mem:=by simp
 obj:=λi h st b hb=>by
  have e:b=it:=by simpa using hb
  subst e;obtain⟨_,o,e,c,d⟩:=st;exact⟨o,e,λv z=>by rw[d]at z;cases z⟩
 keep:=λi h h' st k=>⟨st.1,st.2.at λo e=>k it (by simp) o e⟩
 item:=by
  intro X hP hw hK hc i pins s Z H E I hf st hg;subst hP hw hK;obtain⟨hin,st⟩:=st;obtain⟨xs,x,hq,hxn,hx⟩:=hg;obtain⟨its,rv,p,hz⟩:=I.tuple hq;have hl:=rv.length;have hi:i<xs.length:=by have:=(Ob.mp hx).1;simpa using this
  have hx':xs[n - 1 - i]? = Wn x:=by rw[List.getElem?_reverse hi]at hx;rw[<- hxn];exact hx
  obtain⟨u,hu,ru⟩:=rv.get hx';obtain⟨f0,f1,f2,f3,f4,f5⟩:=hf it (by simp);have e1:(n:Int) - 1 - (i:Nat)=((n - 1 - i:Nat):Int):=by lia
  rw[e1]at st;refine Rv.next_item st p (by simp;lia) (x:=u) (by simpa using hu) λh' t' st' sb=>?_;have I1:Inv X pins Z H {s with heap:=h',toks:=t'}:=I.turned (t':=t') (λb o hb e=>(sb.2 b hb).trans e) f0 f1 f3 f4 f5;obtain⟨o,e,c,d⟩:=id st';have e2:((n - 1 - i:Nat):Int) - 1=(n:Int) - 1 - ((i+1:Nat):Int):=by lia
  refine⟨u,rfl,Zmz (s:={s with heap:=h',toks:=t'}) e c d (by decide) ⟨x,H,I1,ru,⟨rfl,λys hy=>by rw[I.tuple_inj hy hq];exact hx⟩,⟨by lia,by rw[<- e2];exact st'⟩,λb hb=>(hf b hb).1⟩⟩
 done:=by intro X hP hw hK hc i pins s Z H E I hf st hg;subst hP hw hK;obtain⟨xs,hq,hxn,hx⟩:=hg;obtain⟨f0,f1,f2,f3,f4,f5⟩:=hf it (by simp);have st1:=st.2;rw[show(n:Int) - 1 - (i:Nat)=-1 by lia]at st1;exact Rv.next_end (I.ok.hd hc) st1 λh' eb=>⟨rfl,I.turned (t':=s.toks) (λb o hb e=>eb b o hb e) f0 f1 f3 f4 f5⟩
 self:=λ_ _ _ _ _ st h=>Rv.ZkG st.2 h
theorem Zgs:∀{vs:List Yj}{ss:List Str},StrsAre vs ss->Zu (ss.map V.str) vs
 |_,_,.nil=>.nil
 |_,_,.cons y t h=>.cons ⟨t,rfl⟩ (Zgs h)
section
variable {prog:Yh}{w:Yg}{A:YF}{E:Yj->Yb->Prop}{s:Yb}
def Zng
 (hcol:∀R:List Yj->Yb->Prop,(∀(h':YE) (tk:Nat) (vs:List Yj),s.heap.objs.size<=h'.objs.size->(∀b o,s.heap.get? b=Wn o->h'.get? b=Wn o)->StrsAre vs ss->R vs {s with heap:=h',toks:=tk})->Yz (model prog w) A.in1 (collect (.ref r)) R E s)
 (h64:ss.length<64)
 (h:∀(D:Yi) (h':YE) (tk:Nat) (out:List Yj) (ss':List Str) (n:Nat),(∀b o,s.heap.get? b=Wn o->h'.get? b=Wn o)->s.heap.objs.size<=D->h'.get? D=Wn {cls:=.type "list",data:=.seq out.toArray n}->StrsAre out ss'->ss'.Perm ss->sortedS ss'=Wp ->
  Q (.ref D) {s with heap:=h',toks:=tk}):Yz (model prog w) A (call (.builtin "sorted") [.ref r]) Q E s:=by
 refine Calls.call_function_entry kind_sorted plain_sorted entry_sorted (args_sorted1 _) ?_;unfold Builtin.«sorted»;refine Ya (m:=checkCount "sorted" 1 1 _) (Yc (Ya (hcol _ λh' tk vs hsz hk hS=>?_)));have hlen:vs.length=ss.length:=by have:=(Zgs hS).length;simpa using this.symm
 have hz:vs.length<=sizeLine:=by rw[YA];lia
 refine Ya (wpAny_newList ?_ hz);have hoL:(h'.push (seqObj "list" vs.toArray 0)).get? h'.objs.size=Wn (seqObj "list" vs.toArray 0):=Oj _ rfl;refine Ya (Wa (Wb slot_list_sort ⟨_,hoL,rfl⟩ entry_list_sort (list_sort_treeK strKind_oneLt hoL hS.keysOf (λv₁ v₂ rest e=>keyKind_strs (by rw[<- e];exact hS)) (by lia) λst' a1 a2=>⟨_,rfl,?_⟩) (args_list_sort _)));refine Yc ⟨_,rfl,?_⟩;obtain⟨ss',h1,h2,h3⟩:=sorted_out_str hS a1 a2;obtain⟨e,he⟩:=sortedHeap_at (out:=(arrOf st').map (·.2)) hoL;have e2:((arrOf st').map (·.2))=((arrOf st').map (·.2)).toList.toArray:=Array.toArray_toList.symm;refine h h'.objs.size _ tk ((arrOf st').map (·.2)).toList ss' e (λb o q=>?_) hsz (by rw[<- e2];exact he) h1 h2 h3;have q':=hk b o q;have hlt:=Ym q';rw[sortedHeap_old (Ou hlt) (by rw[size_push'];exact Nat.lt_succ_of_lt hlt)];exact Od _ q'
def ZmJ(K:PySem.W.KdlSrc prog w T r d n P OK)(hh:A.handled=Wo)(hok:OK s.heap)(hn:n<=sizeLine)
 (h:∀(h':YE) (tk:Nat) (acc:Array Yj),s.heap.objs.size<=h'.objs.size->(∀b o,s.heap.get? b=Wn o->h'.get? b=Wn o)->ItemsOf P acc n->R acc.toList {s with heap:=h',toks:=tk}) :
 Yz (model prog w) A (collect (.ref r)) R E s:=by
 have lt:=K.there _ hok;unfold collect;refine Ya (wpAny_runValue (codeAny_builtin entry_proto_collect' ?_));rw[Around.under_plainId PySem.F.plain_proto_collect _];show Yz _ A.in1 (newList [] >>= λx=>again (.builtin "list.__iadd__" ⟨[x,.ref r],[]⟩)) _ _ s;refine Ya (Yp (Yc ⟨plainId_quiet PySem.F.plain_list_iadd _,codeAny_builtin entry_list_iadd' ?_⟩));rw[Around.under_plainId PySem.F.plain_list_iadd _];have e0:(s.heap.push {cls:=.type "list",data:=.seq ([]:List Yj).toArray}).get? s.heap.objs.size=Wn {cls:=.type "list",data:=.seq #[]}:=Oj _ rfl;show Yz _ A.in1 (Builtin.List.listExtendWith (.ref s.heap.objs.size) (.ref r) (.ref s.heap.objs.size)) _ _ _;have key:=PySem.W.kdl_extend (A:=A) (s:={s with heap:=s.heap.push {cls:=.type "list",data:=.seq ([]:List Yj).toArray}})
  (R:=λ(q:Result) (s':Yb)=>∃(h':YE) (tk:Nat) (acc:Array Yj) (c:Nat),q=.ok (.ret (.ref s.heap.objs.size))/\s'={s with heap:=h',toks:=tk}/\(∀b o,s.heap.get? b=Wn o->h'.get? b=Wn o)/\h'.get? s.heap.objs.size=Wn {cls:=.type "list",dict:=Wo,data:=.seq acc c,slots:=#[]}/\ItemsOf P acc n)
  K hh (K.keep _ _ hok λb _ o e=>Od _ e) s.heap.objs.size (Nat.ne_of_gt lt.1) (Nat.ne_of_gt lt.2) (.ref s.heap.objs.size) 0 e0 (λh' tk acc c hk hS hacc=>⟨h',tk,acc,c,rfl,rfl,λb o e=>hk b o (Ou (Ym e)) (Od _ e),hS,hacc⟩) hn
 refine Yf key (λfin s' x=>?_) λe s' x=>?_
 . cases fin with
   |done f=>obtain⟨h',tk,acc,c,e,rfl,hk,hS,hacc⟩:=x;cases e;exact Ya (wpAny_load hS (Yc (h h' tk acc (Nat.le_of_lt (Ym hS)) hk hacc)))
   |again c₁=>refine⟨x.1,codeAny_mono x.2 λq s₂ y=>?_⟩;obtain⟨h',tk,acc,c,rfl,rfl,hk,hS,hacc⟩:=y;exact Ya (wpAny_load hS (Yc (h h' tk acc (Nat.le_of_lt (Ym hS)) hk hacc)))
 . obtain⟨_,_,_,_,z,_⟩:=x;cases z
end
theorem ZiI:∀{xs:List α}{ys:List β},Paired R xs ys->∀{i:Nat}{x:α},xs[i]? = Wn x->∃y,ys[i]? = Wn y/\R x y
 |_,_,.nil,i,x,e=>by simp at e
 |_,_,.cons h r,0,x,e=>by cases e;exact⟨_,rfl,h⟩
 |_,_,.cons h r,i+1,x,e=>by obtain⟨y,h1,h2⟩:=ZiI r (i:=i) (x:=x) (by simpa using e);exact⟨y,by simpa using h1,h2⟩
theorem Ziv:∀(ss:List Str) (vs:List Yj),vs.length=ss.length->(∀(j:Nat) (v:Yj),vs[j]? = Wn v->∃x,ss[j]? = Wn x/\(Z0 P w).is (YC x) v=Wp)->StrsAre vs ss
 |[],[],_,_=>.nil
 |s::ss,v::vs,hl,h=>by obtain⟨x,e,hx⟩:=h 0 v rfl;cases e;obtain⟨t,rfl⟩:=Value.isStrOf_shape (x:=s) (v:=v) hx;exact .cons s t (Ziv ss vs (by simpa using hl) λj u hu=>h (j+1) u (by simpa using hu))
section
variable {X:Cx}
def Zrl(P:Yh)(w:Yg)(K:Yk):List V->Hp->VK->Prop:=λxs H Q=>∃a kvs ss,xs=[.ref a]/\Dk P w K H a kvs/\kvs.map (·.1)=ss.map YC/\ss.length<64/\∀p ss',H p=Wo->ss'.Perm ss->sortedS ss'=Wp->Q (.ref p) (upd H p (.lst (ss'.map V.str)))
def ZlB(hc:X.A.handled=Wo):Zaa X (.builtin "sorted") (Zrl X.prog X.w X.K):=by
 intro pins s Z H xs us Q I r h;obtain⟨a,kvs,ss,rfl,hd,hks,h64,q⟩:=h;obtain⟨u,rfl,ru⟩:=vals1 r;cases ru;obtain⟨z,hm,vs,rel,dd⟩:=I.dk hd;obtain⟨ep,hat⟩:=dd.dictAt;have hl:vs.length=kvs.length:=(Paired.length rel).symm;have hl2:kvs.length=ss.length:=by have:=congrArg List.length hks;simpa using this
 have hkey:∀(j:Nat) k x,vs[j]? = Wn (k,x)->∃y,ss[j]? = Wn y/\k=YC y:=λj k x e=>by
  have hj:j<vs.length:=(Ob.mp e).1;have h1:kvs[j]? = Wn kvs[j]:=Og (by lia);obtain⟨u,hu,hu2⟩:=ZiI rel h1;rw[e]at hu;cases hu;have h3:(kvs.map (·.1))[j]? = Wn kvs[j].1:=by rw[On,h1];rfl
  rw[hks,On]at h3;obtain⟨y,hy,e3⟩:=Oo.mp h3;exact⟨y,hy,hu2.1.symm.trans e3.symm⟩
 refine Zng (ss:=ss) (λR hR=>ZmJ (PySem.W.kdl_dict (knd:=Z0 X.prog X.w) (kvs:=vs) (ep:=ep) hm) hc hat (by lia) λh' tk acc hsz hk hacc=>?_) h64 λD h' tk out ss' n hk hD ho hS hp hs=>?_
 . refine hR h' tk acc.toList hsz hk (Ziv (P:=X.prog) (w:=X.w) ss acc.toList (by rw[Array.length_toList,hacc.1];lia) λj v hv=>?_);obtain⟨k,x,e,hk2⟩:=hacc.2 j v (by rw[<- Array.getElem?_toList];exact hv);obtain⟨y,hy,rfl⟩:=hkey j k x e;exact⟨y,hy,hk2⟩
 . have hlen:ss'.length<=sizeLine:=by rw[hp.length_eq];lia
   refine⟨.ref D,_,I.laid (a:=D) (o:=.lst (ss'.map V.str)) (t':=tk) hk hD ⟨by simpa using hlen,out,n,Zgs hS,ho⟩,rfl,q D ss' (I.hok.fresh hD) hp hs⟩
end
set_option tactic.hygienic true
theorem Zd4:∀{ns:List Int}{vs:List Yj},Zu (ns.map V.int) vs->IntsAre vs ns
 |[],vs,h=>by cases h;exact .nil
 |s::ss,vs,h=>by
  rw[Op]at h;cases h with
  |cons h1 h2=>obtain⟨t,rfl⟩:=h1;exact .cons s t (Zd4 h2)
noncomputable def Zgu(z:Str)(n:Nat):Str:=⟨(YI n z.cps).foldl (·++·) #[]⟩
theorem Zi3(a:Array Nat):∀(n:Nat) (i:Array Nat),((YI n a).foldl (·++·) i).size=i.size+n * a.size
 |0,i=>by simp
 |n+1,i=>by
  rw[List.replicate_succ,Wi,Zi3 a n (i++a),Array.size_append,Nat.succ_mul]
  lia
def Zfr(z:Str)(n:Nat):(Zgu z n).length=n * z.length:=by show((YI n z.cps).foldl (·++·) #[]).size=_;rw[Zi3];simp;rfl
section
variable {X:Cx}
def Zqn(hc:X.A.handled=Wo):Zaa X (.builtin "sum") (λxs H Q=>∃(a:Yi) (ns:List Int),xs=[.ref a]/\SqL X.K H a (ns.map V.int)/\Q (.int ns.sum) H):=by
 intro pins s Z H xs us Q I r h;obtain⟨a,ns,rfl,hq,q⟩:=h;obtain⟨u,rfl,ru⟩:=vals1 r;cases ru;obtain⟨its,rv,pl,hz⟩:=I.list hq;have hi:=Zd4 rv;obtain⟨ys,e⟩:=hi.allInts.items;refine sum_intListG (xs:=ys) hc (by rw[<- e];exact pl.isList) λh' tk t' hk=>?_;refine⟨.int ns.sum,H,I.kept (t':=tk) hk,⟨t',?_⟩,q⟩;have e2:=hi.numsOf;have e3:numsOf (intItems ys).toList=ns:=by rw[<- e];exact e2
 rw[nums_intItems]at e3;rw[preSum_eq,List.take_of_length_le (by simp),e3]
def ZtY:OpR X (binaryOp .Mult) (λx y H Q=>∃z n,x=.str z/\y=.int n/\0<=n/\n<=1000/\z.length<=1000/\Q (.str (Zgu z n.toNat)) H):=by
 intro pins s Z H x y v u Q I rx ry h;obtain⟨z,n,rfl,rfl,h0,h1,h2,q⟩:=h;obtain⟨t,rfl⟩:=rx;obtain⟨t2,rfl⟩:=ry;have hl:z.length * n.toNat<=1000000:=Nat.mul_le_mul h2 (by lia:n.toNat<=1000);have hs:(1000000:Nat)<=sizeLine:=by decide
 refine PySem.P.mul_str (by rw[decide_eq_false (by lia:¬ n < -(2 ^ 63:Int)),decide_eq_false (by lia:¬ n ≥ 2 ^ 63)]<;>rfl) (λ_ _=>?_) (λ_ _=>?_) ?_
 . have h3:1<=n:=by lia
   have h4:(9223372036854775807:Int) / n ≥ 1000:=by have:1000<=9223372036854775807 / n:=(Int.le_ediv_iff_mul_le (by lia)).mpr (by lia);exact this
   show ¬ ((z.length:Int) > (2 ^ 63 - 1) / n);rw[show(2 ^ 63 - 1:Int)=9223372036854775807 by decide]
   lia
 . unfold Builtin.Str.tooLong;exact decide_eq_false (by lia)
 . by_cases hn:n<1
   . rw[if_pos hn];refine⟨by decide,.str _,H,I.tok _,⟨_,rfl⟩,?_⟩;rw[show n.toNat=0 by lia]at q;exact q
   . rw[if_neg hn];by_cases h5:(n==1 || z.length==0)=Wp
     . rw[if_pos h5];refine⟨.str _,H,I,⟨_,rfl⟩,?_⟩;have e:Zgu z n.toNat=z:=by
        rw[Wm]at h5;rcases h5 with h5|h5
        . have e1:n.toNat=1:=by have:=eq_of_beq h5;lia
          rw[e1];unfold Zgu;simp
        . have e1:z.length=0:=eq_of_beq h5;have e2:(Zgu z n.toNat).length=0:=by rw[Zfr,e1];simp
          have f:∀y:Str,y.length=0->y=⟨#[]⟩:=λy hy=>by cases y with|mk c=>rw[show c=#[]from Array.eq_empty_of_size_eq_zero hy]
          exact(f _ e2).trans (f z e1).symm
       rw[e]at q;exact q
     . rw[if_neg h5];refine⟨?_,.str _,H,I.tok _,⟨_,rfl⟩,q⟩;show(Zgu z n.toNat).length<=sizeLine;rw[Zfr,Nat.mul_comm]
       lia
def Zle(hi:i.natAbs<2 ^ 2000)(hj:j.natAbs<2 ^ 2000):IntMulOk i j:=by
 have bits:∀k:Int,k.natAbs<2 ^ 2000->Builtin.Int.intBits k<=2000:=λk hk=>by
  unfold Builtin.Int.intBits;split
  . lia
  . rename_i h;have h0:k.natAbs≠0:=by simpa using h
    have:=(Nat.log2_lt h0).mpr hk
    lia
 unfold IntMulOk;have h1:=bits i hi;have h2:=bits j hj;have h3:Builtin.Int.intTooBig (Builtin.Int.intBits i+Builtin.Int.intBits j:Nat)=Wq:=by
  unfold Builtin.Int.intTooBig;rw[decide_eq_false_iff_not];have:(bitsLine:Nat)=134217728:=by decide
  rw[this]
  lia
 intro q;simp only[Oa]at q;have q2:=q.2;rw[show((Builtin.Int.intBits i:Int)+(Builtin.Int.intBits j:Int))=((Builtin.Int.intBits i+Builtin.Int.intBits j:Nat):Int) by simp]at q2;rw[h3]at q2;cases q2
def ZpZ:OpR X (binaryOp .Mult) (rI (λi j=>i.natAbs<2 ^ 2000/\j.natAbs<2 ^ 2000) λi j=>.int (i * j)):=opI λ_ _ _ _ _ _ _ hc q=>mul_int q (Zle hc.1 hc.2)
noncomputable def Zzg(K:Yk):R2:=λx y H Q=>∃a b ys,x=.ref a/\y=.ref b/\SqT K H a []/\SqT K H b ys/\Q (.ref b) H
def Zt1:OpR X (binaryOp .Add) (Zzg X.K):=by
 intro pins s Z H x y v u Q I rx ry h;obtain⟨a,b,ys,rfl,rfl,ha,hb,q⟩:=h;cases rx;cases ry;obtain⟨its,r1,ht,_⟩:=I.tuple ha;obtain⟨its2,r2,hb,_⟩:=I.tuple hb;cases r1;obtain⟨⟨cls,dd,data,sl⟩,ho,hc,n,hd⟩:=id ht;obtain⟨⟨cls2,dd2,data2,sl2⟩,ho2,hc2,n2,hd2⟩:=id hb;simp only at hc hd hc2 hd2;subst hc hd hc2 hd2;exact concat_meets ⟨_,ho,rfl⟩ ⟨_,ho2,rfl⟩ noFill_tuple_add seq_tuple_add PySem.F.slot_tuple_add PySem.F.entry_tuple_add (PySem.F.args_tuple_add_2 _ _)
  (tuple_addW0 a b _ _ n n2 dd dd2 sl sl2 (by simp)) ⟨ho,ho2,⟨.ref b,H,I,rfl,q⟩⟩
end
end L2
namespace HT
open PySem PyProof.Rows
section
variable {prog:Yh}{w:Yg}{A:YF}{E:Yj->Yb->Prop}{s:Yb}
def Zd0{t sl:Yi}{items:Array Yj}{lo hi:Option Int}{Q:Yj->Yb->Prop}(ht:IsTup s.heap t items)(hs:s.heap.IsSliceOf sl vl vu .none)(pl:IsPart vl lo)(pu:IsPart vu hi)
 (hw:sIx items.size 0 lo=0/\sIx items.size items.size hi=items.size) (h:Q (.ref t) s):Yz (model prog w) A (getItem (.ref t) (.ref sl)) Q E s:=by
 obtain⟨os,hos,hcs,hds⟩:=id hs;have hTs:s.TypeIs (.ref sl) "slice" := ⟨os,hos,hcs⟩
 unfold getItem
 try with_reducible refine Wa ?_
 first|refine Ya (Yc ?_)|skip
 refine Ya (wpAny_sequenceKey ht.typeIs (by decide) ?_);refine Ya (YX (name:=O "__getitem__") ht.typeIs Wf
  (Wb Wf ht.typeIs entry_tuple_getitem ?_ (args_tuple_getitem _ _)))
 show Yz _ _ (Builtin.Tuple.tupleItemsOf (.ref t) >>= _) _ _ s;refine Ya (tupleItemsOf_ ht ?_);refine Ya (wpAny_typeOf hTs ?_);rw[if_pos (by decide)];refine Ya (Zce hs pl pu ?_);have hyes:(((sIx items.size 0 lo:Nat):Int)==0&&(1:Int)==1&&(sIx items.size items.size hi - sIx items.size 0 lo)==items.size)=Wp:=by rw[hw.1,hw.2];simp
 show Yz _ _ (if (((sIx items.size 0 lo:Nat):Int)==0&&(1:Int)==1&&(sIx items.size items.size hi - sIx items.size 0 lo)==items.size)=Wp then _ else _) _ _ s;rw[if_pos hyes];unfold Builtin.Tuple.tupleIsExact;refine Ya (Ya (wpAny_typeOf ht.typeIs (Yc ?_)));rw[if_pos (by decide)];exact Ya (wpAny_rule (Yc ⟨_,rfl,Yc h⟩))
end
end HT
namespace L2
open PySem PySem.Spec PyProof.Rows
section
variable {X:Cx}
def ZBb(K:Yk):V->Option Int->Option Int->Hp->VK->Prop:=λx lo hi H Q=>∃a xs,x=.ref a/\SqT K H a xs /\
 (HT.sIx xs.length 0 lo=0/\HT.sIx xs.length xs.length hi=xs.length)/\Q (.ref a) H
def ZqY:SlR X (ZBb X.K):=by
 intro pins s Z H x v vl vu lo hi sl Q I rx hs pl pu h;obtain⟨a,xs,rfl,hx,hw,q⟩:=h;cases rx;obtain⟨its,r,ht,hz⟩:=I.tuple hx;have hlen:its.toArray.size=xs.length:=by rw[Of];exact r.length.symm
 refine⟨"tuple",_,PyProof.Rows.slot_tuple_getitem.lookup,ht.typeIs,?_⟩;exact HT.Zd0 ht hs pl pu (by rw[hlen];exact hw) ⟨.ref a,H,I,rfl,q⟩
end
end L2
namespace L2
set_option tactic.hygienic false
namespace Mx
open PySem PyProof.Rows
def nm:(toString "max" ++ toString ".loop" : String) = "max.loop" := by decide
section
variable {prog:Yh}{w:Yg}{A:YF}{Z_:Result->Yb->Prop}{J:Yi}{fo wo:List Yi}{m:Nat}{P:Nat->Yj->Prop}{S_:Nat->YE->Prop}
theorem loop(W:Walks prog w A.in1 J fo wo m P S_)(bt:Nat->Nat->Bool)(hb:CmpOf prog w A.in1 .Gt P bt)(C:Yi)(hC:C ∉ fo)(kw:List (Str×Yj)):∀(d j:Nat) (s:Yb) (u:Yj) (c:Nat),
 m - (j+1)=d->j+1<=m->S_ (j+1) s.heap->P (argBest bt j) u->s.heap.get? C=Wn {cls:=.type "list",dict:=Wo,data:=.seq #[u,u] c,slots:=#[]} ->
 (∀v hp tk,P (argBest bt (m - 1)) v->(∀b o,b ∉ wo->b≠C->s.heap.get? b=Wn o->hp.get? b=Wn o)->Z_ (.ok (.ret v)) {s with heap:=hp,toks:=tk}) ->
 codeAny (model prog w) A (.builtin "max.loop" ⟨[.ref J,.none,.ref C],kw⟩) Z_ s:=by
 have hCw:C ∉ wo:=λz=>hC (W.sub _ z);intro d;induction d with
 |zero=>
  intro j s u c e1 e2 st pu hc hz;have em:j+1=m:=by omega
  refine codeAny_builtin PySem.F.entry_max_loop ?_;rw[Around.under_plainId YS _];show Yz (model prog w) A.in1 (seqItems? (YB C) >>= _) _ _ s;refine Ya (wpAny_seqItems hc rfl ?_);show Yz (model prog w) A.in1 (tryCatch (pyNext (YB J)) _ >>= _) _ _ s;refine Ya (wpAny_tryCatch (W.done s _ _ (em ▸ st) λhp tk kp=>?_));have hc1:=kp C _ hCw hc;show Yz (model prog w) A.in1 (updateSeq C (λ_=>#[]) >>= _) _ _ _;exact Ya (wpAny_updateSeq hc1 rfl (Ya (wpAny_letGo (Yc (hz u _ tk (by rw[<- em];exact pu) λb o b1 b2 e=>(YL _ _ (YJ b2)).trans (kp b o b1 e))))))
 |succ d ih=>
  intro j s u c e1 e2 st pu hc hz;have lt:j+1<m:=by omega
  refine codeAny_builtin PySem.F.entry_max_loop ?_;rw[Around.under_plainId YS _];show Yz (model prog w) A.in1 (seqItems? (YB C) >>= _) _ _ s;refine Ya (wpAny_seqItems hc rfl ?_);show Yz (model prog w) A.in1 (tryCatch (pyNext (YB J)) _ >>= _) _ _ s;refine Ya (wpAny_tryCatch (W.item (j+1) s _ _ lt st λv hp tk pv st1 kp=>?_));have hc1:=kp C _ hCw hc;show Yz (model prog w) A.in1 (tryCatch (holding [v,v] (richCompare CmpOp.Gt v u >>= _)) _ >>= _) _ _ _;refine Ya (wpAny_tryCatch (Wa (Ya (hb (j+1) (argBest bt j) v u _ _ _ pv pu (Ya (Wa (wpAny_truthy_bool (Ya (wpAny_letGo (Yc ?_))))))))));cases q:bt (j+1) (argBest bt j)with
  |true=>
   simp only[if_true];refine Ya (wpAny_updateSeq hc1 rfl (Ya (wpAny_letGo ?_)));rw[nm];refine Yc ⟨plainId_quiet YS _,ih (j+1) _ v _ (by omega) lt (W.frame _ _ _ st1 λb b1 o e=>?_) (by simp only[argBest,q,if_true];exact pv) (YU _ hc1 rfl) λv2 hp2 tk2 pv2 kp2=>?_⟩
   . exact(YL _ _ (λz:C=b=>hC (by rw[z];exact b1))).trans e
   . exact hz v2 hp2 tk2 pv2 λb o b1 b2 e=>kp2 b o b1 b2 ((YL _ _ (YJ b2)).trans (kp b o b1 e))
  |false=>simp only[OG,if_false];refine Ya (wpAny_letGo ?_);rw[nm];exact Yc ⟨plainId_quiet YS _,ih (j+1) _ u c (by omega) lt st1 (by simp only[argBest,q,OG,if_false];exact pu) hc1 λv2 hp2 tk2 pv2 kp2=>hz v2 hp2 tk2 pv2 λb o b1 b2 e=>kp2 b o b1 b2 (kp b o b1 e)⟩
def first(W:Walks prog w A.in1 J fo wo m P S_)(bt:Nat->Nat->Bool)(hb:CmpOf prog w A.in1 .Gt P bt)(C:Yi)(hC:C ∉ fo)(dn:Str)(dv:Yj)(st:S_ 0 s.heap)
 (hc:s.heap.get? C=Wn {cls:=.type "list",dict:=Wo,data:=.seq #[] c,slots:=#[]})
 (hz:∀v hp tk,(m=0->v=dv)->(0<m->P (argBest bt (m - 1)) v)->(∀b o,b ∉ wo->b≠C->s.heap.get? b=Wn o->hp.get? b=Wn o)->Z_ (.ok (.ret v)) {s with heap:=hp,toks:=tk}) :
 codeAny (model prog w) A (.builtin "max.loop" ⟨[.ref J,.none,.ref C],[(dn,dv)]⟩) Z_ s:=by
 have hCw:C ∉ wo:=λz=>hC (W.sub _ z);refine codeAny_builtin PySem.F.entry_max_loop ?_;rw[Around.under_plainId YS _];show Yz (model prog w) A.in1 (seqItems? (YB C) >>= _) _ _ s;refine Ya (wpAny_seqItems hc rfl ?_);show Yz (model prog w) A.in1 (tryCatch (pyNext (YB J)) _ >>= _) _ _ s;by_cases hm:0<m
 . refine Ya (wpAny_tryCatch (W.item 0 s _ _ hm st λv hp tk pv st1 kp=>?_));have hc1:=kp C _ hCw hc;show Yz (model prog w) A.in1 (updateSeq C (λ_=>#[v,v]) >>= _) _ _ _;refine Ya (wpAny_updateSeq hc1 rfl ?_);rw[nm];refine Yc ⟨plainId_quiet YS _,loop W bt hb C hC _ _ 0 _ v _ rfl hm (W.frame _ _ _ st1 λb b1 o e=>?_) pv (YU _ hc1 rfl) λv2 hp2 tk2 pv2 kp2=>?_⟩
   . exact(YL _ _ (λz:C=b=>hC (by rw[z];exact b1))).trans e
   . exact hz v2 hp2 tk2 (λz=>by omega) (λ_=>pv2) λb o b1 b2 e=>kp2 b o b1 b2 ((YL _ _ (YJ b2)).trans (kp b o b1 e))
 . have h0:m=0:=by omega
   refine Ya (wpAny_tryCatch (W.done s _ _ (h0 ▸ st) λhp tk kp=>?_));exact Ya (wpAny_rule (Yc (hz dv hp tk (λ_=>rfl) (λz=>absurd z hm) λb o b1 _ e=>kp b o b1 e)))
end
section
variable {prog:Yh}{w:Yg}{A:YF}{E:Yj->Yb->Prop}{s:Yb}
def args(a d:Yj):argsOk "max" ⟨[a],[("default",d)]⟩:=by unfold argsOk;kernel_rfl
theorem call
 (h:Yz (model prog w) A.in1 (pyIter x) (λit s2=>∃J fo wo m P S_ bt,it=.ref J/\Walks prog w A.in1 J fo wo m P S_/\S_ 0 s2.heap/\(∀b∈fo,b<s2.heap.objs.size)/\CmpOf prog w A.in1 .Gt P bt /\
  ∀v hp tk,(m=0->v=dv)->(0<m->P (argBest bt (m - 1)) v)->(∀b o,b ∉ wo->s2.heap.get? b=Wn o->hp.get? b=Wn o)->Q v {s2 with heap:=hp,toks:=tk}) E s) :
 Yz (model prog w) A (PySem.call (.builtin "max") [x] [("default",dv)]) Q E s:=by
 refine wpAny_call (codeAny_call_builtin PySem.F.plain_max PySem.F.entry_max ?_);simp only[checkBuiltinCall,PySem.F.kind_max];have go:Yz (model prog w) A.in1 (Builtin.«max» ⟨[x],[("default",dv)]⟩) (λfin s'=>match fin with
  |.done f=>(match (Except.ok f:Result)with|.ok (.ret v)=>Q v s'|.ok _=>False|.error e=>E e s')
  |.again c'=>c'.quiet=Wp/\codeAny (model prog w) A c' (λr s'=>match r with|.ok (.ret v)=>Q v s'|.ok _=>False|.error e=>E e s') s') E s:=by
  show Yz (model prog w) A.in1 (Builtin.Builtins.bindParams "max" ["key", "default"] 0 ⟨[],[("default",dv)]⟩ >>= _) _ _ s;refine Ya (Wg (show Builtin.Builtins.bindParams "max" ["key", "default"] 0 ⟨[],[("default",dv)]⟩=pure [Wo,Wn dv]from rfl) (Ya (Yc (Ya (Yf h (λit s2 q=>?_) λ_ _ e=>e)))));obtain⟨J,fo,wo,m,P,S_,bt,rfl,W,st,hfo,hb,hQ⟩:=q;refine Ya (Yp ?_);have hC:s2.heap.objs.size ∉ fo:=λz=>Yu _ (hfo _ z);rw[nm];exact Yc ⟨plainId_quiet YS _,first W bt hb s2.heap.objs.size hC _ dv (W.frame _ _ _ st λb _ o e=>Od _ e) (Oj _ rfl) λv hp tk a1 a2 kp=>hQ v hp tk a1 a2 λb o b1 e=>kp b o b1 (Ou (Ym e)) (Od _ e)⟩
 cases hs:Manifest.signature? "max" with
 |none=>exact Yc go
 |some sig=>have ha:=args x dv;simp only[argsOk,hs]at ha;have h2:Bind.checkArgs "max" sig ⟨[x],[("default",dv)]⟩=pure ():=ha;show Yz _ A.in1 (Bind.checkArgs "max" sig ⟨[x],[("default",dv)]⟩) _ _ s;rw[h2];exact Yc go
end
end Mx
end L2
namespace L2
open PySem PySem.Spec PyProof.Rows
set_option tactic.hygienic false
noncomputable def Zda:List Int->Int->Int
 |[],d=>d
 |x::r,_=>r.foldl (λm y=>if y > m then y else m) x
theorem ZkT(ns:List Int):∀k,k<ns.length->(argBest (λi j=>Wr (ns.getD i 0 > ns.getD j 0)) k)<ns.length/\ns.getD (argBest (λi j=>Wr (ns.getD i 0 > ns.getD j 0)) k) 0=Zda (ns.take (k+1)) 0
 |0,h=>by
  cases ns with
  |nil=>simp at h
  |cons x r=>exact⟨by simp[argBest],by simp[argBest,Zda]⟩
 |k+1,h=>by
  obtain⟨h1,h2⟩:=ZkT ns k (by omega);have e:Zda (ns.take (k+1+1)) 0=if ns.getD (k+1) 0 > Zda (ns.take (k+1)) 0 then ns.getD (k+1) 0 else Zda (ns.take (k+1)) 0:=by
   cases ns with
   |nil=>simp at h
   |cons x r=>
    have hk:k<r.length:=by simpa using h
    show((r.take (k+1)).foldl _ x)=_;rw[List.take_succ_eq_append_getElem hk,List.foldl_append];simp only[Wi,List.foldl_nil];have:(x::r).getD (k+1) 0=r[k]:=by simp[List.getD_eq_getElem?_getD,Og hk]
    rw[this];rfl
  rw[e,<- h2];have ea:argBest (λi j=>Wr (ns.getD i 0 > ns.getD j 0)) (k+1)=if Wr (ns.getD (k+1) 0 > ns.getD (argBest (λi j=>Wr (ns.getD i 0 > ns.getD j 0)) k) 0)=Wp then k+1 else argBest (λi j=>Wr (ns.getD i 0 > ns.getD j 0)) k:=rfl;rw[ea];by_cases q:ns.getD (k+1) 0 > ns.getD (argBest (λi j=>Wr (ns.getD i 0 > ns.getD j 0)) k) 0
  . rw[if_pos (decide_eq_true q),if_pos q];exact⟨h,rfl⟩
  . rw[if_neg (by simpa using q),if_neg q];exact⟨h1,rfl⟩
section
variable {X:Cx}
def Zr3(hc:X.calm=Wp)(I:Inv X pins Z H s)(hx:SqL X.K H a (ns.map V.int))(q:Q (.int (Zda ns d)) H):
 Yz (model X.prog X.w) X.A (PySem.call (.builtin "max") [.ref a] [("default",.int d t)]) (EP X pins Z Q) X.xe s:=by
 obtain⟨its,rv,pl,hz⟩:=I.list hx;have hlt:a<s.heap.objs.size:=by obtain⟨_,_,e,_⟩:=pl;exact Ym e
 have hl:its.length=ns.length:=by have:=rv.length;rw[Ys]at this;exact this.symm
 have val:∀{i:Nat}{v:Yj},its.toArray[i]? = Wn v->i<ns.length/\∃t,v=.int (ns.getD i 0) t:=λ{i v} hv=>by
  have hv':its[i]? = Wn v:=by simpa using hv
  have hi:i<ns.length:=by rw[<- hl];exact(Ob.mp hv').1
  have hb:(ns.map V.int)[i]? = Wn (.int ns[i]):=by rw[On,Og hi]<;>rfl
  obtain⟨u',e',r'⟩:=rv.get hb;rw[hv']at e';cases e';obtain⟨t,rfl⟩:=r';exact⟨hi,t,by simp[List.getD_eq_getElem?_getD,Og hi]⟩
 refine Mx.call (wpAny_pyIter_list pl.isList ?_);refine⟨s.heap.objs.size,_,_,_,_,_,λi j=>Wr (ns.getD i 0 > ns.getD j 0),rfl,Walks.list (A:=X.A.in1) (show X.A.in1.handled=Wo from I.ok.hd hc) s.heap.objs.size a (Ou hlt) its.toArray,⟨⟨_,Oj _ rfl,rfl,rfl⟩,pl.isList.push _⟩,?_,?_,λv hp tk a1 a2 kp=>?_⟩
 . intro b hb;have hp1:b<s.heap.objs.size+1:=by
    simp at hb;rcases hb with rfl|rfl
    . exact OH _
    . exact Nat.lt_succ_of_lt hlt
   simpa[Heap.push]using hp1
 . exact CmpOf.ints_gt (λi=>ns.getD i 0) λi v hv=>(val hv).2
 . refine⟨.int (Zda ns d),H,I.kept λb o e=>kp b o (λz=>?_) (Od _ e),?_,q⟩
   . have:b=s.heap.objs.size:=by simpa using z
     subst this;exact absurd (Ym e) (Yu _)
   . have hsz:its.toArray.size=ns.length:=by rw[Of,hl]
     by_cases h0:ns=[]
     . subst h0;have:=a1 (by rw[hsz];rfl);subst this;exact⟨t,rfl⟩
     . have hp0:0<ns.length:=List.length_pos_iff.mpr h0;obtain⟨_,t3,ev⟩:=val (a2 (by rw[hsz];exact hp0));refine⟨t3,?_⟩;rw[ev,hsz,(ZkT ns (ns.length - 1) (by omega)).2,List.take_of_length_le (by omega)];cases ns with
       |nil=>exact absurd rfl h0
       |cons x r=>rfl
def ZyU(K:Yk)(ta tb:TE):TE:=λZ H Q=>ta Z H λv H1=>tb Z H1 λu H2=>∃a ns d,v=.ref a/\u=.int d/\SqL K H2 a (ns.map V.int)/\Q (.int (Zda ns d)) H2
def ZtR(hg:Gl X "max")(hm:X.mg "max" = Wo)(hc:X.calm=Wp)(ha:PE X x ta)(hb:PE X y tb)(he:Yy [x] X.env=[(Wq,eval x X.env)]):
 PE X (.Call (.Name "max" p) [x] [⟨Wn "default",y,kp⟩] pos) (ZyU X.K ta tb):=by
 intro pins s Z H Q I h;refine YV (Zdc I hg hm boot_max ?_);refine PyProof.Rows.callWith_kw ?_ (by rw[he];rfl) (by rw[he];rfl);rw[he];refine Calls.spliced_cons (thn (ha pins s Z H _ I h) λv s1 ⟨vv,H1,I1,r1,q1⟩=>Calls.spliced_nil ?_);refine kws_cons (thn (hb pins s1 Z H1 _ I1 q1) λu s2 ⟨uu,H2,I2,r2,q2⟩=>kws_nil ?_);obtain⟨a,ns,d,rfl,rfl,hq,q⟩:=q2;cases r1;obtain⟨t,rfl⟩:=r2;exact Zr3 hc I2 hq q
end
end L2
namespace L2
open PySem PySem.Spec PyProof PyProof.Rows PySem.AutoSeq1
set_option maxRecDepth 8000 in
def ZnM(l:Yi)(items:Array Yj)(n:Nat)(b:Yi)(items2:Array Yj)(n2:Nat)(od:Option Yi)(sl:Array (Option Yj))(hs0:¬(!items.isEmpty&&Wh (items.size+items2.size))=Wp)(hs1:items.size<=sizeLine)(hs2:items.size+items2.size<=sizeLine+1):
 Meets (Builtin.«list.extend» ⟨[.ref l,.ref b],[]⟩) (λ_ R s=>s.heap.get? l=Wn {cls:=.type "list",dict:=Wo,data:=.seq items n,slots:=#[]}/\s.heap.get? b=Wn {cls:=.type "tuple",dict:=od,data:=.seq items2 n2,slots:=sl}/\R (.ok (.ret Value.none)) {s with heap:=s.heap.update l (Obj.mapSeq λx=>x++items2),toks:=s.toks}):=
 .of_wp λprog w A R s h=>by
  obtain⟨hp,g,d,tk,os⟩:=s;obtain⟨hl,hb,h⟩:=h;have f1:=idx_int;have f2:=AutoSeq1.sub_tuple_tuple;have f3:=AutoSeq1.sub_list_list;have f4:=AutoSeq1.sub_tuple_list;have f5:=AutoSeq1.sub_list_tuple;have hz':(items++items2).size<=sizeLine+1:=by rw[Array.size_append];exact hs2
  wp_walk using (wpAny_updateSeq hl rfl (hz:=hs1) (_hz':=hz')),wpAny_loadPart' hl,wpAny_loadPart' hb;exact⟨_,rfl,h⟩
section
variable {X:Cx}
def Zrn(K:Yk):V->List V->Hp->VK->Prop:=λx vs H Q=>∃l b xs zs,x=.ref l/\vs=[.ref b]/\H l=Wn (.lst xs)/\SqT K H b zs/\xs.length+zs.length<=sizeLine/\Q .non (upd H l (.lst (xs++zs)))
def Znz:MtM X "list.extend" (Zrn X.K):=by
 intro pins s Z H x vs v us Q I rx rv h;obtain⟨l,b,xs,zs,rfl,rfl,hH,hB,hz,q⟩:=h;cases rx;obtain⟨u,rfl,ru⟩:=rv.one;cases ru;obtain⟨z,its,n,r,hl,e⟩:=I.lstM hH;obtain⟨its2,r2,⟨o,e2,oc,n2,od⟩,z2⟩:=I.tuple hB;obtain⟨cls,dc,dat,sl⟩:=o;simp only at oc od;subst oc;subst od;have hl2:=r2.length;have hsz:its.toArray.size+its2.toArray.size<=sizeLine:=by rw[Of,Of];lia
 have hlong:¬ (!its.toArray.isEmpty&&Wh (its.toArray.size+its2.toArray.size))=Wp:=by rw[ZiL hsz,Bool.and_false];exact Ow
 refine call_meets F.slot_list_extend ⟨_,e,rfl⟩ F.entry_list_extend (F.args_list_extend_2 _ _)
  (ZnM l its.toArray n b its2.toArray n2 dc sl hlong (by rw[Of];lia) (by lia)) ⟨e,e2,?_⟩
 refine⟨.non,_,I.lset (its':=its++its2) hH e (by simp) (r.append r2) ?_,rfl,q⟩;rw[OA]
 lia
end
end L2
namespace L2
open PySem PySem.Spec PyProof.Rows
noncomputable def Zym(K:Yk)(a:Yi)(n:Nat):It:=⟨λi H=>∃xs x,SqL K H a xs/\xs.length=n/\xs.reverse[i]? = Wn x,λi H x H'=>H'=H/\∀xs,SqL K H a xs->xs.reverse[i]? = Wn x,λi H=>∃xs,SqL K H a xs/\xs.length=n/\n=i⟩
def ZpH{P:Yh}{w:Yg}{K:Yk}{tg:Expr}(a it:Yi)(n:Nat):Turn P w K tg (Zym K a n) [it] it (λi h=>i<=n/\h.IsRevIter it a ((n:Int) - 1 - i)) where
 mem:=by simp
 obj:=λi h st b hb=>by
  have e:b=it:=by simpa using hb
  subst e;obtain⟨_,o,e,c,d⟩:=st;exact⟨o,e,λv z=>by rw[d]at z;cases z⟩
 keep:=λi h h' st k=>⟨st.1,st.2.at λo e=>k it (by simp) o e⟩
 item:=by
  intro X hP hw hK hc i pins s Z H E I hf st hg;subst hP hw hK;obtain⟨hin,st⟩:=st;obtain⟨xs,x,hq,hxn,hx⟩:=hg;obtain⟨its,rv,p,hz⟩:=I.list hq;have hl:=rv.length;have hi:i<xs.length:=by have:=(Ob.mp hx).1;simpa using this
  have hx':xs[n - 1 - i]? = Wn x:=by rw[List.getElem?_reverse hi]at hx;rw[<- hxn];exact hx
  obtain⟨u,hu,ru⟩:=rv.get hx';obtain⟨f0,f1,f2,f3,f4,f5⟩:=hf it (by simp);have e1:(n:Int) - 1 - (i:Nat)=((n - 1 - i:Nat):Int):=by lia
  rw[e1]at st;refine wpAny_pyNext_rev_item st p.isList (x:=u) (by simpa using hu) λh' st' sb=>?_;have I1:Inv X pins Z H {s with heap:=h'}:=I.turned (t':=s.toks) (λb o hb e=>(sb.2 b hb).trans e) f0 f1 f3 f4 f5;obtain⟨o,e,c,d⟩:=id st';have e2:((n - 1 - i:Nat):Int) - 1=(n:Int) - 1 - ((i+1:Nat):Int):=by lia
  exact⟨u,rfl,Zmz (s:={s with heap:=h'}) e c d (by decide) ⟨x,H,I1,ru,⟨rfl,λys hy=>by rw[I.list_inj hy hq];exact hx⟩,⟨by lia,by rw[<- e2];exact st'⟩,λb hb=>(hf b hb).1⟩⟩
 done:=by intro X hP hw hK hc i pins s Z H E I hf st hg;subst hP hw hK;obtain⟨xs,hq,hxn,hx⟩:=hg;obtain⟨f0,f1,f2,f3,f4,f5⟩:=hf it (by simp);have st1:=st.2;rw[show(n:Int) - 1 - (i:Nat)=-1 by lia]at st1;exact wpAny_pyNext_rev_end (I.ok.hd hc) st1 λh' eb=>⟨rfl,I.turned (t':=s.toks) (λb o hb e=>eb b o hb e) f0 f1 f3 f4 f5⟩
 self:=λ_ _ _ _ _ st h=>wpAny_pyIter_revIter st.2 h
def Zz2(K:Yk)(ta:TA):TI:=λZ H R=>ta Z H λvs H1=>∃a xs,vs=[.ref a]/\((SqT K H1 a xs/\R (Itv K a xs.length) H1)\/(SqL K H1 a xs/\R (Zym K a xs.length) H1))
def ZtO{X:Cx}{tg l:Expr}{ta:TA}{p pos:Pos}(hg:Gl X "reversed")(hm:X.mg "reversed" = Wo)(ha:PA X [l] ta)(hs:Yy [l] X.env=[(Wq,eval l X.env)]:=by rfl):
 PI X tg (.Call (.Name "reversed" p) [l] [] pos) (Zz2 X.K ta):=by
 intro pins s Z H R I h;refine Call_ (Zdc I hg hm boot_reversed (PyProof.Rows.callWith_type1 (thn (ha pos pins s Z H _ I h) λus s1 ⟨vs,H1,I1,r1,q1⟩=>?_) hs rfl));obtain⟨a,xs,rfl,q⟩:=q1;obtain⟨u,rfl,ru⟩:=vals1 r1;obtain rfl:u=YB a:=ru;rcases q with ⟨hq,q⟩|⟨hq,q⟩
 . obtain⟨its,rv,pl,hz⟩:=I1.tuple hq;have hl:=rv.length;refine Rv.call pl (by simp;lia) ?_;have e1:((its.toArray.size:Nat):Int) - 1=(xs.length:Int) - 1 - ((0:Nat):Int):=by simp;lia
   have st:Rv.Is (s1.heap.push (Rv.obj a (((its.toArray.size:Nat):Int) - 1))) s1.heap.objs.size a ((xs.length:Int) - 1 - ((0:Nat):Int)):=⟨_,Oj _ rfl,rfl,by rw[<- e1];rfl⟩
   refine Rv.ZkG st ?_;refine⟨s1.heap.objs.size,[s1.heap.objs.size],_,_,H1,rfl,I1.kept (t':=s1.toks+1+1) λb o e=>Od _ e,ZqK a _ xs.length,⟨Yv _,st⟩,λb hb=>?_,q⟩;have e:b=s1.heap.objs.size:=by simpa using hb
   subst e;exact I1.fpOk (Oq _) (I1.hok.fresh (Oq _))
 . obtain⟨its,rv,pl,hz⟩:=I1.list hq;have hl:=rv.length;refine call_reversed_list pl.isList ?_;have e1:((its.toArray.size:Nat):Int) - 1=(xs.length:Int) - 1 - ((0:Nat):Int):=by simp;lia
   have st:(s1.heap.push (revObj a (((its.toArray.size:Nat):Int) - 1))).IsRevIter s1.heap.objs.size a ((xs.length:Int) - 1 - ((0:Nat):Int)):=⟨_,Oj _ rfl,rfl,by rw[<- e1];rfl⟩
   refine wpAny_pyIter_revIter st ?_;refine⟨s1.heap.objs.size,[s1.heap.objs.size],_,_,H1,rfl,I1.kept (t':=s1.toks) λb o e=>Od _ e,ZpH a _ xs.length,⟨Yv _,st⟩,λb hb=>?_,q⟩;have e:b=s1.heap.objs.size:=by simpa using hb
   subst e;exact I1.fpOk (Oq _) (I1.hok.fresh (Oq _))
namespace Tx
noncomputable def place(x:Str):List Str->Option Nat
 |[]=>Wo
 |y::r=>if y=x then Wn 0 else(place x r).map (·+1)
end Tx
noncomputable def Zir(K:Yk):Bool:=K.all λp=>!Wr (p.2.cls=.type "tuple") || p.2.dict.isNone
end L2
namespace L2
open PySem PySem.Spec PyProof.Rows
open PySem.AutoSeq1 (wpAny_loadPart')
namespace En1
section
variable {prog:Yh}{w:Yg}{A:YF}{E:Yj->Yb->Prop}{s:Yb}
def Zn6(st:s.heap.IsTupleIter J T k)(tt:s.heap.IsTuple T us)(hy:us[k]? = Wn y)
 (q:∀h1,h1.IsTupleIter J T (k+1)->Heap.SameBut J s.heap h1->Q y {s with heap:=h1}):Yz (model prog w) A (Builtin.SmallTypes.nextOf (.ref J)) Q E s:=by
 obtain⟨ob,g1,g2,g3⟩:=id st;obtain⟨ot,g4,_,m,g5⟩:=tt;unfold Builtin.SmallTypes.nextOf;refine Ya (YX (name:=O "__next__") st.typeIs F.slot_tuple_iterator_next (Wb F.slot_tuple_iterator_next st.typeIs F.entry_tuple_iterator_next ?g (F.args_tuple_iterator_next_1 _)))
 case g=>show Yz _ _ (field (.ref J) 0 >>= _) _ _ s;refine Ya (YO g1 g3 (x:=.ref T) rfl ?_);show Yz _ _ (if (YB T==Value.none)=Wp then _ else _) _ _ s;rw[if_neg (show ¬ ((YB T==Value.none)=Wp)from Ow)];show Yz _ _ (field (.ref J) 1 >>= _) _ _ s;refine Ya (YO g1 g3 (x:=.int k 0) rfl ?_);show Yz _ _ (seqItems? (.ref T) >>= _) _ _ s;refine Ya (wpAny_seqItems g4 g5 ?_);simp only[Int.toNat_natCast,hy];refine Ya (wpAny_setField g1 g3 (by simp) (Yc ⟨y,rfl,Yc (q _ ?_ (Heap.SameBut.update ..))⟩));exact⟨_,YU _ g1 (Obj.isFreed_of_fields (YW g3 _)),(Obj.cls_mapFields ..).trans g2,by rw[YW g3];simp[rawInt]⟩
def Zwq(calm:A.handled=Wo)(st:s.heap.IsTupleIter J T k)(tt:s.heap.IsTuple T us)(hy:us[k]? = Wo)
 (q:∀h1 x,Heap.ExtBut J s.heap h1->(∃ob,h1.get? x=Wn ob/\ob.cls=.type "StopIteration")->E (.ref x) {s with heap:=h1}):Yz (model prog w) A (Builtin.SmallTypes.nextOf (.ref J)) Q E s:=by
 obtain⟨ob,g1,g2,g3⟩:=id st;obtain⟨ot,g4,_,m,g5⟩:=tt;unfold Builtin.SmallTypes.nextOf;refine Ya (YX (name:=O "__next__") st.typeIs F.slot_tuple_iterator_next (Wb F.slot_tuple_iterator_next st.typeIs F.entry_tuple_iterator_next ?g (F.args_tuple_iterator_next_1 _)))
 case g=>
  show Yz _ _ (field (.ref J) 0 >>= _) _ _ s;refine Ya (YO g1 g3 (x:=.ref T) rfl ?_);show Yz _ _ (if (YB T==Value.none)=Wp then _ else _) _ _ s;rw[if_neg (show ¬ ((YB T==Value.none)=Wp)from Ow)];show Yz _ _ (field (.ref J) 1 >>= _) _ _ s;refine Ya (YO g1 g3 (x:=.int k 0) rfl ?_);show Yz _ _ (seqItems? (.ref T) >>= _) _ _ s;refine Ya (wpAny_seqItems g4 g5 ?_);simp only[Int.toNat_natCast,hy];refine Ya (wpAny_rule (Ya (wpAny_setField g1 g3 (by simp) ?_)));show Yz _ _ (newExc (.type "StopIteration") [] >>= _) _ _ _;refine Ya ?_;simp only[newExc,newTuple];refine Ya (Yp ?_ (by size_fits));refine Ya (m:=firstArgMember _ _) (Wg (a:=Value.none) (by first|rfl|(simp only[firstArgMember];rfl)) ?_);refine Yp ?_ (by size_fits);simp only[raiseNew];refine Ya (wpAny_handled ?_)
  first|rw[show A.in1.handled=Wo from calm]|rw[calm]
  exact Ya (Yc (wpAny_throw (q _ _ (((Heap.SameBut.update ..).extBut.push _).push _) ⟨_,Oj _ rfl,rfl⟩)))
end
end En1
end L2
namespace L2
open PySem PySem.Spec PyProof.Rows
noncomputable def ZA3(d:PyData):Bool:=isDisplay d&&(PyData.showable d&&(PyData.intsShort 13 d&&(Wr (PyData.weight d<=2 ^ 20)&&Wr (PyData.depth d<=1000))))
structure XAs(K:Yk)(a b:Yi):Prop extends ExcN K a where
 sub:YT K (.ref b) (.ref a)=Wn Wp
 at':ExcA K b
 one:PySem.W.kitOne K (.ref b) (.ref b)=Wn Wp
namespace Zp
structure ZS(n a b i:Nat)(f0:Yj)(h:YE):Prop where
 zip:IsZip h (n+4) (n+2) (n+3) f0
 ti:IsPair h (n+2) (.ref n) (.ref (n+1))
 to:∃c d,IsPair h (n+3) c d
 i1:h.IsTupleIter n a i
 i2:h.IsTupleIter (n+1) b i
abbrev Kps(n:Nat)(h h':YE):Prop:=∀c o,c≠n+4->c≠n+3->c≠n->c≠n+1->h.get? c=Wn o->h'.get? c=Wn o
section
variable {prog:Yh}{w:Yg}{A:YF}{E:Yj->Yb->Prop}{s:Yb}{n a b i:Nat}{us vs:Array Yj}{x y:Yj}{Q:Yj->Yb->Prop}
theorem IsPair.sb{h h':YE}{c t:Yi}{p q:Yj}(e:IsPair h t p q)(sb:Heap.SameBut c h h')(ne:t≠c):IsPair h' t p q:=sb.extBut _ _ ne e
def body(ha:a<n)(hb:b<n)(z:ZS n a b i .none s.heap)(ta:s.heap.IsTuple a us)(tb:s.heap.IsTuple b vs)(hx:us[i]? = Wn x)(hy:vs[i]? = Wn y)
 (q:∀h',ZS n a b (i+1) (rawInt s.heap.objs.size) h'->IsPair h' s.heap.objs.size x y->Kps n s.heap h'->Q (.ref s.heap.objs.size) {s with heap:=h'}) :
 Yz (model prog w) A (Builtin.«zip.__next__» ⟨[.ref (n+4)],[]⟩) (λf s'=>∃v,f=.done (.ret v)/\Q v s') E s:=by
 obtain⟨z0,z1,⟨c,d,z2⟩,z3,z4⟩:=z;have na:a≠n/\a≠n+1/\a≠n+3/\a≠n+4:=by lia
 have nb:b≠n/\b≠n+1/\b≠n+3/\b≠n+4:=by lia
 have ne:∀{j k:Nat},j≠k->n+j≠n+k:=λe z=>e (by lia);have n0:∀{k:Nat},0<k->n≠n+k:=λe z=>by lia
 have n0':∀{k:Nat},0<k->n+k≠n:=λe z=>by lia
 show Yz _ _ (field (.ref (n+4)) 2 >>= _) _ _ _;refine Ya (YO z0 rfl (x:=.bool Wq) rfl ?_);show Yz _ _ (field (.ref (n+4)) 3 >>= _) _ _ _;refine Ya (YO z0 rfl (x:=.ref (n+2)) rfl (Ya (wpAny_seqItems z1 rfl ?_)));show Yz _ _ (Builtin.SmallTypes.ownedTupleIsFree (.ref (n+4)) >>= _) _ _ _;refine Ya ?_;unfold Builtin.SmallTypes.ownedTupleIsFree;refine Ya (YO z0 rfl (x:=.none) rfl (Yc ?_));simp only[if_true];refine Ya (wpAny_rule (Ya (YO z0 rfl (x:=.ref (n+3)) rfl (Ya (wpAny_setField_rec z0 (by simp) λh1 y0 s1=>?_)))))
 replace y0:IsZip h1 (n+4) (n+2) (n+3) .ellipsis:=y0
 refine Ya ?_;simp only[List.zipIdx_cons,List.zipIdx_nil,List.forIn_cons,List.forIn_nil];refine Ya (Ya (wpAny_onRaise ?_));show Yz _ _ (Builtin.SmallTypes.nextOf (.ref n) >>= _) _ _ _;refine Ya (En1.Zn6 (z3.at λo e=>s1.extBut _ _ (n0 (by decide)) e) (ta.extBut s1.extBut na.2.2.2) hx λh2 k1 s2=>Yc ?_);have p2:IsPair h2 (n+3) c d:=IsPair.sb (IsPair.sb z2 s1 (ne (by decide))) s2 (n0' (by decide));refine Ya (wpAny_seqItems p2 rfl (Ya (wpAny_updateSeq_pair p2 λh3 p3 s3=>?_)))
 replace p3:IsPair h3 (n+3) x d:=p3
 refine Ya (wpAny_letGo (Yc (Ya (Ya (wpAny_onRaise ?_)))));show Yz _ _ (Builtin.SmallTypes.nextOf (.ref (n+1)) >>= _) _ _ _;have u3:∀c o,c≠n+4->c≠n->c≠n+3->s.heap.get? c=Wn o->h3.get? c=Wn o:=λc o c1 c2 c3 e=>s3.extBut _ _ c3 (s2.extBut _ _ c2 (s1.extBut _ _ c1 e));refine Ya (En1.Zn6 (z4.at λo e=>u3 _ o (ne (by decide)) (n0' (by decide)) (ne (by decide)) e) (tb.at λo e=>u3 _ o nb.2.2.2 nb.1 nb.2.2.1 e) hy λh4 k2 s4=>Yc ?_);have p4:IsPair h4 (n+3) x d:=IsPair.sb p3 s4 (ne (by decide));refine Ya (wpAny_seqItems p4 rfl (Ya (wpAny_updateSeq_pair p4 λh5 p5 s5=>?_)))
 replace p5:IsPair h5 (n+3) x y:=p5
 refine Ya (wpAny_letGo (Yc (Yc (Ya (wpAny_seqItems p5 rfl (Ya (wpAny_newTuple ?_)))))));have sz:h5.objs.size=s.heap.objs.size:=by rw[s5.1,s4.1,s3.1,s2.1,s1.1]
 have u5:Kps n s.heap h5:=λc o c1 c2 c3 c4 e=>s5.extBut _ _ c2 (s4.extBut _ _ c4 (u3 c o c1 c3 c2 e));have y5:IsZip h5 (n+4) (n+2) (n+3) .ellipsis:=s5.extBut _ _ (ne (by decide)) (s4.extBut _ _ (ne (by decide)) (s3.extBut _ _ (ne (by decide)) (s2.extBut _ _ (n0' (by decide)) y0)));have l5:n+4<h5.objs.size:=Ym y5;show Yz _ _ (Builtin.SmallTypes.ownedTupleHandOut (.ref (n+4)) (.ref h5.objs.size) >>= _) _ _ _;refine Ya ?_;unfold Builtin.SmallTypes.ownedTupleHandOut;have y6:IsZip (h5.push {cls:=.type "tuple",data:=.seq #[x,y]}) (n+4) (n+2) (n+3) .ellipsis:=Od _ y5;refine Ya (wpAny_setField_rec y6 (by simp) λh7 y7 s7=>?_)
 replace y7:IsZip h7 (n+4) (n+2) (n+3) (rawInt h5.objs.size):=y7
 refine wpAny_setField_rec y7 (by simp) λh8 y8 s8=>Yc ⟨_,rfl,?_⟩
 replace y8:IsZip h8 (n+4) (n+2) (n+3) (rawInt h5.objs.size):=y8
 have up:∀c o,c≠n+4->h5.get? c=Wn o->h8.get? c=Wn o:=λc o c1 e=>s8.extBut _ _ c1 (s7.extBut _ _ c1 (Od _ e));have t8:IsPair h8 h5.objs.size x y:=s8.extBut _ _ (Nat.ne_of_gt l5) (s7.extBut _ _ (Nat.ne_of_gt l5) (Oj _ rfl));show Q (.ref h5.objs.size) _;rw[sz]at y8 t8 ⊢;refine q h8 ⟨y8,up _ _ (ne (by decide)) (u5 _ _ (ne (by decide)) (ne (by decide)) (n0' (by decide)) (ne (by decide)) z1),⟨x,y,up _ _ (ne (by decide)) p5⟩,k1.at λo e=>up _ o (n0 (by decide)) (s5.extBut _ _ (n0 (by decide)) (s4.extBut _ _ (n0 (by decide)) (s3.extBut _ _ (n0 (by decide)) e))),k2.at λo e=>up _ o (ne (by decide)) (s5.extBut _ _ (ne (by decide)) e)⟩ t8 λc o c1 c2 c3 c4 e=>up c o c1 (u5 c o c1 c2 c3 c4 e)
def fin(hh:A.handled=Wo)(ha:a<n)(z:ZS n a b i .none s.heap)(ta:s.heap.IsTuple a us)(hx:us[i]? = Wo){Q:Fin->Yb->Prop}
 (q:∀h' e,Kps n s.heap h'->(∃o,h'.get? e=Wn o/\o.cls=.type "StopIteration")->E (.ref e) {s with heap:=h'}) :
 Yz (model prog w) A (Builtin.«zip.__next__» ⟨[.ref (n+4)],[]⟩) Q E s:=by
 obtain⟨z0,z1,⟨c,d,z2⟩,z3,z4⟩:=z;show Yz _ _ (field (.ref (n+4)) 2 >>= _) _ _ _;refine Ya (YO z0 rfl (x:=.bool Wq) rfl ?_);show Yz _ _ (field (.ref (n+4)) 3 >>= _) _ _ _;refine Ya (YO z0 rfl (x:=.ref (n+2)) rfl (Ya (wpAny_seqItems z1 rfl ?_)));show Yz _ _ (Builtin.SmallTypes.ownedTupleIsFree (.ref (n+4)) >>= _) _ _ _;refine Ya ?_;unfold Builtin.SmallTypes.ownedTupleIsFree;refine Ya (YO z0 rfl (x:=.none) rfl (Yc ?_));simp only[if_true];refine Ya (wpAny_rule (Ya (YO z0 rfl (x:=.ref (n+3)) rfl (Ya (wpAny_setField_rec z0 (by simp) λh1 y0 s1=>?_)))))
 replace y0:IsZip h1 (n+4) (n+2) (n+3) .ellipsis:=y0
 refine Ya ?_;simp only[List.zipIdx_cons,List.zipIdx_nil,List.forIn_cons,List.forIn_nil];refine Ya (Ya (wpAny_onRaise ?_));show Yz _ _ (Builtin.SmallTypes.nextOf (.ref n) >>= _) _ _ _;refine Ya (En1.Zwq hh (z3.at λo e=>s1.extBut _ _ (by lia) e) (ta.extBut s1.extBut (by lia)) hx λh2 e s2 he=>?_);obtain⟨oe,e1,e2⟩:=he;have y2:IsZip h2 (n+4) (n+2) (n+3) .ellipsis:=s2 _ _ (by lia) y0;have ne:e≠n+4:=λx=>by subst x;rw[y2]at e1;cases e1;simp at e2
 exact wpAny_setField_rec y2 (by simp) λh3 _ s3=>q h3 e (λc o c1 _ c3 _ x=>s3.extBut _ _ c1 (s2 _ _ c3 (s1.extBut _ _ c1 x))) ⟨oe,s3.extBut _ _ ne e1,e2⟩
def next{Q:Option Yj->Yb->Prop}(ha:a<n)(hb:b<n)(z:ZS n a b i .none s.heap)(ta:s.heap.IsTuple a us)(tb:s.heap.IsTuple b vs)(hx:us[i]? = Wn x)(hy:vs[i]? = Wn y)
 (q:∀h',ZS n a b (i+1) (rawInt s.heap.objs.size) h'->IsPair h' s.heap.objs.size x y->Kps n s.heap h'->Q (Wn (.ref s.heap.objs.size)) {s with heap:=h'}):Yz (model prog w) A (pyNext (.ref (n+4))) Q E s:=by
 have ty:s.TypeIs (.ref (n+4)) "zip" := ⟨_,z.zip,rfl⟩
 unfold pyNext;exact Ya (wpAny_attempt (YX (name:=O "__next__") ty F.slot_zip_next (Wb F.slot_zip_next ty F.entry_zip_next (body ha hb z ta tb hx hy λh' a1 a2 a3=>Yc (q h' a1 a2 a3)) (F.args_zip_next_1 _))))
def stop{Q:Option Yj->Yb->Prop}(hh:A.handled=Wo)(ha:a<n)(z:ZS n a b i .none s.heap)(ta:s.heap.IsTuple a us)(hx:us[i]? = Wo)(q:∀h',Kps n s.heap h'->Q Wo {s with heap:=h'}):Yz (model prog w) A (pyNext (.ref (n+4))) Q E s:=by
 have ty:s.TypeIs (.ref (n+4)) "zip" := ⟨_,z.zip,rfl⟩
 unfold pyNext;refine Ya (wpAny_attempt (YX (name:=O "__next__") ty F.slot_zip_next (Wb F.slot_zip_next ty F.entry_zip_next (fin (show A.in1.handled=Wo from hh) ha z ta hx λh' e hk he=>?_) (F.args_zip_next_1 _))));obtain⟨o,h1,h2⟩:=he;exact Ya (wpAny_isInstance (T := "StopIteration") (b:=true) ⟨o,h1,h2⟩ isSubtype_stop (Yc (q _ hk)))
noncomputable abbrev ob(T:Yi):Obj:={cls:=.type "tuple_iterator",data:=.fields #[.ref T,.int 0 0]}
noncomputable abbrev tp(x y:Yj):Obj:={cls:=.type "tuple",data:=.seq #[x,y]}
abbrev hN(h:YE)(a b:Yi):YE:=((((h.push (ob a)).push (ob b)).push (tp (.ref h.objs.size) (.ref (h.push (ob a)).objs.size))).push (tp .none .none))
abbrev zo(h:YE)(a b:Yi):Obj:={cls:=.type "zip",data:=.fields #[.none,.bool Wq,.bool Wq,.ref ((h.push (ob a)).push (ob b)).objs.size,.ref (((h.push (ob a)).push (ob b)).push (tp (.ref h.objs.size) (.ref (h.push (ob a)).objs.size))).objs.size]}
def nw(a b:Yi)(us vs:Array Yj):Meets (Builtin.«zip.__new__» ⟨[.type "zip",.ref a,.ref b],[]⟩) (λ_ R s=>s.heap.IsTuple a us/\s.heap.IsTuple b vs/\R (.ok (.ret (.ref (hN s.heap a b).objs.size))) {s with heap:=(hN s.heap a b).push (zo s.heap a b)}):=
 .of_wp λprog w A R s h=>by
  obtain⟨hp,g,d,tk,os⟩:=s;obtain⟨ta,tb,h⟩:=h;have hsub:=sub_zip;have t1:Heap.IsTuple (Shared.heap ⟨hp,g,d,tk,os⟩) a us:=ta;have t2:Heap.IsTuple (Shared.heap ⟨hp.push (ob a),g,d,tk,os⟩) b vs:=tb.at λo e=>Od _ e
  wp_walk using wpAny_pyIter_tuple t1,wpAny_pyIter_tuple t2
  exact⟨_,rfl,h⟩
def mk(ta:s.heap.IsTuple a us)(tb:s.heap.IsTuple b vs)(q:∀h',ZS s.heap.objs.size a b 0 .none h'->(∀c o,s.heap.get? c=Wn o->h'.get? c=Wn o)->Q (.ref (s.heap.objs.size+4)) {s with heap:=h'}):
 Yz (model prog w) A (call (.type "zip") [.ref a,.ref b]) Q E s:=by
 refine callType_new F.called_zip (by decide) (F.typeCall_zip_2 _ _) (F.newCall_zip_2 _ _) (λobj=>F.args_object_init_3 obj _ _) F.entry_zip_new (nw a b us vs) ⟨ta,tb,?_⟩;have e1:(s.heap.push (ob a)).objs.size=s.heap.objs.size+1:=Heap.size_push ..;have e2:((s.heap.push (ob a)).push (ob b)).objs.size=s.heap.objs.size+2:=by rw[Heap.size_push,e1]
 have e3:(((s.heap.push (ob a)).push (ob b)).push (tp (.ref s.heap.objs.size) (.ref (s.heap.push (ob a)).objs.size))).objs.size=s.heap.objs.size+3:=by rw[Heap.size_push,e2]
 have e4:(hN s.heap a b).objs.size=s.heap.objs.size+4:=by rw[Heap.size_push,e3]
 have up:∀{h:YE}{o o':Obj}{c:Yi},h.get? c=Wn o->(h.push o').get? c=Wn o:=λe=>Od _ e;have g5:((hN s.heap a b).push (zo s.heap a b)).get? (hN s.heap a b).objs.size=Wn (zo s.heap a b):=Oj _ rfl;have g4:((hN s.heap a b).push (zo s.heap a b)).get? _=Wn (tp .none .none):=up (Oj (((s.heap.push (ob a)).push (ob b)).push (tp (.ref s.heap.objs.size) (.ref (s.heap.push (ob a)).objs.size))) rfl);have g3:((hN s.heap a b).push (zo s.heap a b)).get? _=Wn (tp (.ref s.heap.objs.size) (.ref (s.heap.push (ob a)).objs.size)):=up (up (Oj ((s.heap.push (ob a)).push (ob b)) rfl));have g2:((hN s.heap a b).push (zo s.heap a b)).get? _=Wn (ob b):=up (up (up (Oj (s.heap.push (ob a)) rfl)));have g1:((hN s.heap a b).push (zo s.heap a b)).get? s.heap.objs.size=Wn (ob a):=up (up (up (up (Oj s.heap rfl))));have kp:∀c o,s.heap.get? c=Wn o->((hN s.heap a b).push (zo s.heap a b)).get? c=Wn o:=λc o e=>up (up (up (up (up e))));generalize (hN s.heap a b).push (zo s.heap a b)=hh at *;show _/\_;rw[zo,e2,e3,e4]at g5;rw[e3]at g4;rw[e1,e2]at g3;rw[e1]at g2;rw[e4];exact⟨⟨_,g5,rfl⟩,q _ ⟨g5,g3,⟨_,_,g4⟩,⟨_,g1,rfl,rfl⟩,⟨_,g2,rfl,rfl⟩⟩ kp⟩
end
end Zp
def Itz(K:Yk)(a b:Yi):It:=⟨λi H=>∃xs ys x y,SqT K H a xs/\SqT K H b ys/\xs[i]? = Wn x/\ys[i]? = Wn y,λi H v H'=>∃p x y,v=.ref p/\H p=Wo/\(∀xs,SqT K H a xs->xs[i]? = Wn x)/\(∀ys,SqT K H b ys->ys[i]? = Wn y)/\H'=upd H p (.tup [x,y]),λi H=>∃xs,SqT K H a xs/\xs.length=i⟩
theorem ZqJ{P:Yh}{w:Yg}{K:Yk}{es:List Expr}{kk:Nat}{tp:Pos}{n a b:Yi}(ha:a<n)(hb:b<n):Turn P w K (.Tuple es kk tp) (Itz K a b) [n+4,n+3,n,n+1,n+2] (n+4) (fun i h=>Zp.ZS n a b i .none h) where
 mem:=by simp
 obj:=fun i h st c hc=>by
   obtain ⟨z0,z1,⟨_,_,z2⟩,⟨o3,z3,_,d3⟩,o4,z4,_,d4⟩:=st;simp only [O2,List.not_mem_nil,or_false] at hc;rcases hc with rfl|rfl|rfl|rfl|rfl
   . exact ⟨_,z0,nofun⟩
   . exact ⟨_,z2,nofun⟩
   . exact ⟨o3,z3,fun v z=>by rw [d3] at z;cases z⟩
   . exact ⟨o4,z4,fun v z=>by rw [d4] at z;cases z⟩
   . exact ⟨_,z1,nofun⟩
 keep:=fun i h h' st k=>by
   obtain ⟨z0,z1,⟨_,_,z2⟩,z3,z4⟩:=st;exact ⟨k _ (by simp) _ z0,k _ (by simp) _ z1,⟨_,_,k _ (by simp) _ z2⟩,z3.at fun o e=>k _ (by simp) o e,z4.at fun o e=>k _ (by simp) o e⟩
 item:=by
   intro X hP hw hK hc i pins s Z H E I hf st hg;subst hP hw hK;obtain ⟨xs,ys,x,y,hq,hr,hx,hy⟩:=hg;obtain ⟨its,rv,p,hz⟩:=I.tuple hq;obtain ⟨jts,rv',p',hz'⟩:=I.tuple hr;obtain ⟨u,hu,ru⟩:=rv.get hx;obtain ⟨v,hv,rw'⟩:=rv'.get hy;have l4:n+4<s.heap.objs.size:=Ym st.zip;refine Zp.next ha hb st p p' (by simpa using hu) (by simpa using hv) fun h1 z1 t1 k1=>⟨_,rfl,wpAny_letOwnedTupleGo_zip z1.zip fun h2 y2 s2=>?_⟩
   have nT:s.heap.objs.size ∉ [n+4,n+3,n,n+1,n+2]:=by simp only [O2,List.not_mem_nil,or_false];lia
   have tup2:Zbi h2 s.heap.objs.size #[u,v]:=⟨_,s2.extBut _ _ (by lia) t1,rfl,rfl,_,rfl⟩
   have I2:Inv X pins Z (upd H s.heap.objs.size (.tup [x,y])) {s with heap:=h2,toks:=s.toks}:=I.turnT hf (fun c o hc e=>by
     simp only [O2,List.not_mem_nil,or_false,not_or] at hc;exact s2.extBut _ _ hc.1 (k1 c o hc.1 hc.2.1 hc.2.2.1 hc.2.2.2.1 e)) (Oq _) (us:=[u,v]) tup2 (.cons ru (.cons rw' .nil)) (by show 2<=sizeLine;decide)
   obtain ⟨w0,w1,⟨c,d,w2⟩,w3,w4⟩:=z1;refine ⟨.ref s.heap.objs.size,_,I2,rfl,⟨_,x,y,rfl,I.hok.fresh (Oq _),fun zs hz=>by rw [I.tuple_inj hz hq];exact hx,fun zs hz=>by rw [I.tuple_inj hz hr];exact hy,rfl⟩,⟨y2,s2.extBut _ _ (by lia) w1,⟨c,d,s2.extBut _ _ (by lia) w2⟩,w3.at fun o e=>s2.extBut _ _ (by lia) e,w4.at fun o e=>s2.extBut _ _ (by lia) e⟩,fun c hc=>?_⟩;rw [Zy (fun z=>nT (by rw [<- z];exact hc))];exact (hf c hc).1
 done:=by
   intro X hP hw hK hc i pins s Z H E I hf st hg;subst hP hw hK;obtain ⟨xs,hq,hx⟩:=hg;obtain ⟨its,rv,p,hz⟩:=I.tuple hq;have hl:=rv.length;exact Zp.stop (I.ok.hd hc) ha st p (by simp;lia) fun h1 k1=>⟨rfl,I.turnL (t':=s.toks) hf fun c o hc e=>by
     simp only [O2,List.not_mem_nil,or_false,not_or] at hc;exact k1 c o hc.1 hc.2.1 hc.2.2.1 hc.2.2.2.1 e⟩
 self:=fun A i s Q E st h=>wpAny_pyIter_zip st.zip h
def ZBw(K:Yk)(ta:TA):TI:=λZ H R=>ta Z H λvs H1=>∃a b,vs=[.ref a,.ref b]/\(∃xs,SqT K H1 a xs)/\(∃ys,SqT K H1 b ys)/\R (Itz K a b) H1
def ZwT{X:Cx}{es:List Expr}{kk:Nat}{tp:Pos}{l m:Expr}{ta:TA}{p pos:Pos}(hg:Gl X "zip")(hm:X.mg "zip" = Wo)(ha:PA X [l,m] ta)(hs:Yy [l,m] X.env=[(Wq,eval l X.env),(Wq,eval m X.env)])(hs2:Yy [m] X.env=[(Wq,eval m X.env)]):
 PI X (.Tuple es kk tp) (.Call (.Name "zip" p) [l,m] [] pos) (ZBw X.K ta):=by
 intro pins s Z H R I h;refine Call_ (Zdc I hg hm boot_zip (PyProof.Rows.callWith_type1 (thn (ha pos pins s Z H _ I h) λus s1 ⟨vs,H1,I1,r1,q1⟩=>?_) (by rw[hs,hs2]) (by rw[hs2];rfl)));obtain⟨a,b,rfl,⟨xs,hq⟩,⟨ys,hr⟩,q⟩:=q1;obtain⟨u,v,rfl,ru,rv⟩:=vals2 r1;obtain rfl:u=YB a:=ru;obtain rfl:v=YB b:=rv;obtain⟨its,_,pt,_⟩:=I1.tuple hq;obtain⟨jts,_,pt',_⟩:=I1.tuple hr;have la:a<s1.heap.objs.size:=by obtain⟨_,z,_⟩:=pt;exact Ym z
 have lb:b<s1.heap.objs.size:=by obtain⟨_,z,_⟩:=pt';exact Ym z
 refine Zp.mk pt pt' λh1 z kp=>wpAny_pyIter_zip z.zip ⟨s1.heap.objs.size+4,_,_,_,H1,rfl,I1.kept (t':=s1.toks) kp,ZqJ la lb,z,λc hc=>?_,q⟩;have le:s1.heap.objs.size<=c:=by simp only[O2,List.not_mem_nil,or_false]at hc;lia
 exact I1.fpOk le (I1.hok.fresh le)
def ZY:List Nat->List (List Nat)
 |[]=>[[]]
 |c::r=>if c=32 then []::ZY r else match ZY r with
  |[]=>[[c]]
  |w::ws=>(c::w)::ws
noncomputable def Zb8:List (List Nat)->List Nat
 |[]=>[]
 |w::r=>match r with
  |[]=>w
  |_::_=>w++32::Zb8 r
theorem Zk0:∀{w:List Nat},32 ∉ w->ZY w=[w]
 |[],_=>rfl
 |c::r,h=>by have hc:c≠32:=λe=>h (e ▸ Oi);rw[ZY,if_neg hc,Zk0 λq=>h (Oh _ q)]
theorem Zod:∀{w:List Nat} (r:List Nat),32 ∉ w->ZY (w++32::r)=w::ZY r
 |[],r,_=>rfl
 |c::w,r,h=>by have hc:c≠32:=λe=>h (e ▸ Oi);rw[List.cons_append,ZY,if_neg hc,Zod r λq=>h (Oh _ q)]
theorem Zfp:∀{A:List (List Nat)},A≠[]->(∀w∈A,32 ∉ w)->ZY (Zb8 A)=A
 |[w],_,h=>Zk0 (h w (.head _))
 |w::v::r,_,h=>by show ZY (w++32::Zb8 (v::r))=_;rw[Zod _ (h w (.head _)),Zfp (by simp) λx hx=>h x (.tail _ hx)]
def Zne(l:List Nat):ZY l≠[]:=by
 cases l with
 |nil=>simp[ZY]
 |cons c r=>
  rw[ZY];split
  . simp
  . split<;>simp
noncomputable def tx(l:List Nat):Str:=⟨l.toArray⟩
def ZO(x:Str):List Str:=(ZY x.cps.toList).map tx
noncomputable def blk:Str:=O " "
def ZnR:blk=⟨#[32]⟩:=by decide +kernel
def ZE(ss:List Str):Str:=tx (Zb8 (ss.map (·.cps.toList)))
def Zgr(x:Str):tx x.cps.toList=x:=by show(⟨x.cps.toList.toArray⟩:Str)=x;simp
def ZbI(l:List Nat):(tx l).cps.toList=l:=by simp[tx]
theorem Zln:∀ss:List Str,(Str.join blk ss).cps.toList=Zb8 (ss.map (·.cps.toList))
 |[]=>by rfl
 |[x]=>by rfl
 |x::y::r=>by show(x++blk++Str.join blk (y::r)).cps.toList=x.cps.toList++32::Zb8 ((y::r).map (·.cps.toList));rw[<- Zln (y::r),ZnR];show((x.cps++#[32])++(Str.join ⟨#[32]⟩ (y::r)).cps).toList=_;simp
def Zuw(ss:List Str):Txt.join blk ss=ZE ss:=by show Builtin.Str.glued blk ss=_;rw[StrLaws.glued_eq_join,<- Zgr (Str.join blk ss),Zln];rfl
open Builtin Builtin.Str in
theorem Zlb(x:Str)(c:Nat):∀ (n a:Nat) (st:Array Nat×Nat),st.fst.size<=a->st.snd<=a->a+n=x.length+1 ->
   (∀ i∈st.fst.toList,i∈(forIn (List.range' a n) st (StrLaws.occBody x ⟨#[c]⟩ x.length (x.length+1))).run.fst.toList) /\
   ∀ i,a<=i->x.cps.toList[i]? = Wn c->i∈(forIn (List.range' a n) st (StrLaws.occBody x ⟨#[c]⟩ x.length (x.length+1))).run.fst.toList
 | 0,a,st,_,_,hn=>⟨fun i h=>h,fun i ha hi=>by
   have:=(Ob.mp hi).1;have e:x.cps.toList.length=x.length:=by simp [Str.length]
   lia⟩
 | n+1,a,st,h1,h2,hn=>by
   have e:x.cps.toList.length=x.length:=by simp [Str.length]
   rw [List.range'_succ,List.forIn_cons];unfold StrLaws.occBody;split
   . obtain ⟨ih1,ih2⟩:=Zlb x c n (a+1) (st.fst.push a,a+(⟨#[c]⟩:Str).length) (by rw [Array.size_push];lia) (by show a+1<=a+1;lia) (by lia);refine ⟨fun i h=>ih1 i (by rw [Array.toList_push];exact Yq _ h),fun i ha hi=>?_⟩;rcases Nat.lt_or_ge a i with q|q
     . exact ih2 i q hi
     . have:i=a:=by lia
       rw [this];exact ih1 a (by rw [Array.toList_push];simp)
   . rename_i hc;obtain ⟨ih1,ih2⟩:=Zlb x c n (a+1) (st.fst,st.snd) (by show st.fst.size<=_;lia) (by show st.snd<=_;lia) (by lia);refine ⟨ih1,fun i ha hi=>?_⟩;rcases Nat.lt_or_ge a i with q|q
     . exact ih2 i q hi
     . have ia:i=a:=by lia
       subst ia;have hl:=(Ob.mp hi).1;refine absurd ⟨⟨⟨by lia,h2⟩,by show i+1<=_;lia⟩,?_⟩ hc;rw [StrLaws.subAt_eq];show ((x.cps.toList.drop i).take 1==[c])=Wp;have:x.cps.toList.drop i=c::x.cps.toList.drop (i+1):=by
         rw [List.drop_eq_getElem_cons hl];rw [Og hl] at hi;cases hi;rfl
       rw [this];simp
open Builtin Builtin.Str in
def Zud(x:Str)(c i:Nat)(hi:x.cps.toList[i]? = Wn c):i∈occurrences x ⟨#[c]⟩ 0 x.length (x.length+1):=by rw[StrLaws.occ_eq];exact(Zlb x c (x.length+1 - 0) 0 (#[],0) (Oq _) (Oq _) (by lia)).2 i (Yv _) hi
open Builtin Builtin.Str in
theorem ZmM{x y:Str}{hi:Nat}:∀{cuts:List Nat}{a f:Nat},StrLaws.ChainTo x y hi a cuts f->∀c∈cuts,a<=c
 |d::r,a,f,h,c,hc=>by
  rcases O2.mp hc with rfl|hc
  . exact h.1
  . have:=ZmM h.2.2 c hc;have:=h.1
    lia
open Builtin Builtin.Str in
theorem parts_free(x:Str)(c:Nat):∀ (cuts:List Nat) (a f:Nat),StrLaws.ChainTo x ⟨#[c]⟩ x.length a cuts f->(∀ i,a<=i->x.cps.toList[i]? = Wn c->i∈cuts)->∀ p∈StrLaws.partsFrom x 1 a cuts,c ∉ p.cps.toList
 | [],a,f,_,hm,p,hp=>by
   rw [Ox.mp hp,StrLaws.strSub_toList];intro q;obtain ⟨j,hj,ej⟩:=List.getElem_of_mem q;have:=hm (a+j) (by lia) (by
     have:=Og hj;rw [ej,List.getElem?_take_of_lt (by simp at hj;lia),List.getElem?_drop] at this;exact this)
   cases this
 | d::r,a,f,h,hm,p,hp=>by
   rcases O2.mp hp with rfl|hp
   . rw [StrLaws.strSub_toList];intro q;obtain ⟨j,hj,ej⟩:=List.getElem_of_mem q;have hj':j<d - a:=by simp at hj;lia
     have:=hm (a+j) (by lia) (by
       have:=Og hj;rw [ej,List.getElem?_take_of_lt hj',List.getElem?_drop] at this;exact this)
     rcases O2.mp this with e|e
     . lia
     . have:=ZmM h.2.2 _ e;have e1:(⟨#[c]⟩:Str).length=1:=rfl
       lia
   . refine parts_free x c r (d+1) f h.2.2 (fun i hi ei=>?_) p hp;have:=h.1;rcases O2.mp (hm i (by lia) ei) with e|e
     . lia
     . exact e
open Builtin Builtin.Str in
theorem ZqU(x:Str):Txt.split x blk=ZO x:=by
 have key:∀ A:List Str,A≠[]->(∀ p∈A,32 ∉ p.cps.toList)->Str.join blk A=x->A=ZO x:=fun A ne hf hj=>by
   have e:=Zln A;rw [hj] at e;unfold ZO;rw [e,Zfp (by simpa using ne) (fun w hw=>by
     obtain ⟨p,hp,rfl⟩:=List.mem_map.mp hw;exact hf p hp),List.map_map]
   symm;refine Eq.trans (List.map_congr_left (g:=fun p=>p) fun p _=>Zgr p) ?_;simp
 have hall:=Zud x 32;rw [<- ZnR] at hall;have no:(∀ i,x.cps.toList[i]?≠Wn 32)->32 ∉ x.cps.toList:=fun h q=>by
   obtain ⟨j,hj,ej⟩:=List.getElem_of_mem q;exact h j (by rw [Og hj,ej])
 unfold Txt.split;split
 . rename_i h1;refine key [x] (by simp) (fun p hp=>?_) rfl;rw [Ox.mp hp];rw [Wm,decide_eq_true_eq,decide_eq_true_eq] at h1;rcases h1 with h1|h1
   . have e:x.cps.toList.length=x.length:=by simp [Str.length]
     have:blk.length=1:=by decide +kernel
     have:x.cps.toList=[]:=List.eq_nil_of_length_eq_zero (by lia);rw [this];simp
   . have k1:Builtin.Str.strKind blk=1:=by decide +kernel
     rw [k1] at h1;unfold Builtin.Str.strKind at h1;split at h1
     . lia
     . split at h1<;>lia
 . split
   . rename_i h2;refine key [x] (by simp) (fun p hp=>?_) rfl;rw [Ox.mp hp];refine no fun i hi=>?_;have:=hall i hi;rw [List.isEmpty_iff.mp h2] at this;cases this
   . obtain ⟨f,h⟩:=StrLaws.occ_chain x blk (x.length+1);have l1:blk.length=1:=by decide +kernel
     rw [StrLaws.partsBetween_eq];obtain ⟨p,q,e⟩:=StrLaws.partsFrom_ne x blk.length 0 (occurrences x blk 0 x.length (x.length+1));refine key _ (by rw [e];simp) (fun p hp=>?_) (by rw [StrLaws.join_partsFrom x blk _ 0 f h,StrLaws.sub_whole]);rw [l1] at hp;rw [ZnR] at h hp hall;exact parts_free x 32 _ 0 f h (fun i _ hi=>hall i hi) p hp
section
variable {X:Cx}
def ZmP:Zaa X (.type "str") (λxs H Q=>(∃i,xs=[.int i]/\i.natAbs.log2<1920/\Q (.str (Str.ofString (toString i))) H)\/∃y,xs=[.str y]/\Q (.str y) H):=by
 intro pins s Z H xs us Q I r h;rcases h with ⟨i,rfl,hi,q⟩|⟨y,rfl,q⟩
 . obtain⟨u,rfl,t,rfl⟩:=vals1 r;exact P.str_of_int hi ⟨.str _,H,I.tok _,⟨_,rfl⟩,q⟩
 . obtain⟨u,rfl,t,rfl⟩:=vals1 r;exact P.str_of_str ⟨.str y,H,I,⟨t,rfl⟩,q⟩
def ZpL{prog:Yh}{w:Yg}{A:YF}{E:Yj->Yb->Prop}{s:Yb}{x:Str}{t u:Tok}{Q:Yj->Yb->Prop}(hz:x.length<=1000000)
 (hq:∀(l:List (Str×Tok)) k,l.map (·.1)=ZO x->Q (.ref s.heap.objs.size) {s with heap:=s.heap.push {cls:=.type "list",data:=.seq (strValues l).toArray},toks:=k}):Yz (model prog w) A (call (.builtin "str.split") [.str x t,.str blk u]) Q E s:=by
 have hs:=ZqU x;have sz:x.length<=sizeLine:=by rw[YA];lia
 have l1:(blk.length==0)=Wq:=by decide +kernel
 unfold Txt.split at hs;by_cases c1:(Wr (x.length<blk.length) || Wr (Builtin.Str.strKind x<Builtin.Str.strKind blk))=Wp
 . rw[if_pos c1]at hs;exact call_meets F.slot_str_split (typeIs_str _ _ _) F.entry_str_split (F.args_str_split_2 _ _) (meets_str_split_cannot_occur x blk t u c1) (hq [(x,t)] s.toks hs)
 . rw[if_neg c1]at hs;have c1':=Bool.eq_false_iff.mpr c1;by_cases c2:(Builtin.Str.occurrences x blk 0 x.length (x.length+1)).isEmpty=Wp
   . rw[if_pos c2]at hs;exact call_meets F.slot_str_split (typeIs_str _ _ _) F.entry_str_split (F.args_str_split_2 _ _) (meets_str_split_not_found x blk t u c1' l1 c2) (hq [(x,t)] s.toks hs)
   . rw[if_neg c2]at hs;have c2':=Bool.eq_false_iff.mpr c2;refine call_meets F.slot_str_split (typeIs_str _ _ _) F.entry_str_split (F.args_str_split_2 _ _) (meets_str_split_sep x blk t u c1' l1 c2' sz ?_) ?_
     . rw[len_partsBetween];have:=StrLaws.occ_length_le x blk 0 x.length (x.length+1);rw[YA]
       lia
     . have e:=hq (numbered s.toks (Builtin.Str.partsBetween x (Builtin.Str.occurrences x blk 0 x.length (x.length+1)) blk.length)) (s.toks+(Builtin.Str.partsBetween x (Builtin.Str.occurrences x blk 0 x.length (x.length+1)) blk.length).length) ((numbered_texts _ _).trans hs);rw[<- strsFrom_eq]at e;exact e
def ZwJ:V->List V->Hp->VK->Prop:=λx xs H Q=>∃y,x=.str y/\xs=[.str blk]/\y.length<=1000000/\(ZO y).length<=1000002/\∀p,H p=Wo->Q (.ref p) (upd H p (.lst ((ZO y).map V.str)))
theorem Zfl:∀(l:List (Str×Tok)),Zu (l.map λp=>V.str p.1) (strValues l)
 |[]=>.nil
 |p::l=>.cons ⟨p.2,rfl⟩ (Zfl l)
def ZrZ:MtR X "str.split" ZwJ:=by
 intro pins s Z H x xs v us Q I rx rv h;obtain⟨y,rfl,rfl,hz,hl,q⟩:=h;obtain⟨t,rfl⟩:=rx;obtain⟨u,rfl,t',rfl⟩:=vals1 rv;refine ZpL hz λl k hk=>?_;have hv:Zu ((ZO y).map V.str) (strValues l):=by rw[<- hk,List.map_map];exact Zfl l
 exact⟨.ref s.heap.objs.size,_,I.laid (a:=s.heap.objs.size) (o:=.lst ((ZO y).map V.str)) (t':=k) (λb o e=>Od _ e) (Oq _) ⟨by rw[Ys,YA];lia,strValues l,_,hv,Oj _ rfl⟩,rfl,q _ (I.hok.fresh (Oq _))⟩
def rJoin(K:Yk):V->List V->Hp->VK->Prop:=λx xs H Q=>∃a,∃ss:List Str,x=.str blk/\xs=[.ref a]/\SqL K H a (ss.map V.str)/\JoinOk blk ss=Wp/\Q (.str (ZE ss)) H
theorem Zfm:∀{ss:List Str}{vs:List Yj},Zu (ss.map V.str) vs->∃l:List (Str×Tok),vs=strValues l/\l.map (·.1)=ss
 |[],vs,h=>by cases h;exact⟨[],rfl,rfl⟩
 |x::ss,vs,h=>by
  rw[Op]at h;cases h with
  |cons h1 h2=>obtain⟨t,rfl⟩:=h1;obtain⟨l,rfl,rfl⟩:=Zfm h2;exact⟨(x,t)::l,rfl,rfl⟩
def Zuh:MtR X "str.join" (rJoin X.K):=by intro pins s Z H x xs v us Q I rx rv h;obtain⟨a,ss,rfl,rfl,hl,ok,q⟩:=h;obtain⟨t,rfl⟩:=rx;obtain⟨u,rfl,ru⟩:=vals1 rv;cases ru;obtain⟨its,hv,pl,_⟩:=I.list hl;obtain⟨l,rfl,rfl⟩:=Zfm hv;refine SC.join pl.isList rfl ok λt' k=>?_;rw[Zuw];exact⟨.str _,H,I.tok _,⟨_,rfl⟩,q⟩
end
def ClV(mg:Str->Option Yj)(W:Str)(v:Yj):Prop:=(mg W=Wn v/\∃a,v=.ref a)\/(W=O "ValueError" /\ mg W=Wo/\v=.type "ValueError")
def ClV.one(h:ClV mg W v)(h':ClV mg W v'):v=v':=by
 rcases h with ⟨m,_⟩|⟨_,m,e⟩
 . rcases h' with ⟨m',_⟩|⟨_,m',_⟩
   . exact YD (m.symm.trans m')
   . rw[m]at m';cases m'
 . rcases h' with ⟨m',_⟩|⟨_,_,e'⟩
   . rw[m]at m';cases m'
   . rw[e,e']
def Zw4{X:Cx}(h:ClV X.mg W v)(g:Gl X W)(d:(W==("__debug__" : Str))=Wq):∃c,RelV c v/\∀pos,PE X (.Name W pos) (tC c):=by
 rcases h with ⟨m,a,rfl⟩|⟨rfl,m,rfl⟩
 . exact⟨.ref a,rfl,λ_=>Zoy g m rfl d⟩
 . exact⟨.ty "ValueError",rfl,λ_=>ZoA g m ZAr rfl (by decide) d⟩
def Kinds(mg:Str->Option Yj)(K:Yk)(c:Yi):List Str->List Bool->Prop
 |[],bs=>bs=[]
 |W::Ws,bs=>∃b r v,bs=b::r/\ClV mg W v/\PySem.W.kitOne K (.ref c) v=Wn b/\Kinds mg K c Ws r
def ZaT(m:Str):List Str->List Expr->Prop
 |[],ys=>ys=[]
 |W::Ws,ys=>∃ip mp wp cp r,ys=.Call (.Name (O "isinstance") ip) [.Name m mp,.Name W wp] [] cp::r/\ZaT m Ws r
noncomputable def ZAV(X:Cx)(a:Yi)(oe:Obj)(ie:Nat)(Ws:List Str):TA:=λZ H Q=>∃c bs,oe.cls=.ref c/\ExcA X.K c/\Kinds X.mg X.K c Ws bs/\Z[ie]? = Wn (Wn (.ref a))/\Q (bs.map V.bl) H
theorem ZrK{X:Cx}{ie:Nat}{m:Str}{a:Yi}{oe:Obj}(hgi:Gl X (O "isinstance"))(hmi:X.mg (O "isinstance")=Wo)(hie:X.N[ie]? = Wn m)(hl:X.env.scope.names.lookup m=Wn .local)(hdm:(m==("__debug__" : Str))=Wq)(hcm:(m==("__classdict__" : Str))=Wq):
 ∀{Ws ys},ZaT m Ws ys->(∀W∈Ws,Gl X W/\(W==("__debug__" : Str))=Wq/\∃v,ClV X.mg W v)->PA (cxH X a oe) ys (ZAV X a oe ie Ws)
 |[],ys,h,_=>by subst h;intro pos pins s Z H Q I ⟨c,bs,_,_,k,_,q⟩;cases (show bs=[]from k);exact Zb6 pos pins s Z H Q I q
 |W::Ws,ys,h,g=>by obtain⟨ip,mp,wp,cp,r,rfl,h⟩:=h;obtain⟨g1,g2,v,cv⟩:=g W (.head _);obtain⟨c0,rc,pw⟩:=Zw4 (X:=cxH X a oe) cv g1 g2;have ih:=ZrK (oe:=oe) (a:=a) hgi hmi hie hl hdm hcm h λW' hW=>g W' (.tail _ hW);have pc:=Zav (Zcj (X:=cxH X a oe) (p:=ip) (pos:=cp) ZlF hgi hmi (by decide +kernel) (Zav (Zrz (pos:=mp) hie (.inl hl) hdm hcm) (Zav (pw wp) Zb6))) ih;intro pos pins s Z H Q I ⟨c,bs,hc,hA,k,hs,q⟩;obtain⟨b,r',v',rfl,cv',ko,k⟩:=k;cases cv.one cv';exact pc pos pins s Z H Q I ⟨_,hs,a,oe,c,c0,v,b,rfl,Ov _ (Ox.mpr rfl),hc,hA,rc,ko,c,r',hc,hA,k,hs,q⟩
def Zqe{X:Cx}{i ie:Nat}{n m:Str}{a:Yi}{oe:Obj}(hgi:Gl X (O "isinstance"))(hmi:X.mg (O "isinstance")=Wo)(hN:X.N.Nodup)(hi:X.N[i]? = Wn n)(hx:Loc X.env.scope n)(hf:X.fn n=Wp\/X.env.scope.names.lookup n=Wn .local)(hie:X.N[ie]? = Wn m)(hl:X.env.scope.names.lookup m=Wn .local)(hdm:(m==("__debug__" : Str))=Wq)(hcm:(m==("__classdict__" : Str))=Wq)
 (h:ZaT m Ws ys) (g:∀W∈Ws,Gl X W/\(W==("__debug__" : Str))=Wq/\∃v,ClV X.mg W v) :
 PSs (cxH X a oe) [.Assign [.Name n px] (.List ys lp) ap] (λ(D:Ends) (Z:St) (H:Hp)=>∃(c:Yi) (bs:List Bool) (σ0:St),oe.cls=.ref c/\ExcA X.K c/\Kinds X.mg X.K c Ws bs/\Z=σ0.set ie (Wn (.ref a))/\bs.length<=sizeLine/\∀p,H p=Wo->D.nx (Z.set i (Wn (.ref p))) (upd H p (.lst (bs.map V.bl)))):=by
 have hp:=ZtD (Znp (X:=cxH X a oe) (i:=i) (pos:=ap) (pos':=px) hN hi hx (ZrE (pos:=lp) (ZrK (oe:=oe) (a:=a) hgi hmi hie hl hdm hcm h g)) rfl hf);intro pins s Z H D I ⟨c,bs,σ0,hc,hA,k,e,hz,q⟩;have hl:ie<σ0.length:=by have:=I.len;rw[e,List.length_set]at this;rw[this];exact(Ob.mp hie).1
 exact hp pins s Z H D I ⟨c,bs,hc,hA,k,by rw[e];exact Ol hl,by rw[Ys];exact hz,q⟩
end L2
namespace IV
open PySem PySem.Spec PyProof.Rows L2
set_option tactic.hygienic false
inductive D where
 |non|bl (b:Bool)|int (i:Int)|str (x:Str)|tup (xs:List D)|ref (i:Nat)|ty (n:String)
 |ro (xs:List D)|kd (x:Str)
inductive DO where
 |lst (xs:List D)|dic (kvs:List (Key×D))|ins (C:Str) (fs:List (Str×D))
 |fdic (kvs:List (Key×D))
noncomputable abbrev Hd:=List DO
inductive R(α:Type) where
 |bad|ok (a:α) (h:Hd)|exc (c:Str) (h:Hd)
noncomputable def R.bind(r:R α)(k:α->Hd->R β):R β:=match r with
 |.bad=>.bad
 |.ok a h=>k a h
 |.exc c h=>.exc c h
def R.bind_ok:(R.ok a h).bind k=k a h:=rfl
def R.bind_bad:(R.bad:R α).bind k=.bad:=rfl
noncomputable def R.ofO(o:Option α)(h:Hd):R α:=match o with
 |some a=>.ok a h
 |none=>.bad
def R.ofO_some:R.ofO (Wn a) h=.ok a h:=rfl
noncomputable abbrev Ev:=List (Option D)
inductive Bf where
 |len|isi|int|tup|lst|sum|all|srt|mx|sri|lnd|dct|ldk|sto|itx
 deriving DecidableEq
inductive Mf where
 |app|ext|pop|rev|clr
 deriving DecidableEq
inductive Tf where
 |spl|joi
 deriving DecidableEq
mutual
inductive Ex where
 |var (i:Nat)|cst (d:D)|glo (x:Str)
 |bin (op:Operator) (a b:Ex)|cmp (op:CmpOp) (a b:Ex)|cmp2 (op op':CmpOp) (a b c:Ex)
 |neg (a:Ex)|nt (a:Ex)|ands (es:Exs)|ors (es:Exs)|ite (c:Tx) (a b:Ex)
 |tupl (es:Exs)|lstl (es:Exs)|ix (a i:Ex)|sl (a:Ex) (lo hi:Option Ex)
 |blt (f:Bf) (es:Exs)|call (f:Str) (es:Exs)|meth (m:Mf) (o:Ex) (es:Exs)
 |comp (NC:List Str) (js:List (Option Nat)) (it:Ix) (g:Tg) (c:Option Tx) (e:Ex)
 |sorts (e:Ex)|dictl (ps:Exs)|maxd (e d:Ex)
 |att (Cs:List Str) (o:Ex) (f:Str)|mk (C:Str) (es:Exs)|mcl (C m:Str) (o:Ex) (es:Exs)|any
 |trev (e:Ex)|tix (o e:Ex)|lrv (e:Ex)|lix (o e:Ex)|lin (a b:Ex)
 |rpn (a b:Ex)
 |dne (a b:Ex)
 |tmt (m:Tf) (o e:Ex)|sin (a b:Ex)|lmu (a b:Ex)
inductive Exs where
 |nil|cons (e:Ex) (es:Exs)
inductive Ix where
 |pl (e:Ex)|rng (e:Ex)|rng2 (a b:Ex)|enu (e:Ex)|rev (e:Ex)
 |en1 (e:Ex)|en0 (e:Ex)|dk (e:Ex)
 |zp (a b:Ex)
 |zl (a b:Ex)
 |tw (e:Ex)
inductive Tg where
 |nm (i:Nat)|two (i j:Nat)|many (is:List Nat)
inductive Tx where
 |ex (e:Ex)|ands (ts:Txs)|ors (ts:Txs)|nt (a:Tx)
inductive Txs where
 |one (t:Tx)|cons (t:Tx) (ts:Txs)
end
noncomputable abbrev Ex.ci(i:Int):Ex:=.cst (.int i)
noncomputable abbrev Ex.Ci_(x:String):Ex:=.cst (.str (O x))
mutual
inductive Sx where
 |ret (e:Ex)|set (g:Tg) (e:Ex)|put (o i e:Ex)|aug (i:Nat) (op:Operator) (e:Ex)|drp (e:Ex)
 |iff (c:Tx) (a b:Sxs)|whl (c:Tx) (b:Sxs)|forr (g:Tg) (it:Ix) (b:Sxs)|pas|brk|cnt
 |seta (Cs:List Str) (o:Ex) (f:Str) (e:Ex)|auga (Cs:List Str) (o:Ex) (f:Str) (e:Ex)|any
 |rai (C:Str) (e:Ex)|trs (i:Nat) (f:Str) (es:Exs) (C:Str)
 |unl (i j:Nat) (e:Ex)
 |trw (i n:Nat) (f:Str) (es:Exs) (C W w:Str)
 |raf (C:Str) (e:Ex)|tre (i n:Nat) (f:Str) (es:Exs) (C:Str) (Ws:List Str) (bs:List (Str×List Bool))
inductive Sxs where
 |nil|cons (s:Sx) (r:Sxs)
end
noncomputable abbrev Ex.v:=Ex.var
noncomputable abbrev Exs.c:=Exs.cons
noncomputable abbrev Exs.n:=Exs.nil
noncomputable abbrev Sxs.c:=Sxs.cons
noncomputable abbrev Sxs.n:=Sxs.nil
noncomputable abbrev Txs.c:=Txs.cons
noncomputable instance:DecidableEq D:=λa b=>Classical.propDecidable (a=b)
noncomputable instance:DecidableEq DO:=λa b=>Classical.propDecidable (a=b)
mutual
def D.py(rd:Nat->Option PyData):D->Option PyData
 |.non=>Wn .none
 |.bl b=>Wn (.bool b)
 |.int i=>Wn (.int i)
 |.str x=>Wn (.str x)
 |.tup xs=>(D.pys rd xs).map .tuple
 |.ro xs=>(D.pys rd xs).map .list
 |.ref i=>rd i
 |_=>Wo
def D.pys(rd:Nat->Option PyData):List D->Option (List PyData)
 |[]=>Wn []
 |x::xs=>(D.py rd x).bind λd=>(D.pys rd xs).map λds=>d::ds
end
def ZiC(h:Hd):Nat->Nat->Option PyData
 |0,_=>Wo
 |n+1,i=>match h[i]? with
  |some (.lst xs)=>(D.pys (ZiC h n) xs).map .list
  |_=>Wo
def ZjC(h:Hd)(d:D):Option PyData:=D.py (ZiC h 4) d
noncomputable def Zbf(o:DO)(h:Hd):R D:=.ok (.ref h.length) (h++[o])
noncomputable def lstOf(d:D)(h:Hd):Option (List D):=match d with
 |.ref i=>match h[i]? with
  |some (.lst xs)=>Wn xs
  |_=>Wo
 |.ro xs=>Wn xs
 |_=>Wo
noncomputable def dicOf(GD:Str->Option (List (Key×D)))(d:D)(h:Hd):Option (List (Key×D)):=match d with
 |.ref i=>match h[i]? with
  |some (.dic kvs)=>Wn kvs
  |some (.fdic kvs)=>Wn kvs
  |_=>Wo
 |.kd x=>GD x
 |_=>Wo
noncomputable def keyOf:D->Option Key
 |.int i=>Wn (.inl i)
 |.str x=>Wn (.inr x)
 |_=>Wo
noncomputable def ZaL(kvs:List (Key×D))(k:Key):Option D:=(kvs.find? λp=>Wr (p.1=k)).map (·.2)
noncomputable def putD(kvs:List (Key×D))(k:Key)(v:D):List (Key×D):=if (kvs.any λkv=>Wr (kv.1=k))=Wp then kvs.map (λkv=>if kv.1=k then(kv.1,v)else kv)else kvs++[(k,v)]
def cutD(xs:List D)(lo hi:Option Int):List D:=(xs.drop (HT.sIx xs.length 0 lo)).take (HT.sIx xs.length xs.length hi - HT.sIx xs.length 0 lo)
noncomputable def D.flat:D->Bool
 |.int _|.str _|.bl _|.non=>Wp
 |_=>Wq
noncomputable def eqF:D->D->Bool
 |.int i,.int j=>i==j
 |.str i,.str j=>i==j
 |.non,.non=>Wp
 |.bl i,.bl j=>i==j
 |.int i,.bl j=>i==(if j then 1 else 0)
 |.bl i,.int j=>(if i then 1 else 0)==j
 |_,_=>Wq
noncomputable def ZeY(GD:Str->Option (List (Key×D)))(d:D)(h:Hd):Option Bool:=match d with
 |.non=>Wn Wq
 |.bl b=>Wn b
 |.int i=>Wn (i != 0)
 |.str x=>if x.length<=sizeLine then Wn (!(x.length==0))else Wo
 |.tup xs=>Wn (!xs.isEmpty)
 |.ref i=>match h[i]? with
  |some (.lst xs)=>Wn (!xs.isEmpty)
  |some (.dic xs)=>Wn (!xs.isEmpty)
  |_=>Wo
 |.ro xs=>Wn (!xs.isEmpty)
 |_=>Wo
noncomputable def int2(x y:D)(k:Int->Int->R D):R D:=match x with
 |.int i=>match y with
  |.int j=>k i j
  |_=>.bad
 |_=>.bad
def Zs5(x y:D)(h:Hd):R D:=match x with
 |.int i=>match y with
  |.int j=>.ok (.int (i+j)) h
  |_=>.bad
 |.str i=>match y with
  |.str j=>if i.length+j.length<=sizeLine then .ok (.str (i++j)) h else .bad
  |_=>.bad
 |.tup xs=>match y with
  |.tup ys=>if xs.length+ys.length<=sizeLine then .ok (.tup (xs++ys)) h else .bad
  |_=>.bad
 |.ref i=>match y with
  |.ref j=>match h[i]? with
   |some (.lst xs)=>match h[j]? with
    |some (.lst ys)=>if xs.length+ys.length<=sizeLine then Zbf (.lst (xs++ys)) h else .bad
    |_=>.bad
   |_=>.bad
  |_=>.bad
 |_=>.bad
def ZzJ(x y:D)(h:Hd):R D:=match x with
 |.str z=>match y with
  |.int n=>if 0<=n/\n<=1000/\z.length<=1000 then .ok (.str (Zgu z n.toNat)) h else .bad
  |_=>.bad
 |x=>int2 x y λi j=>if i.natAbs<2 ^ 2000/\j.natAbs<2 ^ 2000 then .ok (.int (i * j)) h else .bad
def opB(op:Operator)(x y:D)(h:Hd):R D:=match op with
 |.Add=>Zs5 x y h
 |.Sub=>int2 x y λi j=>.ok (.int (i - j)) h
 |.Mult=>ZzJ x y h
 |.Mod=>int2 x y λi j=>if 0<j then .ok (.int (i % j)) h else .bad
 |.FloorDiv=>int2 x y λi j=>if 0<j/\j<1073741824 then .ok (.int (i / j)) h else .bad
 |.Pow=>int2 x y λi j=>if 0<=j/\j<=1000000/\i.natAbs<2 ^ 64 then .ok (.int (i ^ j.toNat)) h else .bad
 |_=>.bad
def Zcx(neg:Bool)(x y:D)(h:Hd):R D:=match ZjC h x,ZjC h y with
 |some a,Wn b=>if min a.depth b.depth<=1100 then .ok (.bl (if neg then !YN a b else YN a b)) h else .bad
 |_,_=>.bad
def seqOf(d:D)(h:Hd):Option (List D):=match d with
 |.tup xs=>Wn xs
 |d=>lstOf d h
def ZaX(GD:Str->Option (List (Key×D)))(neg:Bool)(x y:D)(h:Hd):R D:=match seqOf y h with
 |some xs=>if x.flat&&xs.all D.flat then .ok (.bl (if neg then !xs.any (λz=>eqF z x)else xs.any λz=>eqF z x)) h else .bad
 |none=>match dicOf GD y h,keyOf x with
  |some kvs,Wn k=>.ok (.bl (if neg then !(ZaL kvs k).isSome else(ZaL kvs k).isSome)) h
  |_,_=>.bad
noncomputable def Zk5(f:Int->Int->Bool)(x y:D)(h:Hd):R D:=match x,y with
 |.int i,.int j=>.ok (.bl (f i j)) h
 |_,_=>.bad
noncomputable def opN(neg:Bool)(x y:D)(h:Hd):R D:=match y with
 |.non=>.ok (.bl (if neg then !Wr (x=.non)else Wr (x=.non))) h
 |_=>.bad
def opC(GD:Str->Option (List (Key×D)))(op:CmpOp)(x y:D)(h:Hd):R D:=match op with
 |.Eq=>Zcx Wq x y h
 |.NotEq=>Zcx Wp x y h
 |.Lt=>Zk5 (λi j=>Wr (i<j)) x y h
 |.LtE=>Zk5 (λi j=>Wr (i<=j)) x y h
 |.Gt=>Zk5 (λi j=>Wr (j<i)) x y h
 |.GtE=>Zk5 (λi j=>Wr (j<=i)) x y h
 |.In=>ZaX GD Wq x y h
 |.NotIn=>ZaX GD Wp x y h
 |.Is=>opN Wq x y h
 |.IsNot=>opN Wp x y h
def Zfw(GD:Str->Option (List (Key×D)))(x y:D)(h:Hd):R D:=match y with
 |.int i=>match seqOf x h with
  |some xs=>R.ofO (atI xs i) h
  |none=>match x with
   |.str z=>if z.length<=sizeLine then R.ofO ((atI z.cps.toList i).map λc=>.str ⟨#[c]⟩) h else .bad
   |_=>match dicOf GD x h with
    |some kvs=>R.ofO (ZaL kvs (.inl i)) h
    |none=>.bad
 |.str z=>match dicOf GD x h with
  |some kvs=>R.ofO (ZaL kvs (.inr z)) h
  |none=>.bad
 |_=>.bad
def Zp2(x:D)(l u:Option Int)(h:Hd):R D:=match x with
 |.tup xs=>.ok (.tup (cutD xs l u)) h
 |.str y=>if y.length<=sizeLine then .ok (.str (StrLaws.sliceText y l u)) h else .bad
 |d=>match lstOf d h with
  |some xs=>Zbf (.lst (cutD xs l u)) h
  |none=>.bad
def ZyI(d:D)(h:Hd):Option String:=match d with
 |.int _=>Wn "int"
 |.str _=>Wn "str"
 |.bl _=>Wn "bool"
 |.non=>Wn "NoneType"
 |.tup _=>Wn "tuple"
 |d=>(lstOf d h).map λ_ => "list"
noncomputable def ZnG(t T:String):Option Bool:=if T∈["int", "str", "bool", "tuple", "list"]/\t∈["int", "str", "bool", "tuple", "list", "NoneType"]then Wn (t==T || (t == "bool" && T == "int"))else Wo
noncomputable def intsOf:List D->Option (List Int)
 |[]=>Wn []
 |.int i::r=>(intsOf r).map λz=>i::z
 |_=>Wo
noncomputable def Zdp:List D->Option (List Bool)
 |[]=>Wn []
 |.bl i::r=>(Zdp r).map λz=>i::z
 |_=>Wo
noncomputable def strsOf:List D->Option (List Str)
 |[]=>Wn []
 |.str i::r=>(strsOf r).map λz=>i::z
 |_=>Wo
noncomputable def ZcC:List (Key×D)->Option (List Str)
 |[]=>Wn []
 |(.inr x,_)::r=>(ZcC r).map λz=>x::z
 |_=>Wo
noncomputable def ZoU:List (Key×D)->Option (List Int)
 |[]=>Wn []
 |(.inl x,_)::r=>(ZoU r).map λz=>x::z
 |_=>Wo
noncomputable def Zzm(x:Int):List Int->List Int
 |[]=>[x]
 |y::r=>if y<x then y::Zzm x r else x::y::r
def Zvt:List Int->List Int
 |[]=>[]
 |x::r=>Zzm x (Zvt r)
noncomputable def ZpS(x:Str):List Str->List Str
 |[]=>[x]
 |y::r=>if ltCps y.cps.toList x.cps.toList then y::ZpS x r else x::y::r
def ZaB:List Str->List Str
 |[]=>[]
 |x::r=>ZpS x (ZaB r)
noncomputable def ddS:List Str->List Str
 |[]=>[]
 |x::r=>if x∈r then ddS r else x::ddS r
def Zva(xs:List D)(h:Hd):R D:=match xs with
 |[.str y]=>if y.length<=sizeLine then .ok (.int y.length) h else .bad
 |[d]=>R.ofO ((seqOf d h).map λxs=>.int xs.length) h
 |_=>.bad
def Zyc(xs:List D)(h:Hd):R D:=match xs with
 |[d,.ty T]=>R.ofO ((ZyI d h).bind λt=>(ZnG t T).map .bl) h
 |_=>.bad
noncomputable def Zyd(xs:List D)(h:Hd):R D:=match xs with
 |[.int i]=>.ok (.int i) h
 |[.bl b]=>.ok (.int (if b then 1 else 0)) h
 |_=>.bad
def Zu7(xs:List D)(h:Hd):R D:=match xs with
 |[.tup xs]=>.ok (.tup xs) h
 |[d]=>R.ofO ((lstOf d h).map .tup) h
 |_=>.bad
def Zu9(xs:List D)(h:Hd):R D:=match xs with
 |[d]=>match seqOf d h with
  |some xs=>Zbf (.lst xs) h
  |none=>.bad
 |_=>.bad
def Zu8(xs:List D)(h:Hd):R D:=match xs with
 |[d]=>R.ofO (((lstOf d h).bind intsOf).map λns=>.int ns.sum) h
 |_=>.bad
def Zhe(xs:List D)(h:Hd):R D:=match xs with
 |[d]=>R.ofO (((lstOf d h).bind Zdp).map λbs=>.bl (bs.all id)) h
 |_=>.bad
def Zgm(GD:Str->Option (List (Key×D)))(xs:List D)(h:Hd):R D:=match xs with
 |[d]=>match (dicOf GD d h).bind ZcC with
  |some ss=>if ss.length<64/\ss.all Yo=Wp then Zbf (.lst ((ZaB ss).map .str)) h else .bad
  |none=>.bad
 |_=>.bad
def ZBM(GD:Str->Option (List (Key×D)))(xs:List D)(h:Hd):R D:=match xs with
 |[d]=>match (dicOf GD d h).bind ZoU with
  |some ns=>if ns.length<64 then Zbf (.lst ((Zvt ns).map .int)) h else .bad
  |none=>.bad
 |_=>.bad
def ZBO(GD:Str->Option (List (Key×D)))(xs:List D)(h:Hd):R D:=match xs with
 |[d]=>R.ofO ((dicOf GD d h).map λkvs=>.int kvs.length) h
 |_=>.bad
def ZBS(xs:List D)(h:Hd):R D:=match xs with
 |[.ref i]=>match h[i]? with
  |some (.dic kvs)=>Zbf (.dic kvs) h
  |_=>.bad
 |_=>.bad
def ZBR(GD:Str->Option (List (Key×D)))(xs:List D)(h:Hd):R D:=match xs with
 |[d]=>match (dicOf GD d h).bind ZcC with
  |some ss=>if ss.all Yo=Wp then Zbf (.lst (ss.map .str)) h else .bad
  |none=>.bad
 |_=>.bad
noncomputable def Zyb(xs:List D)(h:Hd):R D:=match xs with
 |[.int i]=>if i.natAbs.log2<1920/\Yo (Str.ofString (toString i))=Wp then .ok (.str (Str.ofString (toString i))) h else .bad
 |[.str y]=>.ok (.str y) h
 |_=>.bad
noncomputable def Zvb(xs:List D)(h:Hd):R D:=match xs with
 |[.str y]=>match PySem.intText? y with
  |some n=>if y.length<=640 then .ok (.int n) h else .bad
  |none=>.bad
 |_=>.bad
noncomputable def ZzZ:D->Bool
 |.str _=>Wp
 |_=>Wq
def txm(m:Tf)(x y:D)(h:Hd):R D:=match m,x with
 |.spl,.str a=>match y with
  |.str b=>if b=L2.blk/\a.length<=1000000/\(L2.ZO a).length<=1000002/\(L2.ZO a).all Yo=Wp then Zbf (.lst ((L2.ZO a).map .str)) h else .bad
  |_=>.bad
 |.joi,.str b=>match (lstOf y h).bind strsOf with
  |some ss=>if b=L2.blk/\JoinOk L2.blk ss=Wp/\Yo (L2.ZE ss)=Wp then .ok (.str (L2.ZE ss)) h else .bad
  |none=>.bad
 |_,_=>.bad
noncomputable def Zs0(x y:D)(h:Hd):R D:=match x,y with
 |.str a,.str b=>.ok (.bl (!(Builtin.Str.occurrences b a 0 b.length 1).isEmpty)) h
 |_,_=>.bad
def Zqt(x y:D)(h:Hd):R D:=match x with
 |.ref i=>match y with
  |.int n=>match h[i]? with
   |some (.lst xs)=>if 0<=n/\n<=1000000/\xs.length * n.toNat<=1000000 then Zbf (.lst (YI n.toNat xs).flatten) h else .bad
   |_=>.bad
  |_=>.bad
 |_=>.bad
def ZA6(h:Hd)(o:Option D)(d:D):Bool:=Wr (o=Wn d)&&match ZjC h d with
 |some p=>Wr (p.depth<=60)&&YN p p
 |none=>Wq
def ZAu(GD:Str->Option (List (Key×D)))(x y:D)(h:Hd):R D:=match dicOf GD x h with
 |some k1=>match dicOf GD y h with
  |some k2=>if k1.length=k2.length/\(k1.all λp=>ZA6 h (ZaL k2 p.1) p.2)=Wp then .ok (.bl Wq) h else .bad
  |none=>.bad
 |none=>.bad
def ZpB(x d:D)(h:Hd):R D:=match d with
 |.int d=>R.ofO (((lstOf x h).bind intsOf).map λns=>.int (Zda ns d)) h
 |_=>.bad
def bMx(xs:List D)(h:Hd):R D:=match xs with
 |[.int i,.int j]=>.ok (.int (if j > i then j else i)) h
 |[d]=>match (lstOf d h).bind intsOf with
  |some ns=>if ns≠[]then .ok (.int (Zda ns 0)) h else .bad
  |none=>.bad
 |_=>.bad
def ZbN(GD:Str->Option (List (Key×D))):Bf->List D->Hd->R D
 |.len=>Zva
 |.isi=>Zyc
 |.int=>Zyd
 |.tup=>Zu7
 |.lst=>Zu9
 |.sum=>Zu8
 |.all=>Zhe
 |.srt=>Zgm GD
 |.mx=>bMx
 |.sri=>ZBM GD
 |.lnd=>ZBO GD
 |.dct=>ZBS
 |.ldk=>ZBR GD
 |.sto=>Zyb
 |.itx=>Zvb
noncomputable def Zv8(x:D)(h:Hd):R D:=match x with
 |.tup (y::ys)=>.ok (.tup (y::ys).reverse) h
 |_=>.bad
def ZBN(x:D)(h:Hd):R D:=match x with
 |.tup ys=>Zbf (.lst ys.reverse) h
 |_=>.bad
noncomputable def ZzY:D->Bool
 |.tup _=>Wp
 |_=>Wq
def ZAt(x y:D)(h:Hd):R D:=match x,y with
 |.tup xs,.str z=>match strsOf xs with
  |some ss=>R.ofO ((Tx.place z ss).map λ(j:Nat)=>.int (j:Int)) h
  |none=>.bad
 |_,_=>.bad
def ZBP(x y:D)(h:Hd):R D:=match lstOf x h,y with
 |some xs,.str z=>match strsOf xs with
  |some ss=>R.ofO ((Tx.place z ss).map λ(j:Nat)=>.int (j:Int)) h
  |none=>.bad
 |_,_=>.bad
def ZBQ(x y:D)(h:Hd):R D:=match ZjC h x,ZjC h y with
 |some a,Wn (.list bs)=>if min (PyData.depthAll bs) a.depth<=1000 then .ok (.bl (bs.any λb=>YN b a)) h else .bad
 |_,_=>.bad
def ZeZ:List D->Option (List (Key×D))
 |[]=>Wn []
 |k::v::r=>match keyOf k,ZeZ r with
  |some k,Wn r=>Wn ((k,v)::r)
  |_,_=>Wo
 |_=>Wo
def Zgx(kvs more:List (Key×D)):List (Key×D):=more.foldl (λacc kv=>putD acc kv.1 kv.2) kvs
noncomputable def Zr5(i:Nat)(ys xs:List D)(h:Hd):R D:=match xs with
 |[d]=>if ys.length<sizeLine then .ok .non (h.set i (.lst (ys++[d])))else .bad
 |_=>.bad
noncomputable def Zun(i:Nat)(ys xs:List D)(h:Hd):R D:=match xs with
 |[.ref j]=>match h[j]? with
  |some (.lst zs)=>if ys.length+zs.length<=sizeLine then .ok .non (h.set i (.lst (ys++zs)))else .bad
  |_=>.bad
 |[.tup zs]=>if ys.length+zs.length<=sizeLine then .ok .non (h.set i (.lst (ys++zs)))else .bad
 |_=>.bad
noncomputable def Zum(i:Nat)(ys xs:List D)(h:Hd):R D:=match xs with
 |[]=>match ys[ys.length - 1]? with
  |some y=>.ok y (h.set i (.lst ys.dropLast))
  |none=>.bad
 |_=>.bad
noncomputable def ZzM(i:Nat)(ys xs:List D)(h:Hd):R D:=match xs with
 |[]=>.ok .non (h.set i (.lst ys.reverse))
 |_=>.bad
noncomputable def ZzN(i:Nat)(ys xs:List D)(h:Hd):R D:=match xs with
 |[]=>.ok .non (h.set i (.lst []))
 |_=>.bad
def shD(x:D)(h:Hd):R Str:=match ZjC h x with
 |some d=>if L2.ZA3 d=Wp then .ok d.shown h else .bad
 |none=>.bad
def ZhJ:Mf->Nat->List D->List D->Hd->R D
 |.app=>Zr5
 |.ext=>Zun
 |.pop=>Zum
 |.rev=>ZzM
 |.clr=>ZzN
def Zbz(m:Mf)(o:D)(xs:List D)(h:Hd):R D:=match o with
 |.ref i=>match h[i]? with
  |some (.lst ys)=>ZhJ m i ys xs h
  |_=>.bad
 |_=>.bad
noncomputable def ZfH(o:D)(h:Hd):Bool:=match o with
 |.ref i=>match h[i]? with
  |some (.lst _)=>Wp
  |_=>Wq
 |_=>Wq
def Zfu(o i v:D)(h:Hd):R Unit:=match o with
 |.ref a=>match h[a]? with
  |some (.lst xs)=>match i with
   |.int k=>match ixN xs.length k with
    |some j=>.ok () (h.set a (.lst (xs.set j v)))
    |none=>.bad
   |_=>.bad
  |some (.dic kvs)=>match keyOf i with
   |some k=>if kvs.length<sizeLine then .ok () (h.set a (.dic (putD kvs k v)))else .bad
   |none=>.bad
  |_=>.bad
 |_=>.bad
structure Wk where
 src:List (Nat×List D)
 xs:List D
noncomputable def Wk.stays:List (Nat×List D)->Hd->Bool
 |[],_=>Wp
 |(i,xs)::r,h=>Wr (h[i]? = Wn (.lst xs))&&Wk.stays r h
noncomputable def Zio(d:D)(h:Hd):Option Wk:=match d with
 |.tup xs=>Wn ⟨[],xs⟩
 |.ro xs=>Wn ⟨[],xs⟩
 |.ref i=>match h[i]? with
  |some (.lst xs)=>Wn ⟨[(i,xs)],xs⟩
  |_=>Wo
 |_=>Wo
noncomputable def Zip(d:D)(h:Hd):Option Wk:=match d with
 |.ro xs=>Wn ⟨[],xs⟩
 |.ref i=>match h[i]? with
  |some (.lst xs)=>Wn ⟨[(i,xs)],xs⟩
  |_=>Wo
 |_=>Wo
noncomputable def Zl0(d:D)(h:Hd):Option Wk:=match d with
 |.tup xs=>Wn ⟨[],xs⟩
 |.ref i=>match h[i]? with
  |some (.lst xs)=>Wn ⟨[(i,xs)],xs⟩
  |_=>Wo
 |_=>Wo
noncomputable def ZM(lo:Int)(n:Nat):List D:=(List.range n).map λ(k:Nat)=>.int (lo+(k:Int))
noncomputable def Zdi(xs:List D):List D:=xs.mapIdx λk x=>.tup [.int (k:Int),x]
noncomputable def ZxZ(xs:List D):List D:=xs.mapIdx λk x=>.tup [.int ((k+1:Nat):Int),x]
noncomputable def Zin(xs ys:List D):List D:=List.zipWith (λx y=>.tup [x,y]) xs ys
noncomputable def ZzU:Key->D
 |.inl i=>.int i
 |.inr x=>.str x
def zpD(x y:D)(h:Hd):R Wk:=match x with
 |.tup xs=>match y with
  |.tup ys=>if xs.length=ys.length then .ok ⟨[],Zin xs ys⟩ h else .bad
  |_=>.bad
 |_=>.bad
def zlD(x y:D)(h:Hd):R Wk:=match x with
 |.ref i=>match y with
  |.ref j=>match h[i]? with
   |some (.lst xs)=>match h[j]? with
    |some (.lst ys)=>if xs.length=ys.length then .ok ⟨[(i,xs),(j,ys)],Zin xs ys⟩ h else .bad
    |_=>.bad
   |_=>.bad
  |_=>.bad
 |_=>.bad
def ZBz(x:D)(h:Hd):R Wk:=match x with
 |.ref i=>match h[i]? with
  |some (.dic kvs)=>.ok ⟨[],kvs.map λp=>ZzU p.1⟩ (h.set i (.fdic kvs))
  |some (.fdic kvs)=>.ok ⟨[],kvs.map λp=>ZzU p.1⟩ h
  |_=>.bad
 |_=>.bad
noncomputable def Zau(i:Int):Bool:=Wr (-(2 ^ 62)<=i)&&Wr (i<2 ^ 62)
noncomputable def Znj:List Nat->List D->Ev->Ev
 |i::is,x::xs,S=>Znj is xs (S.set i (Wn x))
 |_,_,S=>S
def Za4(g:Tg)(d:D)(S:Ev):Option Ev:=match g with
 |.nm i=>Wn (S.set i (Wn d))
 |.two i j=>match d with
  |.tup [a,b]=>Wn ((S.set i (Wn a)).set j (Wn b))
  |_=>Wo
 |.many is=>match d with
  |.tup xs=>if xs.length=is.length then Wn (Znj is xs S)else Wo
  |_=>Wo
def Zhy(js:List (Option Nat))(S:Ev):Ev:=js.map λo=>o.bind λj=>(S[j]?).join
inductive Fl where
 |nx|bk|ct|rt (d:D)
def ZH(src:List (Nat×List D))(g:Tg)(body:Ev->Hd->R (Fl×Ev)):List D->Ev->Hd->R (Fl×Ev)
 |[],S,h=>if Wk.stays src h then .ok (.nx,S) h else .bad
 |d::ds,S,h=>if Wk.stays src h then match Za4 g d S with
  |none=>.bad
  |some ρ1=>(body ρ1 h).bind λp h2=>match p with
   |(.nx,ρ2)=>ZH src g body ds ρ2 h2
   |(.ct,ρ2)=>ZH src g body ds ρ2 h2
   |(.bk,ρ2)=>.ok (.nx,ρ2) h2
   |(.rt d,ρ2)=>.ok (.rt d,ρ2) h2
  else .bad
noncomputable def Zaw(test:Ev->Hd->R Bool)(body:Ev->Hd->R (Fl×Ev)):Nat->Ev->Hd->R (Fl×Ev)
 |0,_,_=>.bad
 |n+1,S,h=>(test S h).bind λb h1=>if b then(body S h1).bind λp h2=>match p with
  |(.nx,ρ2)=>Zaw test body n ρ2 h2
  |(.ct,ρ2)=>Zaw test body n ρ2 h2
  |(.bk,ρ2)=>.ok (.nx,ρ2) h2
  |(.rt d,ρ2)=>.ok (.rt d,ρ2) h2
  else .ok (.nx,S) h1
@[reducible] def R.plain:R α->R α
 |.exc _ _=>.bad
 |r=>r
def ZG(src:List (Nat×List D))(g:Tg)(test:Ev->Hd->R Bool)(elt:Ev->Hd->R D):List D->Ev->List D->Hd->R (List D)
 |[],_,acc,h=>if Wk.stays src h then .ok acc h else .bad
 |d::ds,S,acc,h=>if Wk.stays src h/\acc.length<sizeLine then match Za4 g d S with
  |none=>.bad
  |some ρ1=>(test ρ1 h).plain.bind λb h1=>if b then(elt ρ1 h1).plain.bind λx h2=>ZG src g test elt ds S (acc++[x]) h2 else ZG src g test elt ds S acc h1
  else .bad
noncomputable def Zx7(C:Str)(i:Nat)(S:Ev)(r:R D):R (Fl×Ev):=match r with
 |.bad=>.bad
 |.ok v h=>.ok (.nx,S.set i (Wn v)) h
 |.exc c h=>if c=C then .ok (.nx,S.set i (Wn .non)) h else .bad
noncomputable def Zx6(W w:Str)(i n:Nat)(S:Ev)(r:R D):R (Fl×Ev):=match r with
 |.bad=>.bad
 |.ok v h=>.ok (.nx,S.set i (Wn v)) h
 |.exc c h=>if c=W then .ok (.nx,((S.set n Wo).set i (Wn (.ref h.length))).set n Wo) (h++[.lst [.str w,.bl Wp]])else .bad
noncomputable def Zjk(bs:List (Str×List Bool))(i n:Nat)(S:Ev)(r:R D):R (Fl×Ev):=match r with
 |.bad=>.bad
 |.ok _ h=>.ok (.nx,S) h
 |.exc c h=>match bs.lookup c with
  |some l=>.ok (.nx,((S.set n Wo).set i (Wn (.ref h.length))).set n Wo) (h++[.lst (l.map .bl)])
  |none=>.bad
noncomputable def ZBa(C:Str)(x:D)(h:Hd):R (Fl×Ev):=match x with
 |.str y=>if y.length<=50000 then .exc C h else .bad
 |_=>.bad
noncomputable def mnm(C m:Str):Str:=C++(O "." ++ m)
def Z8(d:D)(h:Hd):Option (Str×List (Str×D)):=match d with
 |.ref i=>match h[i]? with
  |some (.ins C fs)=>Wn (C,fs)
  |_=>Wo
 |_=>Wo
def ZgF(Cs:List Str)(f:Str)(x:D)(h:Hd):R D:=match Z8 x h with
 |some (C,fs)=>if C∈Cs then R.ofO (fs.lookup f) h else .bad
 |none=>.bad
noncomputable def ZpT(f:Str)(v:D):List (Str×D)->List (Str×D)
 |[]=>[(f,v)]
 |(g,x)::r=>if g=f then(g,v)::r else(g,x)::ZpT f v r
def ZiB(Cs:List Str)(f:Str)(x d:D)(h:Hd):R D:=match x with
 |.ref i=>match h[i]? with
  |some (.ins C fs)=>if C∈Cs/\fs.length<1000 then .ok .non (h.set i (.ins C (ZpT f d fs)))else .bad
  |_=>.bad
 |_=>.bad
def ZrX(Cf:Str->List D->Hd->R D)(C:Str)(xs:List D)(h:Hd):R D:=(Cf (mnm C (O "__init__")) (.ref h.length::xs) (h++[.ins C []])).bind λd h2=>match d with
 |.non=>.ok (.ref h.length) h2
 |_=>.bad
structure Tb where
 G:Str->Option D
 GD:Str->Option (List (Key×D))
 C:Str->List D->Hd->R D
 L:Nat
mutual
def ev(T:Tb):Ex->Ev->Hd->R D
 |.var i,S,h=>R.ofO (S[i]?).join h
 |.cst d,_,h=>.ok d h
 |.glo x,_,h=>R.ofO (T.G x) h
 |.bin op a b,S,h=>(ev T a S h).bind λx h1=>(ev T b S h1).bind λy h2=>opB op x y h2
 |.cmp op a b,S,h=>(ev T a S h).bind λx h1=>(ev T b S h1).bind λy h2=>opC T.GD op x y h2
 |.cmp2 op op' a b c,S,h=>(ev T a S h).bind λx h1=>(ev T b S h1).bind λy h2=>(opC T.GD op x y h2).bind λr h3=>match r with
  |.bl Wp=>(ev T c S h3).bind λz h4=>opC T.GD op' y z h4
  |.bl Wq=>.ok (.bl Wq) h3
  |_=>.bad
 |.neg a,S,h=>(ev T a S h).bind λx h1=>match x with
  |.int i=>.ok (.int (-i)) h1
  |_=>.bad
 |.nt a,S,h=>(ev T a S h).bind λx h1=>match x with
  |.bl b=>.ok (.bl (!b)) h1
  |_=>.bad
 |.ands es,S,h=>evAnd T es S h
 |.ors es,S,h=>evOr T es S h
 |.ite c a b,S,h=>(tst T c S h).bind λc h1=>if c then ev T a S h1 else ev T b S h1
 |.tupl es,S,h=>(evs T es S h).bind λxs h1=>if xs.length<=sizeLine then .ok (.tup xs) h1 else .bad
 |.lstl es,S,h=>(evs T es S h).bind λxs h1=>if xs.length<=sizeLine then Zbf (.lst xs) h1 else .bad
 |.ix a i,S,h=>(ev T a S h).bind λx h1=>(ev T i S h1).bind λy h2=>Zfw T.GD x y h2
 |.sl a lo hi,S,h=>(ev T a S h).bind λx h1=>(evo T lo S h1).bind λl h2=>(evo T hi S h2).bind λu h3=>Zp2 x l u h3
 |.blt f es,S,h=>(evs T es S h).bind λxs h1=>ZbN T.GD f xs h1
 |.call f es,S,h=>(evs T es S h).bind λxs h1=>T.C f xs h1
 |.meth m o es,S,h=>(ev T o S h).bind λx h1=>if ZfH x h1 then(evs T es S h1).bind λxs h2=>Zbz m x xs h2 else .bad
 |.comp _ js it g c e,S,h=>(evi T it S h).bind λw h1=>(ZG w.src g (tsto T c) (ev T e) w.xs (Zhy js S) [] h1).bind λxs h2=>Zbf (.lst xs) h2
 |.sorts e,S,h=>(ev T e S h).bind λx h1=>match (lstOf x h1).bind strsOf with
  |some ss=>if ss.length<4000/\(ddS ss).length<64/\ss.all Yo=Wp then Zbf (.lst ((ZaB (ddS ss)).map .str)) h1 else .bad
  |none=>.bad
 |.maxd e d,S,h=>(ev T e S h).bind λx h1=>(ev T d S h1).bind λy h2=>ZpB x y h2
 |.dictl ps,S,h=>(evs T ps S h).bind λxs h1=>match ZeZ xs with
  |some kvs=>if kvs.length<=15 then Zbf (.dic (Zgx [] kvs)) h1 else .bad
  |none=>.bad
 |.att Cs o f,S,h=>(ev T o S h).bind λx h1=>ZgF Cs f x h1
 |.mk C es,S,h=>(evs T es S h).bind λxs h1=>ZrX T.C C xs h1
 |.mcl C m o es,S,h=>(ev T o S h).bind λx h1=>match Z8 x h1 with
  |some (C',fs)=>if C'=C/\fs.lookup m=Wo then(evs T es S h1).bind λxs h2=>T.C (mnm C m) (x::xs) h2 else .bad
  |none=>.bad
 |.any,_,_=>.bad
 |.trev e,S,h=>(ev T e S h).bind λx h1=>Zv8 x h1
 |.lrv e,S,h=>(ev T e S h).bind λx h1=>ZBN x h1
 |.tix o e,S,h=>(ev T o S h).bind λx h1=>if ZzY x then(ev T e S h1).bind λy h2=>ZAt x y h2 else .bad
 |.lix o e,S,h=>(ev T o S h).bind λx h1=>if ZfH x h1 then(ev T e S h1).bind λy h2=>ZBP x y h2 else .bad
 |.lin a b,S,h=>(ev T a S h).bind λx h1=>(ev T b S h1).bind λy h2=>ZBQ x y h2
 |.tmt m o e,S,h=>(ev T o S h).bind λx h1=>if ZzZ x then(ev T e S h1).bind λy h2=>txm m x y h2 else .bad
 |.lmu a b,S,h=>(ev T a S h).bind λx h1=>(ev T b S h1).bind λy h2=>Zqt x y h2
 |.sin a b,S,h=>(ev T a S h).bind λx h1=>(ev T b S h1).bind λy h2=>Zs0 x y h2
 |.dne a b,S,h=>(ev T a S h).bind λx h1=>(ev T b S h1).bind λy h2=>ZAu T.GD x y h2
 |.rpn a b,S,h=>(ev T a S h).bind λx h1=>(shD x h1).bind λp h1=>(ev T b S h1).bind λy h2=>(shD y h2).bind λq h3=>.ok (.bl (!Wr (p=q))) h3
def evs(T:Tb):Exs->Ev->Hd->R (List D)
 |.nil,_,h=>.ok [] h
 |.cons e es,S,h=>(ev T e S h).bind λx h1=>(evs T es S h1).bind λxs h2=>.ok (x::xs) h2
def evAnd(T:Tb):Exs->Ev->Hd->R D
 |.nil,_,_=>.bad
 |.cons e es,S,h=>match es with
  |.nil=>ev T e S h
  |.cons _ _=>(ev T e S h).bind λx h1=>match x with
   |.bl Wp=>evAnd T es S h1
   |.bl Wq=>.ok (.bl Wq) h1
   |_=>.bad
def evOr(T:Tb):Exs->Ev->Hd->R D
 |.nil,_,_=>.bad
 |.cons e es,S,h=>match es with
  |.nil=>ev T e S h
  |.cons _ _=>(ev T e S h).bind λx h1=>match x with
   |.bl Wp=>.ok (.bl Wp) h1
   |.bl Wq=>evOr T es S h1
   |_=>.bad
def evo(T:Tb):Option Ex->Ev->Hd->R (Option Int)
 |none,_,h=>.ok Wo h
 |some e,S,h=>(ev T e S h).bind λx h1=>match x with
  |.int i=>.ok (Wn i) h1
  |_=>.bad
def tst(T:Tb):Tx->Ev->Hd->R Bool
 |.ex e,S,h=>(ev T e S h).bind λx h1=>R.ofO (ZeY T.GD x h1) h1
 |.ands ts,S,h=>tstAnd T ts S h
 |.ors ts,S,h=>tstOr T ts S h
 |.nt a,S,h=>(tst T a S h).bind λc h1=>.ok (!c) h1
def tstAnd(T:Tb):Txs->Ev->Hd->R Bool
 |.one t,S,h=>tst T t S h
 |.cons t ts,S,h=>(tst T t S h).bind λc h1=>if c then tstAnd T ts S h1 else .ok Wq h1
def tstOr(T:Tb):Txs->Ev->Hd->R Bool
 |.one t,S,h=>tst T t S h
 |.cons t ts,S,h=>(tst T t S h).bind λc h1=>if c then .ok Wp h1 else tstOr T ts S h1
def tsto(T:Tb):Option Tx->Ev->Hd->R Bool
 |none,_,h=>.ok Wp h
 |some e,S,h=>tst T e S h
def evi(T:Tb):Ix->Ev->Hd->R Wk
 |.pl e,S,h=>(ev T e S h).bind λx h1=>R.ofO (Zio x h1) h1
 |.rng e,S,h=>(ev T e S h).bind λx h1=>match x with
  |.int j=>if Zau j then .ok ⟨[],ZM 0 j.toNat⟩ h1 else .bad
  |_=>.bad
 |.rng2 a b,S,h=>(ev T a S h).bind λx h1=>(ev T b S h1).bind λy h2=>match x,y with
  |.int i,.int j=>if Zau i&&Zau j then .ok ⟨[],ZM i (j - i).toNat⟩ h2 else .bad
  |_,_=>.bad
 |.enu e,S,h=>(ev T e S h).bind λx h1=>R.ofO ((Zip x h1).map λw=>⟨w.src,Zdi w.xs⟩) h1
 |.rev e,S,h=>(ev T e S h).bind λx h1=>R.ofO ((Zl0 x h1).map λw=>⟨w.src,w.xs.reverse⟩) h1
 |.en1 e,S,h=>(ev T e S h).bind λx h1=>match x with
  |.tup xs=>.ok ⟨[],ZxZ xs⟩ h1
  |_=>.bad
 |.en0 e,S,h=>(ev T e S h).bind λx h1=>match x with
  |.tup xs=>.ok ⟨[],Zdi xs⟩ h1
  |_=>.bad
 |.dk e,S,h=>(ev T e S h).bind λx h1=>ZBz x h1
 |.zp a b,S,h=>(ev T a S h).bind λx h1=>(ev T b S h1).bind λy h2=>zpD x y h2
 |.tw e,S,h=>(ev T e S h).bind λx h1=>match x with
  |.str y=>.ok ⟨[],y.cps.toList.map λc=>.str ⟨#[c]⟩⟩ h1
  |_=>.bad
 |.zl a b,S,h=>(ev T a S h).bind λx h1=>(ev T b S h1).bind λy h2=>zlD x y h2
end
def ZAM(i j:Nat)(S:Ev)(x:D)(h:Hd):R (Fl×Ev):=match lstOf x h with
 |some [a,b]=>.ok (.nx,(S.set i (Wn a)).set j (Wn b)) h
 |_=>.bad
mutual
def xs1(T:Tb):Sx->Ev->Hd->R (Fl×Ev)
 |.ret e,S,h=>(ev T e S h).bind λx h1=>.ok (.rt x,S) h1
 |.set g e,S,h=>(ev T e S h).bind λx h1=>(R.ofO (Za4 g x S) h1).bind λρ1 h2=>.ok (.nx,ρ1) h2
 |.put o i e,S,h=>(ev T e S h).bind λx h1=>(ev T o S h1).bind λy h2=>(ev T i S h2).bind λz h3=>(Zfu y z x h3).bind λ_ h4=>.ok (.nx,S) h4
 |.aug i op e,S,h=>(R.ofO (S[i]?).join h).bind λx h1=>(ev T e S h1).bind λy h2=>match op,x,y with
  |.Add,.int a,.int b=>.ok (.nx,S.set i (Wn (.int (a+b)))) h2
  |_,_,_=>.bad
 |.drp e,S,h=>(ev T e S h).bind λ_ h1=>.ok (.nx,S) h1
 |.iff c a b,S,h=>(tst T c S h).bind λt h1=>if t then xs2 T a S h1 else xs2 T b S h1
 |.whl c b,S,h=>Zaw (tst T c) (xs2 T b) T.L S h
 |.forr g it b,S,h=>(evi T it S h).bind λw h1=>ZH w.src g (xs2 T b) w.xs S h1
 |.pas,S,h=>.ok (.nx,S) h
 |.brk,S,h=>.ok (.bk,S) h
 |.cnt,S,h=>.ok (.ct,S) h
 |.seta Cs o f e,S,h=>(ev T e S h).bind λd h1=>(ev T o S h1).bind λx h2=>(ZiB Cs f x d h2).bind λ_ h3=>.ok (.nx,S) h3
 |.auga Cs o f e,S,h=>(ev T o S h).bind λx h1=>(ZgF Cs f x h1).bind λv h2=>(ev T e S h2).bind λy h3=>match v,y with
  |.int a,.int b=>if (Z8 x h1).map (·.1)=(Z8 x h3).map (·.1)then(ZiB Cs f x (.int (a+b)) h3).bind λ_ h4=>.ok (.nx,S) h4 else .bad
  |_,_=>.bad
 |.any,_,_=>.bad
 |.rai C e,S,h=>(ev T e S h).bind λ_ h1=>.exc C h1
 |.trs i f es C,S,h=>(evs T es S h).plain.bind λxs h1=>Zx7 C i S (T.C f xs h1)
 |.unl i j e,S,h=>(ev T e S h).bind λx h1=>ZAM i j S x h1
 |.raf C e,S,h=>(ev T e S h).bind λx h1=>ZBa C x h1
 |.tre i n f es _ _ bs,S,h=>(evs T es S h).plain.bind λxs h1=>Zjk bs i n S (T.C f xs h1)
 |.trw i n f es _ W w,S,h=>(evs T es S h).plain.bind λxs h1=>Zx6 W w i n S (T.C f xs h1)
def xs2(T:Tb):Sxs->Ev->Hd->R (Fl×Ev)
 |.nil,S,h=>.ok (.nx,S) h
 |.cons s r,S,h=>(xs1 T s S h).bind λp h1=>match p with
  |(.nx,ρ1)=>xs2 T r ρ1 h1
  |p=>.ok p h1
end
structure Fd where
 ps:List Str
 N:List Str
 body:Sxs
structure Pg where
 tb:List (Str×Fd)
 G:Str->Option D
 GD:Str->Option (List (Key×D))
 L:Nat
 ms:List (Str×Fd):=[]
noncomputable def Pg.look(P:Pg)(f:Str):Option Fd:=match P.tb.lookup f with
 |some fd=>Wn fd
 |none=>P.ms.lookup f
noncomputable def Zbt(N:List Str)(ds:List D):Ev:=ds.map Wn++YI (N.length - ds.length) Wo
noncomputable def Ze:R (Fl×Ev)->R D
 |.ok (.rt d,_) h=>.ok d h
 |.ok (.nx,_) h=>.ok .non h
 |.exc c h=>.exc c h
 |_=>.bad
def run(P:Pg):Nat->Str->List D->Hd->R D
 |0,_,_,_=>.bad
 |n+1,f,ds,h=>match P.look f with
  |none=>.bad
  |some fd=>if ds.length=fd.ps.length then Ze (xs2 ⟨P.G,P.GD,run P n,P.L⟩ fd.body (Zbt fd.N ds) h)else .bad
def Pg.tbl(P:Pg)(n:Nat):Tb:=⟨P.G,P.GD,run P n,P.L⟩
def FzL(K:Yk)(H:Hp)(a:Yi)(xs:List V):Prop:=(∃o,H a=Wn (.frz o (.lst xs)))\/∃(o:Obj) (its:Array Yj) (n:Nat),K.lookup a=Wn o/\o.cls=.type "list" /\ o.dict=Wo/\o.data=.seq its n/\its.size<=sizeLine/\Zu xs its.toList
def FzL.sq{K:Yk}(h:FzL K H a xs):SqL K H a xs:=h.elim (λ⟨o,h⟩=>.inl (.inr ⟨o,h⟩)) .inr
structure Yx where
 K:Yk
 mg:Str->Option Yj
mutual
inductive RD(Y:Yx)(H:Hp)(B:List Yi):D->V->Prop
 |non:RD Y H B .non .non
 |bl (b:Bool):RD Y H B (.bl b) (.bl b)
 |int (i:Int):RD Y H B (.int i) (.int i)
 |str (x:Str) (ok:Yo x=Wp):RD Y H B (.str x) (.str x)
 |tup {a:Yi}{vs:List V}{ds:List D}:SqT Y.K H a vs->RDs Y H B ds vs->RD Y H B (.tup ds) (.ref a)
 |ref {i:Nat}{a:Yi}:B[i]? = Wn a->RD Y H B (.ref i) (.ref a)
 |ty (n:String):RD Y H B (.ty n) (.ty n)
 |ro {a:Yi}{vs:List V}{ds:List D}:FzL Y.K H a vs->RDs Y H B ds vs->RD Y H B (.ro ds) (.ref a)
 |kd {x:Str}{a:Yi}:Y.mg x=Wn (.ref a)->RD Y H B (.kd x) (.ref a)
inductive RDs(Y:Yx)(H:Hp)(B:List Yi):List D->List V->Prop
 |nil:RDs Y H B [] []
 |cons {d:D}{v:V}{ds:List D}{vs:List V}:RD Y H B d v->RDs Y H B ds vs->RDs Y H B (d::ds) (v::vs)
end
inductive RKs(Y:Yx)(H:Hp)(B:List Yi){κ:Type}:List (κ×D)->List (κ×V)->Prop
 |nil:RKs Y H B [] []
 |cons {k:κ}{d:D}{v:V}{ds:List (κ×D)}{vs:List (κ×V)}:RD Y H B d v->RKs Y H B ds vs->RKs Y H B ((k,d)::ds) ((k,v)::vs)
def RO(Y:Yx)(H:Hp)(B:List Yi)(a:Yi):DO->Prop
 |.lst ds=>∃vs,H a=Wn (.lst vs)/\RDs Y H B ds vs
 |.dic kvs=>∃kvs',H a=Wn (.dK kvs')/\RKs Y H B kvs kvs'
 |.ins C fs=>∃Ca dx fs',H a=Wn (.ins Ca dx fs')/\Y.mg C=Wn (.ref Ca)/\RKs Y H B fs fs'
 |.fdic kvs=>∃o kvs',H a=Wn (.frz o (.dK kvs'))/\RKs Y H B kvs kvs'
def ZcK(kvs:List (Key×D)):Prop:=∀p∈kvs,∀x,p.1=.inr x->Yo x=Wp
def DOk:DO->Prop
 |.dic kvs=>ZcK kvs
 |.fdic kvs=>ZcK kvs
 |_=>True
structure RH(Y:Yx)(H:Hp)(B:List Yi)(h:Hd):Prop where
 len:h.length=B.length
 nd:B.Nodup
 ob:∀(i:Nat) (o:DO) (a:Yi),h[i]? = Wn o->B[i]? = Wn a->RO Y H B a o
 ks:∀(i:Nat) (o:DO),h[i]? = Wn o->DOk o
structure Gr(H:Hp)(B:List Yi)(H':Hp)(μ':List Yi):Prop where
 pre:∀(i:Nat) (a:Yi),B[i]? = Wn a->μ'[i]? = Wn a
 new:∀a∈μ',a∈B\/H a=Wo
 keep:∀b o,b ∉ B->H b=Wn o->H' b=Wn o
 fz:∀b o u,H b=Wn (.frz o u)->H' b=Wn (.frz o u)
def Gr.refl:Gr H B H B:=⟨λ_ _ h=>h,λ_ h=>.inl h,λ_ _ _ h=>h,λ_ _ _ h=>h⟩
def Gr.trans(a:Gr H B H1 μ1)(b:Gr H1 μ1 H2 μ2):Gr H B H2 μ2:=by
 refine⟨λi x h=>b.pre i x (a.pre i x h),λx hx=>?_,λx o hx h=>?_,λx o u h=>b.fz x o u (a.fz x o u h)⟩
 . rcases b.new x hx with h|h
   . exact a.new x h
   . by_cases hm:x∈B
     . exact .inl hm
     . cases q:H x with
       |none=>exact .inr rfl
       |some o=>rw[a.keep x o hm q]at h;cases h
 . refine b.keep x o (λhm=>?_) (a.keep x o hx h);rcases a.new x hm with z|z
   . exact hx z
   . rw[h]at z;cases z
def Mu:Option HO->Prop
 |some (.lst _)|some (.dK _)|some (.ins _ _ _)|some (.frz _ (.dK _))=>True
 |_=>False
def RO.mut(h:RO Y H B a o):Mu (H a):=by
 cases o with
 |lst ds=>obtain⟨vs,e,_⟩:=h;rw[e];trivial
 |dic ds=>obtain⟨vs,e,_⟩:=h;rw[e];trivial
 |ins C ds=>obtain⟨_,_,_,e,_⟩:=h;rw[e];trivial
 |fdic ds=>obtain⟨_,_,e,_⟩:=h;rw[e];trivial
def RH.mem(r:RH Y H B h)(ha:a∈B):∃(i:Nat) (o:DO),B[i]? = Wn a/\h[i]? = Wn o/\RO Y H B a o:=by
 obtain⟨i,hi⟩:=List.mem_iff_getElem?.mp ha;have hl:i<h.length:=by rw[r.len];exact(Ob.mp hi).1
 exact⟨i,h[i],hi,Og hl,r.ob i _ a (Og hl) hi⟩
theorem RH.mut(r:RH Y H B h)(ha:a∈B):Mu (H a):=let ⟨_,_,_,_,q⟩:=r.mem ha;q.mut
def Gr.rdT(r:RH Y H B h)(g:Gr H B H' μ')(t:SqT Y.K H a xs):SqT Y.K H' a xs:=by
 rcases t with t|t
 . rcases t with t|⟨o,t⟩
   . exact .inl (.inl (g.keep a _ (λhm=>by have:=r.mut hm;rw[t]at this;exact this) t))
   . exact .inl (.inr ⟨o,g.fz a _ _ t⟩)
 . exact .inr t
def Gr.rdF(r:RH Y H B h)(g:Gr H B H' μ')(t:FzL Y.K H a xs):FzL Y.K H' a xs:=by
 rcases t with ⟨o,t⟩|t
 . exact .inl ⟨o,g.fz a _ _ t⟩
 . exact .inr t
section
variable {Y:Yx}{H H':Hp}{B μ':List Yi}{h:Hd}
structure Tr(Y:Yx)(H:Hp)(B:List Yi)(H':Hp)(μ':List Yi):Prop where
 t:∀{a xs},SqT Y.K H a xs->SqT Y.K H' a xs
 f:∀{a xs},FzL Y.K H a xs->FzL Y.K H' a xs
 m:∀{i:Nat}{a},B[i]? = Wn a->μ'[i]? = Wn a
mutual
theorem RD.tr(T:Tr Y H B H' μ'):∀{d:D}{v:V},RD Y H B d v->RD Y H' μ' d v
 |_,_,.non=>.non
 |_,_,.bl b=>.bl b
 |_,_,.int i=>.int i
 |_,_,.str x ok=>.str x ok
 |_,_,.tup t s=>.tup (T.t t) (RDs.tr T s)
 |_,_,.ref e=>.ref (T.m e)
 |_,_,.ty n=>.ty n
 |_,_,.ro t s=>.ro (T.f t) (RDs.tr T s)
 |_,_,.kd e=>.kd e
theorem RDs.tr(T:Tr Y H B H' μ'):∀{d:List D}{v:List V},RDs Y H B d v->RDs Y H' μ' d v
 |_,_,.nil=>.nil
 |_,_,.cons a s=>.cons (RD.tr T a) (RDs.tr T s)
end
theorem RKs.tr(T:Tr Y H B H' μ'):∀{d:List (κ×D)}{v:List (κ×V)},RKs Y H B d v->RKs Y H' μ' d v
 |_,_,.nil=>.nil
 |_,_,.cons a s=>.cons (a.tr T) (RKs.tr T s)
theorem RO.tr(T:Tr Y H B H' μ')(q:RO Y H B a o)(e:H' a=H a):RO Y H' μ' a o:=by
 cases o with
 |lst ds=>obtain⟨vs,z,s⟩:=q;exact⟨vs,e.trans z,s.tr T⟩
 |dic ds=>obtain⟨vs,z,s⟩:=q;exact⟨vs,e.trans z,s.tr T⟩
 |ins C ds=>obtain⟨a1,a2,a3,z,m,s⟩:=q;exact⟨a1,a2,a3,e.trans z,m,s.tr T⟩
 |fdic ds=>obtain⟨o,vs,z,s⟩:=q;exact⟨o,vs,e.trans z,s.tr T⟩
def Gr.tr(r:RH Y H B h)(g:Gr H B H' μ'):Tr Y H B H' μ':=⟨g.rdT r,g.rdF r,g.pre _ _⟩
def RD.mono(r:RH Y H B h)(g:Gr H B H' μ')(q:RD Y H B d v):RD Y H' μ' d v:=q.tr (g.tr r)
def RDs.mono(r:RH Y H B h)(g:Gr H B H' μ')(q:RDs Y H B d v):RDs Y H' μ' d v:=q.tr (g.tr r)
def RKs.mono{d:List (κ×D)}(r:RH Y H B h)(g:Gr H B H' μ')(q:RKs Y H B d v):RKs Y H' μ' d v:=q.tr (g.tr r)
theorem RDs.length:∀{d:List D}{v:List V},RDs Y H B d v->d.length=v.length
 |_,_,.nil=>rfl
 |_,_,.cons a s=>by rw[Os,Os,s.length]
theorem RKs.length:∀{d:List (κ×D)}{v:List (κ×V)},RKs Y H B d v->d.length=v.length
 |_,_,.nil=>rfl
 |_,_,.cons a s=>by rw[Os,Os,s.length]
theorem RDs.get:∀{ds:List D}{vs:List V},RDs Y H B ds vs->∀{i:Nat}{d:D},ds[i]? = Wn d->∃v,vs[i]? = Wn v/\RD Y H B d v
 |_,_,.nil,i,d,e=>by simp at e
 |_,_,.cons a s,0,d,e=>by cases e;exact⟨_,rfl,a⟩
 |_,_,.cons a s,i+1,d,e=>by obtain⟨v,h1,h2⟩:=RDs.get s (i:=i) (d:=d) (by simpa using e);exact⟨v,by simpa using h1,h2⟩
theorem RDs.append:∀{ds es:List D}{vs ws:List V},RDs Y H B ds vs->RDs Y H B es ws->RDs Y H B (ds++es) (vs++ws)
 |_,_,_,_,.nil,s=>s
 |_,_,_,_,.cons a r,s=>.cons a (r.append s)
theorem RDs.take:∀{ds:List D}{vs:List V} (n:Nat),RDs Y H B ds vs->RDs Y H B (ds.take n) (vs.take n)
 |_,_,0,_=>.nil
 |_,_,_+1,.nil=>.nil
 |_,_,n+1,.cons a s=>.cons a (s.take n)
theorem RDs.drop:∀{ds:List D}{vs:List V} (n:Nat),RDs Y H B ds vs->RDs Y H B (ds.drop n) (vs.drop n)
 |_,_,0,s=>s
 |_,_,_+1,.nil=>.nil
 |_,_,n+1,.cons a s=>s.drop n
theorem RDs.reverse(s:RDs Y H B ds vs):RDs Y H B ds.reverse vs.reverse:=by
 have gen:∀{ds es:List D}{vs ws:List V},RDs Y H B ds vs->RDs Y H B es ws->RDs Y H B (ds.reverseAux es) (vs.reverseAux ws):=by
  intro ds;induction ds with
  |nil=>intro es vs ws a b;cases a;exact b
  |cons d ds ih=>
   intro es vs ws a b;cases a with
   |cons a s=>have z:=ih s (RDs.cons a b);exact z
 exact gen s .nil
theorem RDs.dropLast(s:RDs Y H B ds vs):RDs Y H B ds.dropLast vs.dropLast:=by rw[List.dropLast_eq_take,List.dropLast_eq_take,s.length];exact s.take _
theorem RDs.set(r:RD Y H B d v):∀{ds:List D}{vs:List V} (i:Nat),RDs Y H B ds vs->RDs Y H B (ds.set i d) (vs.set i v)
 |_,_,_,.nil=>.nil
 |_,_,0,.cons _ s=>.cons r s
 |_,_,i+1,.cons a s=>.cons a (RDs.set r i s)
def RDs.cut(s:RDs Y H B ds vs)(lo hi:Option Int):RDs Y H B (cutD ds lo hi) (ZmF vs lo hi):=by unfold cutD ZmF;rw[s.length];exact(s.drop _).take _
theorem RDs.isEmpty(s:RDs Y H B ds vs):ds.isEmpty=vs.isEmpty:=by cases s<;>rfl
theorem RDs.atI(s:RDs Y H B ds vs)(e:L2.atI ds i=Wn d):∃v,L2.atI vs i=Wn v/\RD Y H B d v:=by
 unfold L2.atI at e ⊢;rw[s.length]at e;cases q:ixN vs.length i with
 |none=>rw[q]at e;cases e
 |some j=>rw[q]at e;exact s.get (i:=j) e
theorem RKs.val[DecidableEq κ]:∀{ds:List (κ×D)}{vs:List (κ×V)},RKs Y H B ds vs->∀(k:κ),((ds.find? λp=>Wr (p.1=k))=Wo/\(vs.find? λp=>Wr (p.1=k))=Wo)\/∃d v,(ds.find? λp=>Wr (p.1=k))=Wn (k,d)/\(vs.find? λp=>Wr (p.1=k))=Wn (k,v)/\RD Y H B d v
 |_,_,.nil,k=>.inl ⟨rfl,rfl⟩
 |_,_,.cons (k:=k') (d:=d) (v:=v) a s,k=>by
  by_cases e:k'=k
  . subst e;exact .inr ⟨d,v,by simp,by simp,a⟩
  . rcases s.val k with ⟨h1,h2⟩|⟨d,v,h1,h2,h3⟩
    . exact .inl ⟨by simp[e,h1],by simp[e,h2]⟩
    . exact .inr ⟨d,v,by simp[e,h1],by simp[e,h2],h3⟩
end
def ZxE{α:Type}{l:List α}(hl:l.Nodup){i j:Nat}{x:α}(a:l[i]? = Wn x)(b:l[j]? = Wn x):i=j:=by obtain⟨h1,e1⟩:=Ob.mp a;obtain⟨h2,e2⟩:=Ob.mp b;exact(List.getElem_inj hl).mp (e1.trans e2.symm)
section
variable {Y:Yx}{H:Hp}{B:List Yi}{h:Hd}
def Gr.add(g:Gr H0 μ0 H B)(hp:H0 p=Wo):Gr H0 μ0 H (B++[p]):=⟨λi a e=>by have e:=g.pre i a e;rw[Oe (Ob.mp e).1];exact e,λa ha=>(OD.mp ha).elim (g.new a) λz=>by rw[Ox.mp z];exact .inr hp,g.keep,g.fz⟩
def ZqG{H0 H:Hp}(hp:H0 p=Wo)(e:H0 b=Wn u):upd H p o b=H b:=Zy λz=>by rw[z,hp]at e;cases e
def Gr.put(g:Gr H0 μ0 H B)(hp:H0 p=Wo):Gr H0 μ0 (upd H p o) B:=⟨g.pre,g.new,λb u hb e=>(ZqG hp e).trans (g.keep b u hb e),λb u v e=>(ZqG hp e).trans (g.fz b u v e)⟩
def Gr.lay0(hp:H p=Wo):Gr H B (upd H p o) B:=Gr.refl.put hp
def Gr.lay(hp:H p=Wo):Gr H B (upd H p o) (B++[p]):=(Gr.lay0 hp).add hp
def NF:Option HO->Prop
 |some (.frz _ _)=>False
 |_=>True
def Gr.write(hp:p∈B)(nf:NF (H p)):Gr H B (upd H p o) B:=⟨λ_ _ e=>e,λa ha=>.inl ha,λb u hb e=>by rw[Zy (show b≠p from λz=>hb (by rw[z];exact hp))];exact e,λb u v e=>by rw[Zy (λz=>by rw[z]at e;rw[e]at nf;exact nf)];exact e⟩
def RO.mono(r:RH Y H B h)(g:Gr H B H' μ')(q:RO Y H B a o)(e:H' a=H a):RO Y H' μ' a o:=q.tr (g.tr r) e
theorem RH.tr(r:RH Y H B h)(T:Tr Y H B H' B)(k:∀a∈B,H' a=H a):RH Y H' B h:=⟨r.len,r.nd,λi o a e1 e2=>(r.ob i o a e1 e2).tr T (k a (O1 e2)),r.ks⟩
def RH.keep(r:RH Y H B h)(g:Gr H B H' B)(k:∀a∈B,H' a=H a):RH Y H' B h:=r.tr (g.tr r) k
def Tr.more:Tr Y H B H (B++[p]):=⟨id,id,λe=>by rw[Oe (Ob.mp e).1];exact e⟩
def Zxw(k:∀(i:Nat) (o:DO),h[i]? = Wn o->DOk o)(dk:DOk o):∀(i:Nat) (o':DO),(h++[o])[i]? = Wn o'->DOk o':=by
 intro i o' e1;by_cases hi:i<h.length
 . rw[Oe hi]at e1;exact k i o' e1
 . have hi':i=h.length:=by
    have:=(Ob.mp e1).1;simp at this
    lia
   subst hi';rw[Om (Oq _)]at e1;simp at e1;subst e1;exact dk
def RH.add(r:RH Y H B h)(np:p ∉ B)(n:RO Y H (B++[p]) p o)(dk:DOk o:=by trivial):RH Y H (B++[p]) (h++[o]):=by
 refine⟨by simp[r.len],?_,λi o' a e1 e2=>?_,Zxw r.ks dk⟩
 . rw[List.nodup_append];refine⟨r.nd,by simp,λa ha b hb=>?_⟩;rw[Ox.mp hb];intro z;exact np (z ▸ ha)
 . by_cases hi:i<h.length
   . rw[Oe hi]at e1;rw[Oe (by rw[<- r.len];exact hi)]at e2;exact(r.ob i o' a e1 e2).tr .more rfl
   . have hi':i=h.length:=by
      have:=(Ob.mp e1).1;simp at this
      lia
     subst hi';rw[Om (Oq _)]at e1;rw[Om (by rw[r.len];exact Oq _)]at e2;simp[r.len]at e1 e2;subst e1;subst e2;exact n
def RH.fr(r:RH Y H B h)(hp:H p=Wo):p ∉ B:=λz=>by have:=r.mut z;rw[hp]at this;exact this
theorem RH.lay0(r:RH Y H B h)(hp:H p=Wo):RH Y (upd H p u) B h:=r.keep (Gr.lay0 hp) λa ha=>Zy λz=>r.fr hp (z ▸ ha)
def RH.lay(r:RH Y H B h)(hp:H p=Wo)(n:RO Y (upd H p u) (B++[p]) p o)(dk:DOk o:=by trivial):RH Y (upd H p u) (B++[p]) (h++[o]):=(r.lay0 hp).add (r.fr hp) n dk
theorem RH.write{p:Yi}{i:Nat}{u:HO}{o:DO}(r:RH Y H B h)(hp:B[i]? = Wn p)(n:RO Y (upd H p u) B p o)(nf:NF (H p))(dk:DOk o:=by trivial):RH Y (upd H p u) B (h.set i o):=by
 have hm:p∈B:=O1 hp;refine⟨by simp[r.len],r.nd,λj o' a e1 e2=>?_,λj o' e1=>?_⟩
 rotate_right
 . by_cases hj:j=i
   . subst hj;have hl:j<h.length:=by rw[r.len];exact(Ob.mp hp).1
     rw[Ol hl]at e1;cases e1;exact dk
   . rw[Oc (YJ hj)]at e1;exact r.ks j o' e1
 by_cases hj:j=i
 . subst hj;rw[hp]at e2;cases e2;have hl:j<h.length:=by rw[r.len];exact(Ob.mp hp).1
   rw[Ol hl]at e1;cases e1;exact n
 . rw[Oc (YJ hj)]at e1;refine(r.ob j o' a e1 e2).mono r (Gr.write hm nf) (Zy λz=>hj ?_);subst z;exact ZxE r.nd e2 hp
end
def Fin(Y:Yx)(rel:Hp->List Yi->α->β->Prop)(H:Hp)(B:List Yi)(r:R α)(Q:β->Hp->Prop)(E:XK):Prop:=match r with
 |.bad=>False
 |.ok a h'=>∀b H' μ',Gr H B H' μ'->RH Y H' μ' h'->rel H' μ' a b->Q b H'
 |.exc c h'=>∀H' μ' C,Gr H B H' μ'->RH Y H' μ' h'->Y.mg c=Wn (.ref C)->E (.ref C) Wo H'
section
variable {Y:Yx}{α β α' β':Type}{rel:Hp->List Yi->α->β->Prop}{rel':Hp->List Yi->α'->β'->Prop}{H H1:Hp}{B μ1:List Yi}{E:XK}
def Fin.mono(g:Gr H B H1 μ1)(f:Fin Y rel H B r Q E):Fin Y rel H1 μ1 r Q E:=by
 cases r with
 |bad=>exact f
 |ok a h=>exact λb H' μ' g'=>f b H' μ' (g.trans g')
 |exc c h=>exact λH' μ' C g'=>f H' μ' C (g.trans g')
theorem Fin.bind(f:Fin Y rel' H B (r.bind k) Q E)
 (hk:∀a h1 b H1 μ1,r=.ok a h1->Gr H B H1 μ1->RH Y H1 μ1 h1->rel H1 μ1 a b->Fin Y rel' H1 μ1 (k a h1) Q E->Q1 b H1):Fin Y rel H B r Q1 E:=by
 cases r with
 |bad=>exact f
 |ok a h=>exact λb H' μ' g' rh rl=>hk a h b H' μ' rfl g' rh rl (Fin.mono g' f)
 |exc c h=>exact f
theorem Fin.ok(f:Fin Y rel H B (.ok a h) Q E)(rh:RH Y H B h)(r:rel H B a b):Q b H:=f b H B Gr.refl rh r
def Fin.at(f:Fin Y rel H B (.ok a h) Q E)(g:Gr H B H1 μ1)(rh:RH Y H1 μ1 h)(r:rel H1 μ1 a b):Q b H1:=f b H1 μ1 g rh r
theorem Fin.ofO(f:Fin Y rel H B (R.ofO o h) Q E):∃a,o=Wn a/\Fin Y rel H B (.ok a h) Q E:=by
 cases o with
 |none=>exact f.elim
 |some a=>exact⟨a,rfl,f⟩
def Fin.iff[Decidable c](f:Fin Y rel H B (if c then r else .bad) Q E):c/\Fin Y rel H B r Q E:=by
 by_cases h:c
 . rw[if_pos h]at f;exact⟨h,f⟩
 . rw[if_neg h]at f;exact f.elim
def Fin.new(f:Fin Y (RD Y) H B (Zbf o h) Q E)(rh:RH Y H B h)(hp:H p=Wo)(n:RO Y (upd H p u) (B++[p]) p o)(dk:DOk o:=by trivial):Q (.ref p) (upd H p u):=f.at (Gr.lay hp) (rh.lay hp n dk) (.ref (by rw[rh.len];simp))
theorem Fin.tup(f:Fin Y (RD Y) H B (.ok (.tup ds) h) Q E)(rh:RH Y H B h)(hp:H p=Wo)(r:RDs Y H B ds vs):Q (.ref p) (upd H p (.tup vs)):=f.at (Gr.lay0 hp) (rh.lay0 hp) (.tup (.inl (.inl Zo)) (r.mono rh (Gr.lay0 hp)))
def Fin.wrote(f:Fin Y rel H B (.ok a (h.set i o)) Q E)(rh:RH Y H B h)(hp:B[i]? = Wn p)(n:RO Y (upd H p u) B p o)(r:rel (upd H p u) B a b)(nf:NF (H p))(dk:DOk o:=by trivial):Q b (upd H p u):=f.at (Gr.write (O1 hp) nf) (rh.write hp n nf dk) r
end
section
variable {Y:Yx}{H:Hp}{B:List Yi}{h:Hd}
theorem RD.lst(rh:RH Y H B h)(r:RD Y H B (.ref i) v)(e:h[i]? = Wn (.lst xs)):∃a vs,v=.ref a/\B[i]? = Wn a/\H a=Wn (.lst vs)/\RDs Y H B xs vs:=by
 cases r with
 |ref q=>obtain⟨vs,h1,h2⟩:=rh.ob i _ _ e q;exact⟨_,vs,rfl,q,h1,h2⟩
theorem RD.dic(rh:RH Y H B h)(r:RD Y H B (.ref i) v)(e:h[i]? = Wn (.dic xs)):∃a vs,v=.ref a/\B[i]? = Wn a/\H a=Wn (.dK vs)/\RKs Y H B xs vs:=by
 cases r with
 |ref q=>obtain⟨vs,h1,h2⟩:=rh.ob i _ _ e q;exact⟨_,vs,rfl,q,h1,h2⟩
theorem RD.lstOf(rh:RH Y H B h)(r:RD Y H B d v)(e:lstOf d h=Wn xs):∃a vs,v=.ref a/\SqL Y.K H a vs/\RDs Y H B xs vs:=by
 cases d with
 |ref i=>
  unfold IV.lstOf at e;simp only at e;split at e
  . cases e;rename_i q;obtain⟨a,vs,h1,h2,h3,h4⟩:=r.lst rh q;exact⟨a,vs,h1,.of h3,h4⟩
  . cases e
 |ro ys=>
  cases e;cases r with
  |ro q s=>exact⟨_,_,rfl,q.sq,s⟩
 |_=>cases e
theorem RD.seqOf(rh:RH Y H B h)(r:RD Y H B d v)(e:seqOf d h=Wn xs):∃a vs,v=.ref a/\(SqL Y.K H a vs\/SqT Y.K H a vs)/\RDs Y H B xs vs:=by
 by_cases ht:∃ys,d=.tup ys
 . obtain⟨ys,rfl⟩:=ht;cases e;cases r with
   |tup q s=>exact⟨_,_,rfl,.inr q,s⟩
 . have e':IV.lstOf d h=Wn xs:=by
    cases d with
    |tup ys=>exact absurd ⟨ys,rfl⟩ ht
    |_=>exact e
   obtain⟨a,vs,h1,h2,h3⟩:=r.lstOf rh e';exact⟨a,vs,h1,.inl h2,h3⟩
def RD.int_inv(r:RD Y H B (.int i) v):v=.int i:=by cases r;rfl
def RD.str_inv(r:RD Y H B (.str i) v):v=.str i/\Yo i=Wp:=by cases r with|str x ok=>exact⟨rfl,ok⟩
def RD.tup_inv(r:RD Y H B (.tup ds) v):∃a vs,v=.ref a/\SqT Y.K H a vs/\RDs Y H B ds vs:=by cases r with|tup q s=>exact⟨_,_,rfl,q,s⟩
def Zky(hx:Yo x=Wp)(hy:Yo y=Wp):Yo (x++y)=Wp:=by show(x.cps++y.cps).all _=Wp;rw[Array.all_append];unfold Yo at hx hy;rw[hx,hy];rfl
def ZrQ(hx:Yo x=Wp)(n:Nat):Yo (Zgu x n)=Wp:=by
 have gen:∀(n:Nat) (a:Array Nat),a.all (·<0x110000)=Wp->((YI n x.cps).foldl (·++·) a).all (·<0x110000)=Wp:=by
  intro n;induction n with
  |zero=>intro a h;exact h
  |succ n ih=>intro a h;rw[List.replicate_succ,Wi];refine ih _ ?_;rw[Array.all_append,h];exact hx
 exact gen n #[] (by simp)
def Znv(hx:Yo x=Wp)(h:c∈x.cps.toList):Yo ⟨#[c]⟩=Wp:=by unfold Yo at hx ⊢;rw[Array.all_eq_true']at hx;have:=hx c (by simpa using h);simpa using this
def Zuk(h:atI xs i=Wn x):x∈xs:=by
 unfold atI at h;cases q:ixN xs.length i with
 |none=>rw[q]at h;cases h
 |some j=>rw[q]at h;exact O1 (i:=j) h
end
section
variable {X:Cx}{Y:Yx}{E:XK}
noncomputable def rB(Y:Yx)(E:XK)(f:D->D->Hd->R D):R2:=λx y H Q=>∃dx dy h B,RH Y H B h/\RD Y H B dx x/\RD Y H B dy y/\Fin Y (RD Y) H B (f dx dy h) Q E
theorem Fin.int2(f:Fin Y (RD Y) H B (int2 x y k) Q E):∃i j,x=.int i/\y=.int j/\Fin Y (RD Y) H B (k i j) Q E:=by
 cases x with
 |int i=>
  cases y with
  |int j=>exact⟨i,j,rfl,rfl,f⟩
  |_=>exact f.elim
 |_=>exact f.elim
def Zxj(hY:Y.K=X.K)(op:Operator):OpR X (binaryOp op) (rB Y E (opB op)):=by
 intro pins s Z H x y v u Q I rx ry hh;obtain⟨dx,dy,h,B,rh,r1,r2,f⟩:=hh;cases op with
 |Add=>
  have f:Fin Y (RD Y) H B (Zs5 dx dy h) Q E:=f;cases dx with
  |int i=>
   cases dy with
   |int j=>cases r1;cases r2;exact Zxi pins s Z H _ _ v u Q I rx ry ⟨_,_,rfl,rfl,f.ok rh (.int _)⟩
   |_=>exact f.elim
  |str i=>
   cases dy with
   |str j=>
    obtain⟨hz,f⟩:=Fin.iff f;cases r1 with|str _ o1=>
    cases r2 with|str _ o2=>
    exact Znt pins s Z H _ _ v u Q I rx ry ⟨_,_,rfl,rfl,hz,f.ok rh (.str _ (Zky o1 o2))⟩
   |_=>exact f.elim
  |tup xs=>
   cases dy with
   |tup ys=>
    obtain⟨hz,f⟩:=Fin.iff f;obtain⟨a,vs,rfl,t1,s1⟩:=r1.tup_inv;obtain⟨b,ws,rfl,t2,s2⟩:=r2.tup_inv;rw[s1.length,s2.length]at hz;by_cases h0:vs=[]
    . subst h0;cases s1;exact Zt1 pins s Z H _ _ v u Q I rx ry ⟨a,b,ws,rfl,rfl,hY ▸ t1,hY ▸ t2,f.ok rh (.tup t2 s2)⟩
    . refine Zt0 pins s Z H _ _ v u Q I rx ry ⟨a,b,vs,ws,rfl,rfl,hY ▸ t1,hY ▸ t2,h0,hz,λe=>?_,λe p hp=>f.tup rh hp (s1.append s2)⟩;subst e;cases s2;rw[Yr]at f;exact f.ok rh (.tup t1 s1)
   |_=>exact f.elim
  |ref i=>
   cases dy with
   |ref j=>
    unfold Zs5 at f;simp only at f;split at f
    . rename_i e1;split at f
      . rename_i e2;obtain⟨hz,f⟩:=f.iff;obtain⟨a,vs,rfl,_,h1,s1⟩:=r1.lst rh e1;obtain⟨b,ws,rfl,_,h2,s2⟩:=r2.lst rh e2;rw[s1.length,s2.length]at hz;exact Zxh pins s Z H _ _ v u Q I rx ry ⟨a,b,vs,ws,rfl,rfl,h1,h2,hz,λp hp=>f.new rh hp ⟨_,Zo,(s1.append s2).mono rh (Gr.lay hp)⟩⟩
      . exact f.elim
    . exact f.elim
   |_=>exact f.elim
  |_=>exact f.elim
 |Sub=>obtain⟨i,j,rfl,rfl,f⟩:=Fin.int2 f;cases r1;cases r2;exact Zxb pins s Z H _ _ v u Q I rx ry ⟨_,_,rfl,rfl,f.ok rh (.int _)⟩
 |Mult=>
  have f:Fin Y (RD Y) H B (ZzJ dx dy h) Q E:=f;cases dx with
  |str z=>
   cases dy with
   |int n=>
    obtain⟨hz,f⟩:=Fin.iff f;cases r1 with|str _ o1=>
    cases r2;exact ZtY pins s Z H _ _ v u Q I rx ry ⟨_,_,rfl,rfl,hz.1,hz.2.1,hz.2.2,f.ok rh (.str _ (ZrQ o1 _))⟩
   |_=>exact f.elim
  |int i=>obtain⟨i,j,e1,rfl,f⟩:=Fin.int2 (show Fin Y (RD Y) H B (IV.int2 (.int i) dy λi j=>if i.natAbs<2 ^ 2000/\j.natAbs<2 ^ 2000 then .ok (.int (i * j)) h else .bad) Q E from f);cases e1;obtain⟨hz,f⟩:=f.iff;cases r1;cases r2;exact ZpZ pins s Z H _ _ v u Q I rx ry ⟨_,_,rfl,rfl,hz,f.ok rh (.int _)⟩
  |_=>exact f.elim
 |Mod=>obtain⟨i,j,rfl,rfl,f⟩:=Fin.int2 f;obtain⟨hz,f⟩:=f.iff;cases r1;cases r2;exact Zxe pins s Z H _ _ v u Q I rx ry ⟨_,_,rfl,rfl,hz,f.ok rh (.int _)⟩
 |FloorDiv=>obtain⟨i,j,rfl,rfl,f⟩:=Fin.int2 f;obtain⟨hz,f⟩:=f.iff;cases r1;cases r2;exact ZtZ pins s Z H _ _ v u Q I rx ry ⟨_,_,rfl,rfl,hz,f.ok rh (.int _)⟩
 |Pow=>obtain⟨i,j,rfl,rfl,f⟩:=Fin.int2 f;obtain⟨hz,f⟩:=f.iff;cases r1;cases r2;exact Zxd pins s Z H _ _ v u Q I rx ry ⟨_,_,rfl,rfl,hz,f.ok rh (.int _)⟩
 |_=>exact f.elim
end
set_option tactic.hygienic true
structure Gk(X:Cx)(Y:Yx)(T:Tb):Prop where
 K:Y.K=X.K
 mg:Y.mg=X.mg
 gd:∀x kvs,T.GD x=Wn kvs->∃a kvs',X.mg x=Wn (.ref a)/\DkK X.prog X.w X.K a kvs'/\∀H B,RKs Y H B kvs kvs'
 g:∀x d,T.G x=Wn d->∃v u,X.mg x=Wn u/\RelV v u/\∀H B,RD Y H B d v
 bare:Zir X.K=Wp
section
variable {X:Cx}{Y:Yx}{E:XK}{T:Tb}{H:Hp}{B:List Yi}{h:Hd}
theorem RD.dicOf(G:Gk X Y T)(rh:RH Y H B h)(r:RD Y H B d v)(e:dicOf T.GD d h=Wn kvs):∃a kvs',v=.ref a/\Dk X.prog X.w X.K H a kvs'/\RKs Y H B kvs kvs':=by
 cases d with
 |ref i=>
  unfold IV.dicOf at e;simp only at e;split at e
  . cases e;rename_i q;obtain⟨a,vs,h1,_,h3,h4⟩:=r.dic rh q;exact⟨a,vs,h1,.inl (.inl h3),h4⟩
  . cases e;rename_i q;cases r with
    |ref qm=>obtain⟨o,vs,h1,h2⟩:=rh.ob i _ _ q qm;exact⟨_,vs,rfl,.inl (.inr ⟨o,h1⟩),h2⟩
  . cases e
 |kd x=>
  obtain⟨a,kvs',h1,h2,h3⟩:=G.gd x kvs e;cases r with
  |kd q=>rw[G.mg,h1]at q;cases q;exact⟨a,kvs',rfl,.inr h2,h3 H B⟩
 |_=>cases e
def Zse(r:RD Y H B d v)(e:keyOf d=Wn k):∀x,k=.inr x->Yo x=Wp:=by
 cases d with
 |int i=>cases e;intro x z;cases z
 |str i=>
  cases e;intro x z;cases z;cases r with
  |str _ ok=>exact ok
 |_=>cases e
def ZiX(h:ZcK kvs)(hk:∀x,k=.inr x->Yo x=Wp):ZcK (putD kvs k c):=by
 intro p hp x e;unfold putD at hp;split at hp
 . obtain⟨q,hq,rfl⟩:=List.mem_map.mp hp;refine h q hq x ?_;split at e<;>exact e
 . rcases OD.mp hp with hp|hp
   . exact h p hp x e
   . rw[Ox.mp hp]at e;exact hk x e
def ZdU(r:RD Y H B d v)(e:keyOf d=Wn k):v=kV k:=by
 cases d with
 |int i=>cases e;cases r;rfl
 |str i=>cases e;cases r;rfl
 |_=>cases e
def RKs.valV_rel(s:RKs Y H B ds vs)(k:Key):(ZaL ds k=Wo/\Zfj vs k=Wo)\/∃d v,ZaL ds k=Wn d/\Zfj vs k=Wn v/\RD Y H B d v:=by
 unfold ZaL Zfj;rcases s.val k with ⟨h1,h2⟩|⟨d,v,h1,h2,h3⟩
 . exact .inl ⟨by rw[h1];rfl,by rw[h2];rfl⟩
 . exact .inr ⟨d,v,by rw[h1];rfl,by rw[h2];rfl,h3⟩
theorem RKs.any_rel(k:Key):∀{ds:List (Key×D)}{vs:List (Key×V)},RKs Y H B ds vs->(ds.any λkv=>Wr (kv.1=k))=(vs.any λkv=>Wr (kv.1=k))
 |_,_,.nil=>rfl
 |_,_,.cons a s=>by rw[YY,YY,s.any_rel k]
theorem RKs.map_rel(k:Key)(r:RD Y H B d v):∀{ds:List (Key×D)}{vs:List (Key×V)},RKs Y H B ds vs->RKs Y H B (ds.map λkv=>if kv.1=k then(kv.1,d)else kv) (vs.map λkv=>if kv.1=k then(kv.1,v)else kv)
 |_,_,.nil=>.nil
 |_,_,.cons (k:=k') a s=>by
  rw[Op,Op];by_cases e:k'=k
  . rw[if_pos e,if_pos e];exact .cons r (s.map_rel k r)
  . rw[if_neg e,if_neg e];exact .cons a (s.map_rel k r)
theorem RKs.append:∀{ds es:List (κ×D)}{vs ws:List (κ×V)},RKs Y H B ds vs->RKs Y H B es ws->RKs Y H B (ds++es) (vs++ws)
 |_,_,_,_,.nil,s=>s
 |_,_,_,_,.cons a r,s=>.cons a (r.append s)
def RKs.put(s:RKs Y H B ds vs)(k:Key)(r:RD Y H B d v):RKs Y H B (putD ds k d) (putK vs k v):=by
 unfold putD putK;rw[s.any_rel k];split
 . exact s.map_rel k r
 . exact s.append (.cons r .nil)
mutual
theorem RD.dp(rh:RH Y H B h)(rd:Nat->Option PyData)(hr:∀i p a,rd i=Wn p->B[i]? = Wn a->Dp Y.K H (.ref a) p):∀{d:D}{v:V}{p:PyData},RD Y H B d v->D.py rd d=Wn p->Dp Y.K H v p
 |_,_,_,.non,e=>by cases e;exact .non
 |_,_,_,.bl b,e=>by cases e;exact .bl b
 |_,_,_,.int i,e=>by cases e;exact .int i
 |_,_,_,.str x ok,e=>by cases e;exact .str x ok
 |_,_,_,.tup t s,e=>by rw[D.py]at e;obtain⟨ps,e1,rfl⟩:=Oo.mp e;exact .tup t (RDs.dps rh rd hr s e1)
 |_,_,_,.ref q,e=>hr _ _ _ e q
 |_,_,_,.ty n,e=>by cases e
 |_,_,_,.ro t s,e=>by rw[D.py]at e;obtain⟨ps,e1,rfl⟩:=Oo.mp e;exact .lst t.sq (RDs.dps rh rd hr s e1)
 |_,_,_,.kd q,e=>by cases e
theorem RDs.dps(rh:RH Y H B h)(rd:Nat->Option PyData)(hr:∀i p a,rd i=Wn p->B[i]? = Wn a->Dp Y.K H (.ref a) p):∀{d:List D}{v:List V}{p:List PyData},RDs Y H B d v->D.pys rd d=Wn p->Dps Y.K H v p
 |_,_,_,.nil,e=>by cases e;exact .nil
 |_,_,_,.cons a s,e=>by rw[D.pys]at e;obtain⟨q,e1,e2⟩:=Option.bind_eq_some_iff.mp e;obtain⟨qs,e3,rfl⟩:=Oo.mp e2;exact .cons (RD.dp rh rd hr a e1) (RDs.dps rh rd hr s e3)
end
theorem Zol(rh:RH Y H B h):∀(n i:Nat) (p:PyData) (a:Yi),ZiC h n i=Wn p->B[i]? = Wn a->Dp Y.K H (.ref a) p
 |0,i,p,a,e,q=>by cases e
 |n+1,i,p,a,e,q=>by
  rw[ZiC]at e;split at e
  . rename_i xs he;obtain⟨ps,e1,rfl⟩:=Oo.mp e;obtain⟨vs,z,s⟩:=rh.ob i _ a he q;exact .lst (.of z) (RDs.dps rh _ (Zol rh n) s e1)
  . cases e
def Zik(rh:RH Y H B h)(r:RD Y H B d v)(e:ZjC h d=Wn p):Dp Y.K H v p:=r.dp rh _ (Zol rh 4) e
def Zi4(r:RD Y H B d v)(f:d.flat=Wp):Zeb v=Wp:=by cases r<;>first|rfl|cases f
theorem ZgH:∀{ds:List D}{vs:List V},RDs Y H B ds vs->ds.all D.flat=Wp->vs.all Zeb=Wp
 |_,_,.nil,_=>rfl
 |_,_,.cons a s,f=>by rw[List.all_cons,Oa]at f;rw[List.all_cons,Zi4 a f.1,ZgH s f.2];rfl
def ZxX(r:RD Y H B d v)(q:RD Y H B e w)(f:d.flat=Wp)(g:e.flat=Wp):eqF d e=eqV v w:=by cases r<;>cases q<;>first|rfl|exact absurd f (by simp[D.flat])|exact absurd g (by simp[D.flat])
theorem any_rel(q:RD Y H B e w)(g:e.flat=Wp):∀{ds:List D}{vs:List V},RDs Y H B ds vs->ds.all D.flat=Wp->(ds.any λz=>eqF z e)=vs.any λy=>eqV y w
 |_,_,.nil,_=>rfl
 |_,_,.cons a s,f=>by rw[List.all_cons,Oa]at f;rw[YY,YY,ZxX a q f.1 g,any_rel q g s f.2]
def Zt8(hr:Room k X.A)(h60:60<=k)(hY:Y.K=X.K):OpR X (YK .Eq) (rB Y E (Zcx Wq)):=by
 intro pins s Z H x y v u Q I rx ry hh;obtain⟨dx,dy,h,B,rh,r1,r2,f⟩:=hh;unfold Zcx at f;split at f
 . rename_i e1 e2;obtain⟨hz,f⟩:=f.iff;have d1:=Zik rh r1 e1;have d2:=Zik rh r2 e2;rw[hY]at d1 d2;obtain⟨as,q1⟩:=I.reads d1 rx;obtain⟨bs,q2⟩:=I.reads d2 ry;have:=hr.un;exact SeqAt.compareEq_reads q1 q2 d1.lay d2.lay (by lia) ⟨.bl _,H,I,rfl,f.ok rh (.bl _)⟩
 . exact f.elim
def Zt3(hr:Room k X.A)(h60:60<=k)(hY:Y.K=X.K):OpR X (YK .NotEq) (rB Y E (Zcx Wp)):=by
 intro pins s Z H x y v u Q I rx ry hh;obtain⟨dx,dy,h,B,rh,r1,r2,f⟩:=hh;unfold Zcx at f;split at f
 . rename_i e1 e2;obtain⟨hz,f⟩:=f.iff;have d1:=Zik rh r1 e1;have d2:=Zik rh r2 e2;rw[hY]at d1 d2;obtain⟨as,q1⟩:=I.reads d1 rx;obtain⟨bs,q2⟩:=I.reads d2 ry;have:=hr.un;exact SeqAt.compareNe_reads q1 q2 d1.lay d2.lay (by lia) ⟨.bl _,H,I,rfl,f.ok rh (.bl _)⟩
 . exact f.elim
theorem Zq7(s:RDs Y H B ds vs):∀n:Nat,RDs Y H B (YI n ds).flatten (YI n vs).flatten
 |0=>.nil
 |n+1=>s.append (Zq7 s n)
def ZrN:OpR X (binaryOp .Mult) (rB Y E Zqt):=by
 intro pins s Z H x y v u Q I rx ry hh;obtain⟨dx,dy,h,B,rh,r1,r2,f⟩:=hh;unfold Zqt at f;split at f
 . split at f
   . split at f
     . rename_i e1;obtain⟨hz,f⟩:=f.iff;obtain⟨a,vs,rfl,_,h1,s1⟩:=r1.lst rh e1;cases r2;have sl:(1000000:Nat)<=sizeLine:=by decide
       have hv:=hz.2.2;rw[s1.length]at hv;exact Zxc pins s Z H _ _ v u Q I rx ry ⟨a,_,vs,rfl,rfl,h1,by lia,by lia,OE hv sl,λp hp=>f.new rh hp ⟨_,Zo,(Zq7 s1 _).mono rh (Gr.lay hp)⟩⟩
     . exact f.elim
   . exact f.elim
 . exact f.elim
def ZrM:OpR X (YK .In) (rB Y E Zs0):=by
 intro pins s Z H x y v u Q I rx ry hh;obtain⟨dx,dy,h,B,rh,r1,r2,f⟩:=hh;unfold Zs0 at f;split at f
 . cases r1;cases r2;exact Zp0 pins s Z H _ _ v u Q I rx ry ⟨_,_,rfl,rfl,f.ok rh (.bl _)⟩
 . exact f.elim
def Zil(ho:OpR X (YK op) (rI0 λi j=>.bl (g i j))):OpR X (YK op) (rB Y E (Zk5 g)):=by
 intro pins s Z H x y v u Q I rx ry hh;obtain⟨dx,dy,h,B,rh,r1,r2,f⟩:=hh;unfold Zk5 at f;split at f
 . cases r1;cases r2;exact ho pins s Z H _ _ v u Q I rx ry ⟨_,_,rfl,rfl,f.ok rh (.bl _)⟩
 . exact f.elim
def ZoF(r:RD Y H B d v):Wr (d=.non)=Wr (v=.non):=by cases r<;>simp
def Zt6:OpR X (YK .Is) (rB Y E (opN Wq)):=by
 intro pins s Z H x y v u Q I rx ry hh;obtain⟨dx,dy,h,B,rh,r1,r2,f⟩:=hh;unfold opN at f;split at f
 . cases r2;have z:=ZoF r1;simp only[OG,if_false,z]at f;exact Zxf pins s Z H _ _ v u Q I rx ry ⟨rfl,f.ok rh (.bl _)⟩
 . exact f.elim
def Zp3:OpR X (YK .IsNot) (rB Y E (opN Wp)):=by
 intro pins s Z H x y v u Q I rx ry hh;obtain⟨dx,dy,h,B,rh,r1,r2,f⟩:=hh;unfold opN at f;split at f
 . cases r2;have z:=ZoF r1;simp only[if_true,z]at f;exact ZtX pins s Z H _ _ v u Q I rx ry ⟨rfl,f.ok rh (.bl _)⟩
 . exact f.elim
def Zt7(G:Gk X Y T):OpR X (YK .In) (rB Y E (ZaX T.GD Wq)):=by
 intro pins s Z H x y v u Q I rx ry hh;obtain⟨dx,dy,h,B,rh,r1,r2,f⟩:=hh;unfold ZaX at f;split at f
 . rename_i xs e1;obtain⟨hz,f⟩:=f.iff;rw[Oa]at hz;obtain⟨a,vs,rfl,hs,rs⟩:=r2.seqOf rh e1;have q:=f.ok rh (.bl _);simp only[OG,if_false,any_rel r1 hz.1 rs hz.2]at q;exact Zp1 pins s Z H _ _ v u Q I rx ry ⟨a,vs,rfl,G.K ▸ hs,Zi4 r1 hz.1,ZgH rs hz.2,q⟩
 . split at f
   . rename_i kvs k e1 e2;obtain⟨a,kvs',rfl,hd,rk⟩:=r2.dicOf G rh e1;have q:=f.ok rh (.bl _);have z:(ZaL kvs k).isSome=(Zfj kvs' k).isSome:=by rcases rk.valV_rel k with ⟨h1,h2⟩|⟨d,v,h1,h2,_⟩<;>rw[h1,h2]<;>rfl
     rw[z]at q;exact Zxg pins s Z H _ _ v u Q I rx ry ⟨a,kvs',k,rfl,ZdU r1 e2,hd,q⟩
   . exact f.elim
def Znu(G:Gk X Y T):OpR X (YK .NotIn) (rB Y E (ZaX T.GD Wp)):=by
 intro pins s Z H x y v u Q I rx ry hh;obtain⟨dx,dy,h,B,rh,r1,r2,f⟩:=hh;unfold ZaX at f;split at f
 . rename_i xs e1;obtain⟨hz,f⟩:=f.iff;rw[Oa]at hz;obtain⟨a,vs,rfl,hs,rs⟩:=r2.seqOf rh e1;have q:=f.ok rh (.bl _);simp only[if_true,any_rel r1 hz.1 rs hz.2]at q;exact Zk4 pins s Z H _ _ v u Q I rx ry ⟨a,vs,rfl,G.K ▸ hs,Zi4 r1 hz.1,ZgH rs hz.2,q⟩
 . split at f
   . rename_i kvs k e1 e2;obtain⟨a,kvs',rfl,hd,rk⟩:=r2.dicOf G rh e1;have q:=f.ok rh (.bl _);have z:(ZaL kvs k).isSome=(Zfj kvs' k).isSome:=by rcases rk.valV_rel k with ⟨h1,h2⟩|⟨d,v,h1,h2,_⟩<;>rw[h1,h2]<;>rfl
     rw[z]at q;exact ZpY pins s Z H _ _ v u Q I rx ry ⟨a,kvs',k,rfl,ZdU r1 e2,hd,q⟩
   . exact f.elim
def Zgv(hr:Room k X.A)(h60:60<=k)(G:Gk X Y T)(op:CmpOp):OpR X (YK op) (rB Y E (opC T.GD op)):=by
 cases op with
 |Eq=>exact Zt8 hr h60 G.K
 |NotEq=>exact Zt3 hr h60 G.K
 |Lt=>exact Zil Zzy
 |LtE=>exact Zil Zzz
 |Gt=>exact Zil ZzA
 |GtE=>exact Zil ZzB
 |Is=>exact Zt6
 |IsNot=>exact Zp3
 |In=>exact Zt7 G
 |NotIn=>exact Znu G
def Zt4(G:Gk X Y T):IxR X (rB Y E (Zfw T.GD)):=by
 intro value slice pins s Z H x y v u Q I rx ry hh hs;obtain⟨dx,dy,h,B,rh,r1,r2,f⟩:=hh;have dict:∀(kvs:List (Key×D)) (k:Key),dicOf T.GD dx h=Wn kvs->y=kV k->Fin Y (RD Y) H B (R.ofO (ZaL kvs k) h) Q E->Yz (model X.prog X.w) X.A (subscriptTail value slice v u) (EP X pins Z Q) X.xe s:=by
  intro kvs k e1 ey f;obtain⟨d,e2,f⟩:=f.ofO;obtain⟨a,kvs',rfl,hd,rk⟩:=r1.dicOf G rh e1;rcases rk.valV_rel k with ⟨h1,h2⟩|⟨d',w,h1,h2,h3⟩
  . rw[h1]at e2;cases e2
  . rw[h1]at e2;cases e2;exact Zuy value slice pins s Z H _ _ v u Q I rx ry ⟨a,kvs',k,w,rfl,ey,hd,h2,f.ok rh h3⟩ hs
 unfold Zfw at f;split at f
 . rename_i i;cases r2;split at f
   . rename_i xs e1;obtain⟨d,e2,f⟩:=f.ofO;obtain⟨a,vs,rfl,hq,rs⟩:=r1.seqOf rh e1;obtain⟨w,e3,rw'⟩:=rs.atI e2;rcases hq with hq|hq
     . exact Zux value slice pins s Z H _ _ v u Q I rx ry ⟨a,vs,i,w,rfl,rfl,G.K ▸ hq,e3,f.ok rh rw'⟩ hs
     . exact ZxC value slice pins s Z H _ _ v u Q I rx ry ⟨a,vs,i,w,rfl,rfl,G.K ▸ hq,e3,f.ok rh rw'⟩ hs
   . split at f
     . obtain⟨hz,f⟩:=f.iff;obtain⟨d,e2,f⟩:=f.ofO;obtain⟨c,e3,rfl⟩:=Oo.mp e2;obtain⟨rfl,ok⟩:=r1.str_inv;exact ZxD value slice pins s Z H _ _ v u Q I rx ry ⟨_,i,c,rfl,rfl,hz,e3,f.ok rh (.str _ (Znv ok (Zuk e3)))⟩ hs
     . split at f
       . rename_i kvs e1;exact dict kvs (.inl i) e1 rfl f
       . exact f.elim
 . rename_i z;obtain⟨rfl,ok⟩:=r2.str_inv;split at f
   . rename_i kvs e1;exact dict kvs (.inr z) e1 rfl f
   . exact f.elim
 . exact f.elim
def Zxk(hx:Yo x=Wp)(h:∀c∈y.cps.toList,c∈x.cps.toList):Yo y=Wp:=by unfold Yo at hx ⊢;rw[Array.all_eq_true']at hx ⊢;intro c hc;exact hx c (by simpa using h c (by simpa using hc))
def Ztd(hY:Y.K=X.K)(rh:RH Y H B h)(r:RD Y H B d v)(e:ZeY T.GD d h=Wn b):Zyl X.K v H b:=by
 cases d with
 |non=>cases r;cases e;rfl
 |bl c=>cases r;cases e;rfl
 |int c=>cases r;cases e;rfl
 |str c=>
  cases r;unfold ZeY at e;simp only at e;split at e
  . rename_i hz;cases e;refine⟨hz,?_⟩;by_cases h0:c.length=0
    . simp[h0]
    . have h1:((c.length:Int) != 0)=Wp:=by
       simp
       lia
      rw[h1];simp[h0]
  . cases e
 |tup xs=>obtain⟨a,vs,rfl,t,s⟩:=r.tup_inv;cases e;exact .inr (.inl ⟨vs,hY ▸ t,by rw[s.isEmpty]⟩)
 |ref i=>
  unfold ZeY at e;simp only at e;split at e
  . rename_i q;cases e;obtain⟨a,vs,rfl,_,h3,s⟩:=r.lst rh q;exact .inl ⟨vs,.of h3,by rw[s.isEmpty]⟩
  . rename_i q;cases e;obtain⟨a,vs,rfl,_,h3,s⟩:=r.dic rh q;exact .inr (.inr ⟨vs,h3,by cases s<;>rfl⟩)
  . cases e
 |ro xs=>
  cases e;cases r with
  |ro q s=>exact .inl ⟨_,hY ▸ q.sq,by rw[s.isEmpty]⟩
 |ty n=>cases e
 |kd x=>cases e
end
section
variable {X:Cx}{Y:Yx}{E:XK}{T:Tb}{H:Hp}{B:List Yi}{h:Hd}
def rS(Y:Yx)(E:XK):V->Option Int->Option Int->Hp->VK->Prop:=λx l u H Q=>∃d h B,RH Y H B h/\RD Y H B d x/\Fin Y (RD Y) H B (Zp2 d l u h) Q E
def Znh(y:Str)(l u:Option Int):∀c∈(StrLaws.sliceText y l u).cps.toList,c∈y.cps.toList:=by
 intro c hc;unfold StrLaws.sliceText at hc;split at hc
 . exact hc
 . simp only[List.mem_filterMap]at hc;obtain⟨i,_,hi⟩:=hc;have:=Array.mem_of_getElem? hi;simpa using this
def Zql{xs:List D}{lo hi:Option Int}(h:HT.sIx xs.length 0 lo=0/\HT.sIx xs.length xs.length hi=xs.length):cutD xs lo hi=xs:=by unfold cutD;rw[h.1,h.2];simp
def Zt2(hY:Y.K=X.K):SlR X (rS Y E):=by
 intro pins s Z H x v vl vu lo hi sl Q I rx hs pl pu hh;obtain⟨d,h,B,rh,r,f⟩:=hh;unfold Zp2 at f;split at f
 . rename_i xs;obtain⟨a,vs,rfl,t,rs⟩:=r.tup_inv;by_cases hw:HT.sIx vs.length 0 lo=0/\HT.sIx vs.length vs.length hi=vs.length
   . rw[Zql (by rw[rs.length];exact hw)]at f;exact ZqY pins s Z H _ v vl vu lo hi sl Q I rx hs pl pu ⟨a,vs,rfl,hY ▸ t,hw,f.ok rh (.tup t rs)⟩
   . exact Zww pins s Z H _ v vl vu lo hi sl Q I rx hs pl pu ⟨a,vs,rfl,hY ▸ t,hw,λp hp=>f.tup rh hp (rs.cut lo hi)⟩
 . obtain⟨hz,f⟩:=f.iff;obtain⟨rfl,ok⟩:=r.str_inv;exact Zwx pins s Z H _ v vl vu lo hi sl Q I rx hs pl pu ⟨_,rfl,hz,f.ok rh (.str _ (Zxk ok (Znh _ _ _)))⟩
 . split at f
   . rename_i xs e1;obtain⟨a,vs,rfl,hl,rs⟩:=r.lstOf rh e1;exact Ztj pins s Z H _ v vl vu lo hi sl Q I rx hs pl pu ⟨a,vs,rfl,hY ▸ hl,λp hp=>f.new rh hp ⟨_,Zo,(rs.cut lo hi).mono rh (Gr.lay hp)⟩⟩
   . exact f.elim
def rF(Y:Yx)(E:XK)(f:List D->Hd->R D):List V->Hp->VK->Prop:=λxs H Q=>∃ds h B,RH Y H B h/\RDs Y H B ds xs/\Fin Y (RD Y) H B (f ds h) Q E
def RDs.one(r:RDs Y H B [d] xs):∃x,xs=[x]/\RD Y H B d x:=by
 cases r with
 |cons a s=>cases s;exact⟨_,rfl,a⟩
def RDs.two(r:RDs Y H B [d,e] xs):∃x y,xs=[x,y]/\RD Y H B d x/\RD Y H B e y:=by
 cases r with
 |cons a s=>obtain⟨y,rfl,b⟩:=s.one;exact⟨_,_,rfl,a,b⟩
def Zu1(hY:Y.K=X.K):Zaa X (.builtin "len") (rF Y E Zva):=by
 intro pins s Z H xs us Q I r hh;obtain⟨ds,h,B,rh,rs,f⟩:=hh;unfold Zva at f;split at f
 . obtain⟨hz,f⟩:=f.iff;obtain⟨x,rfl,rd⟩:=rs.one;obtain⟨rfl,ok⟩:=rd.str_inv;exact ZlD pins s Z H _ us Q I r ⟨_,rfl,hz,f.ok rh (.int _)⟩
 . obtain⟨e,e1,f⟩:=f.ofO;obtain⟨zs,e2,rfl⟩:=Oo.mp e1;obtain⟨x,rfl,rd⟩:=rs.one;obtain⟨a,vs,rfl,hq,rv⟩:=rd.seqOf rh e2;refine ZlE pins s Z H _ us Q I r ⟨a,vs,rfl,hY ▸ hq,?_⟩;rw[<- rv.length];exact f.ok rh (.int _)
 . exact f.elim
def Zuu{K:Yk}{t T:String}{b:Bool}(e:ZnG t T=Wn b):PySem.W.kitOne K (.type t) (.type T)=Wn b:=by
 have all:(["int", "str", "bool", "tuple", "list"].all λT=>["int", "str", "bool", "tuple", "list", "NoneType"].all λt=>Wr (PySem.W.kitOne [] (.type t) (.type T)=Wn (t==T || (t == "bool" && T == "int"))))=Wp:=by decide +kernel
 unfold ZnG at e;split at e
 . rename_i hm;cases e;rw[OC]at all;have h1:=all T hm.1;rw[OC]at h1;exact Zqb (of_decide_eq_true (h1 t hm.2))
 . cases e
def ZyH(hY:Y.K=X.K)(rh:RH Y H B h)(r:RD Y H B d v)(e:ZyI d h=Wn t):TyN X.K v H t:=by
 have lst:(IV.lstOf d h).map (λ_ => "list")=Wn t->TyN X.K v H t:=λe=>by obtain⟨xs,e1,rfl⟩:=Oo.mp e;obtain⟨a,vs,rfl,hl,rs⟩:=r.lstOf rh e1;exact .inl ⟨rfl,vs,hY ▸ hl⟩
 cases d with
 |int i=>cases e;cases r;rfl
 |str i=>cases e;cases r;rfl
 |bl i=>cases e;cases r;rfl
 |non=>cases e;cases r;rfl
 |tup xs=>cases e;obtain⟨a,vs,rfl,t,rs⟩:=r.tup_inv;exact .inr ⟨rfl,vs,hY ▸ t⟩
 |ref i=>exact lst e
 |ro xs=>exact lst e
 |ty n=>exact lst e
 |kd x=>exact lst e
def Zu3(hY:Y.K=X.K):Zaa X (.builtin "isinstance") (rF Y E Zyc):=by
 intro pins s Z H xs us Q I r hh;obtain⟨ds,h,B,rh,rs,f⟩:=hh;unfold Zyc at f;split at f
 . obtain⟨e,e1,f⟩:=f.ofO;obtain⟨t,e2,e3⟩:=Option.bind_eq_some_iff.mp e1;obtain⟨b,e4,rfl⟩:=Oo.mp e3;obtain⟨x,y,rfl,r1,r2⟩:=rs.two;cases r2;exact ZsT pins s Z H _ us Q I r ⟨x,t,_,b,rfl,ZyH hY rh r1 e2,Zuu e4,f.ok rh (.bl _)⟩
 . exact f.elim
def Zu4:Zaa X (.type "int") (rF Y E Zyd):=by
 intro pins s Z H xs us Q I r hh;obtain⟨ds,h,B,rh,rs,f⟩:=hh;unfold Zyd at f;split at f
 . obtain⟨x,rfl,r1⟩:=rs.one;cases r1;exact ZkO pins s Z H _ us Q I r (.inl ⟨_,rfl,f.ok rh (.int _)⟩)
 . obtain⟨x,rfl,r1⟩:=rs.one;cases r1;exact ZkO pins s Z H _ us Q I r (.inr ⟨_,rfl,f.ok rh (.int _)⟩)
 . exact f.elim
def ZuY:Zaa X (.type "str") (rF Y E Zyb):=by
 intro pins s Z H xs us Q I r hh;obtain⟨ds,h,B,rh,rs,f⟩:=hh;unfold Zyb at f;split at f
 . obtain⟨hz,f⟩:=f.iff;obtain⟨x,rfl,r1⟩:=rs.one;cases r1;exact ZmP pins s Z H _ us Q I r (.inl ⟨_,rfl,hz.1,f.ok rh (.str _ hz.2)⟩)
 . obtain⟨x,rfl,r1⟩:=rs.one;cases r1 with
   |str y ok=>exact ZmP pins s Z H _ us Q I r (.inr ⟨_,rfl,f.ok rh (.str _ ok)⟩)
 . exact f.elim
def Zu2:Zaa X (.type "int") (rF Y E Zvb):=by
 intro pins s Z H xs us Q I r hh;obtain⟨ds,h,B,rh,rs,f⟩:=hh;unfold Zvb at f;split at f
 . split at f
   . rename_i n e;obtain⟨hz,f⟩:=f.iff;obtain⟨x,rfl,r1⟩:=rs.one;cases r1;exact Zj2 pins s Z H _ us Q I r ⟨_,n,rfl,e,hz,f.ok rh (.int _)⟩
   . exact f.elim
 . exact f.elim
def ZuW(hY:Y.K=X.K):Zaa X (.type "tuple") (rF Y E Zu7):=by
 intro pins s Z H xs us Q I r hh;obtain⟨ds,h,B,rh,rs,f⟩:=hh;unfold Zu7 at f;split at f
 . obtain⟨x,rfl,r1⟩:=rs.one;obtain⟨a,vs,rfl,t,rv⟩:=r1.tup_inv;exact Zef pins s Z H _ us Q I r ⟨a,vs,rfl,.inr ⟨hY ▸ t,f.ok rh (.tup t rv)⟩⟩
 . obtain⟨e,e1,f⟩:=f.ofO;obtain⟨zs,e2,rfl⟩:=Oo.mp e1;obtain⟨x,rfl,r1⟩:=rs.one;obtain⟨a,vs,rfl,hl,rv⟩:=r1.lstOf rh e2;exact Zef pins s Z H _ us Q I r ⟨a,vs,rfl,.inl ⟨hY ▸ hl,λp hp=>f.tup rh hp rv⟩⟩
 . exact f.elim
def Zu0(hY:Y.K=X.K):Zaa X (.type "list") (rF Y E Zu9):=by
 intro pins s Z H xs us Q I r hh;obtain⟨ds,h,B,rh,rs,f⟩:=hh;unfold Zu9 at f;split at f
 . split at f
   . rename_i e2;obtain⟨x,rfl,r1⟩:=rs.one;obtain⟨a,vs,rfl,hq,rv⟩:=r1.seqOf rh e2;exact ZlC pins s Z H _ us Q I r ⟨a,vs,rfl,hY ▸ hq,λp hp=>f.new rh hp ⟨_,Zo,rv.mono rh (Gr.lay hp)⟩⟩
   . exact f.elim
 . exact f.elim
theorem ZiZ:∀{ds:List D}{vs:List V}{ns:List Int},RDs Y H B ds vs->intsOf ds=Wn ns->vs=ns.map V.int
 |_,_,_,.nil,e=>by cases e;rfl
 |_,_,_,.cons (d:=d) a s,e=>by
  cases d with
  |int i=>rw[intsOf]at e;obtain⟨z,e1,rfl⟩:=Oo.mp e;cases a;rw[ZiZ s e1];rfl
  |_=>cases e
theorem Zpv:∀{ds:List D}{vs:List V}{ns:List Bool},RDs Y H B ds vs->Zdp ds=Wn ns->vs=ns.map V.bl
 |_,_,_,.nil,e=>by cases e;rfl
 |_,_,_,.cons (d:=d) a s,e=>by
  cases d with
  |bl i=>rw[Zdp]at e;obtain⟨z,e1,rfl⟩:=Oo.mp e;cases a;rw[Zpv s e1];rfl
  |_=>cases e
def ZuX(hc:X.A.handled=Wo)(hY:Y.K=X.K):Zaa X (.builtin "sum") (rF Y E Zu8):=by
 intro pins s Z H xs us Q I r hh;obtain⟨ds,h,B,rh,rs,f⟩:=hh;unfold Zu8 at f;split at f
 . obtain⟨e,e1,f⟩:=f.ofO;obtain⟨ns,e2,rfl⟩:=Oo.mp e1;obtain⟨zs,e3,e4⟩:=Option.bind_eq_some_iff.mp e2;obtain⟨x,rfl,r1⟩:=rs.one;obtain⟨a,vs,rfl,hl,rv⟩:=r1.lstOf rh e3;rw[ZiZ rv e4]at hl;exact Zqn hc pins s Z H _ us Q I r ⟨a,ns,rfl,hY ▸ hl,f.ok rh (.int _)⟩
 . exact f.elim
def Zu5(hc:X.calm=Wp)(hY:Y.K=X.K):Zaa X (.builtin "all") (rF Y E Zhe):=by
 intro pins s Z H xs us Q I r hh;obtain⟨ds,h,B,rh,rs,f⟩:=hh;unfold Zhe at f;split at f
 . obtain⟨e,e1,f⟩:=f.ofO;obtain⟨ns,e2,rfl⟩:=Oo.mp e1;obtain⟨zs,e3,e4⟩:=Option.bind_eq_some_iff.mp e2;obtain⟨x,rfl,r1⟩:=rs.one;obtain⟨a,vs,rfl,hl,rv⟩:=r1.lstOf rh e3;rw[Zpv rv e4]at hl;exact ZsU hc pins s Z H _ us Q I r ⟨a,ns,rfl,hY ▸ hl,f.ok rh (.bl _)⟩
 . exact f.elim
def rT(Y:Yx)(E:XK)(m:Tf):V->List V->Hp->VK->Prop:=λx xs H Q=>∃d e h B,RH Y H B h/\RD Y H B d x/\RDs Y H B [e] xs/\Fin Y (RD Y) H B (txm m d e h) Q E
noncomputable def tid:Tf->String
 |.spl => "str.split"
 |.joi => "str.join"
theorem Zl5:∀(ss:List Str),(∀x∈ss,Yo x=Wp)->RDs Y H B (ss.map D.str) (ss.map V.str)
 |[],_=>.nil
 |x::ss,h=>.cons (.str _ (h x (.head _))) (Zl5 ss λy hy=>h y (.tail _ hy))
theorem Zkt:∀{ds:List D}{vs:List V}{ss:List Str},RDs Y H B ds vs->strsOf ds=Wn ss->vs=ss.map V.str
 |_,_,_,.nil,e=>by cases e;rfl
 |_,_,_,.cons (d:=d) a s,e=>by
  cases d with
  |str i=>rw[strsOf]at e;obtain⟨z,e1,rfl⟩:=Oo.mp e;cases a;rw[Zkt s e1];rfl
  |_=>cases e
def Zwk(hY:Y.K=X.K)(m:Tf):MtR X (tid m) (rT Y E m):=by
 intro pins s Z H x xs v us Q I rx rs hh;obtain⟨d,e,h,B,rh,r1,r2,f⟩:=hh;obtain⟨y,rfl,ry⟩:=r2.one;cases m with
 |spl=>
  unfold txm at f;cases r1 with
  |str a ok=>
   cases ry with
   |str b okb=>obtain⟨⟨rfl,z1,z2,z3⟩,f2⟩:=Fin.iff f;exact ZrZ pins s Z H _ _ v us Q I rx rs ⟨a,rfl,rfl,z1,z2,λp hp=>f2.new rh hp ⟨_,Zo,Zl5 _ λy hy=>OC.mp z3 y hy⟩⟩
   |_=>exact f.elim
  |_=>exact f.elim
 |joi=>
  unfold txm at f;cases r1 with
  |str b okb=>
   simp only at f;split at f
   . rename_i ss e2;obtain⟨⟨rfl,z1,z2⟩,f2⟩:=f.iff;obtain⟨zs,e3,e4⟩:=Option.bind_eq_some_iff.mp e2;obtain⟨a,vs,rfl,hl,rv⟩:=ry.lstOf rh e3;rw[Zkt rv e4]at hl;exact Zuh pins s Z H _ _ v us Q I rx rs ⟨a,ss,rfl,rfl,hY ▸ hl,z1,f2.ok rh (.str _ z2)⟩
   . exact f.elim
  |_=>exact f.elim
def rM(Y:Yx)(E:XK)(m:Mf):V->List V->Hp->VK->Prop:=λx xs H Q=>∃d ds h B,RH Y H B h/\RD Y H B d x/\RDs Y H B ds xs/\Fin Y (RD Y) H B (Zbz m d ds h) Q E
noncomputable def mid:Mf->String
 |.app => "list.append"
 |.ext => "list.extend"
 |.pop => "list.pop"
 |.rev => "list.reverse"
 |.clr => "list.clear"
def ZoL(hY:Y.K=X.K)(m:Mf):MtM X (mid m) (rM Y E m):=by
 intro pins s Z H x xs v us Q I rx rs hh;obtain⟨d,ds,h,B,rh,r1,r2,f⟩:=hh;unfold Zbz at f;split at f
 . split at f
   . rename_i i ys e;obtain⟨a,vs,rfl,hi,hl,rv⟩:=r1.lst rh e;cases m with
     |app=>
      unfold ZhJ Zr5 at f;simp only at f;split at f
      . obtain⟨hz,f⟩:=f.iff;obtain⟨y,rfl,ry⟩:=r2.one;have g:Gr H B (upd H a (.lst (vs++[y]))) B:=Gr.write (O1 hi) (by rw[hl];trivial);exact ZkA pins s Z H _ _ v us Q I rx rs ⟨a,vs,y,rfl,rfl,hl,by rw[<- rv.length];exact hz,f.wrote rh hi ⟨_,Zo,(rv.append (.cons ry .nil)).mono rh g⟩ .non (by rw[hl];trivial)⟩
      . exact f.elim
     |ext=>
      unfold ZhJ Zun at f;simp only at f;split at f
      . split at f
        . rename_i zs e2;obtain⟨hz,f⟩:=f.iff;obtain⟨y,rfl,ry⟩:=r2.one;obtain⟨b,ws,rfl,hj,hl2,rw'⟩:=ry.lst rh e2;have g:Gr H B (upd H a (.lst (vs++ws))) B:=Gr.write (O1 hi) (by rw[hl];trivial);exact Zp5 pins s Z H _ _ v us Q I rx rs ⟨a,b,vs,ws,rfl,rfl,hl,hl2,by rw[<- rv.length,<- rw'.length];exact hz,f.wrote rh hi ⟨_,Zo,(rv.append rw').mono rh g⟩ .non (by rw[hl];trivial)⟩
        . exact f.elim
      . obtain⟨hz,f⟩:=f.iff;obtain⟨y,rfl,ry⟩:=r2.one;obtain⟨b,ws,rfl,t,rw'⟩:=ry.tup_inv;have g:Gr H B (upd H a (.lst (vs++ws))) B:=Gr.write (O1 hi) (by rw[hl];trivial);exact Znz pins s Z H _ _ v us Q I rx rs ⟨a,b,vs,ws,rfl,rfl,hl,hY ▸ t,by rw[<- rv.length,<- rw'.length];exact hz,f.wrote rh hi ⟨_,Zo,(rv.append rw').mono rh g⟩ .non (by rw[hl];trivial)⟩
      . exact f.elim
     |pop=>
      unfold ZhJ Zum at f;simp only at f;split at f
      . split at f
        . rename_i y e2;cases r2;rw[rv.length]at e2;obtain⟨w,e3,rw'⟩:=rv.get e2;have g:Gr H B (upd H a (.lst vs.dropLast)) B:=Gr.write (O1 hi) (by rw[hl];trivial);exact Zxn pins s Z H _ _ v us Q I rx rs ⟨a,vs,w,rfl,rfl,hl,e3,f.wrote rh hi ⟨_,Zo,rv.dropLast.mono rh g⟩ (rw'.mono rh g) (by rw[hl];trivial)⟩
        . exact f.elim
      . exact f.elim
     |rev=>
      unfold ZhJ ZzM at f;simp only at f;split at f
      . cases r2;have g:Gr H B (upd H a (.lst vs.reverse)) B:=Gr.write (O1 hi) (by rw[hl];trivial);exact Zny pins s Z H _ _ v us Q I rx rs ⟨a,vs,rfl,rfl,hl,f.wrote rh hi ⟨_,Zo,rv.reverse.mono rh g⟩ .non (by rw[hl];trivial)⟩
      . exact f.elim
     |clr=>
      unfold ZhJ ZzN at f;simp only at f;split at f
      . cases r2;exact Zr0 pins s Z H _ _ v us Q I rx rs ⟨a,vs,rfl,rfl,hl,f.wrote rh hi ⟨_,Zo,.nil⟩ .non (by rw[hl];trivial)⟩
      . exact f.elim
   . exact f.elim
 . exact f.elim
def rP(Y:Yx)(E:XK):Zvf:=λo i v H Q=>∃a b c h B,RH Y H B h/\RD Y H B a o/\RD Y H B b i/\RD Y H B c v/\Fin Y (λ_ _ (_:Unit) (_:Unit)=>True) H B (Zfu a b c h) (λ_ H'=>Q H') E
def ZwN:Zvg X (rP Y E):=by
 intro pins s Z H o i v ov iv u Q I ro ri rv hh;obtain⟨a,b,c,h,B,rh,ra,rb,rc,f⟩:=hh;unfold Zfu at f;split at f
 . split at f
   . rename_i j xs e;split at f
     . split at f
       . rename_i j' e2;obtain⟨p,vs,rfl,hi,hl,rs⟩:=ra.lst rh e;have hb:=rb.int_inv;subst hb;rw[rs.length]at e2;have g:Gr H B (upd H p (.lst (vs.set j' v))) B:=Gr.write (O1 hi) (by rw[hl];trivial);exact set_list pins s Z H _ _ v ov iv u Q I ro ri rv ⟨p,vs,_,j',rfl,rfl,hl,e2,f.wrote (b:=()) rh hi ⟨_,Zo,(RDs.set rc j' rs).mono rh g⟩ trivial (by rw[hl];trivial)⟩
       . exact f.elim
     . exact f.elim
   . rename_i j kvs e;split at f
     . rename_i k e2;obtain⟨hz,f⟩:=f.iff;obtain⟨p,vs,rfl,hi,hl,rs⟩:=ra.dic rh e;have g:Gr H B (upd H p (.dK (putK vs k v))) B:=Gr.write (O1 hi) (by rw[hl];trivial);exact set_dict pins s Z H _ _ v ov iv u Q I ro ri rv ⟨p,vs,k,rfl,ZdU rb e2,hl,by rw[<- rs.length];exact hz,f.wrote (b:=()) rh hi ⟨_,Zo,(rs.put k rc).mono rh g⟩ trivial (by rw[hl];trivial) (ZiX (rh.ks _ _ e) (Zse rb e2))⟩
     . exact f.elim
   . exact f.elim
 . exact f.elim
end
def rW(K:Yk)(x:V)(H1:Hp)(R:It->Hp->Prop):Prop:=(∃a,x=.ref a/\(∃xs,SqL K H1 a xs)/\R (Itl K a) H1)\/(∃a,x=.ref a/\(∃xs,SqT K H1 a xs)/\R (Itt K a) H1)
def ZwV(hl:PE X l tl):PI X tg l (λZ H R=>tl Z H λx H1=>rW X.K x H1 R):=by
 intro pins s Z H R I h;refine thn (hl pins s Z H _ I h) λv s1 ⟨x,H1,I1,r1,q1⟩=>?_;have fp1:∀b∈[s1.heap.objs.size],Zc4 X pins H1 b:=λb hb=>by
  have e:b=s1.heap.objs.size:=by simpa using hb
  subst e;exact I1.fpOk (Oq _) (I1.hok.fresh (Oq _))
 rcases q1 with ⟨a,rfl,⟨xs,hq⟩,q⟩|⟨a,rfl,⟨xs,hq⟩,q⟩
 . cases r1;obtain⟨its,rv,p,hz⟩:=I1.list hq;exact wpAny_pyIter_list p.isList ⟨s1.heap.objs.size,[s1.heap.objs.size],_,_,H1,rfl,I1.kept (t':=s1.toks) λb o e=>Od _ e,ZpI a _,⟨_,Oj _ rfl,rfl,rfl⟩,fp1,q⟩
 . cases r1;obtain⟨its,rv,p,hz⟩:=I1.tuple hq;exact wpAny_pyIter_tuple (show s1.heap.IsTuple a its.toArray from p) ⟨s1.heap.objs.size,[s1.heap.objs.size],_,_,H1,rfl,I1.kept (t':=s1.toks) λb o e=>Od _ e,Zna a _,⟨_,Oj _ rfl,rfl,rfl⟩,fp1,q⟩
def WJ(Y:Yx)(H0:Hp)(μ0:List Yi)(w:Wk)(J:It):Prop:=∀H B h,Gr H0 μ0 H B->RH Y H B h->Wk.stays w.src h=Wp ->
 (∀i d,w.xs[i]? = Wn d->J.go i H/\∀x H',J.yld i H x H'->Gr H B H' B/\RH Y H' B h/\RD Y H' B d x)/\J.stop w.xs.length H
section
variable {X:Cx}{Y:Yx}{E:XK}{T:Tb}{H:Hp}{B:List Yi}{h:Hd}
def Zwc(hY:Y.K=X.K)(rh:RH Y H B h)(t:SqT Y.K H a vs)(s:RDs Y H B xs vs):WJ Y H B ⟨[],xs⟩ (Itt X.K a):=by intro H1 μ1 h1 g rh1 st;have t1:=g.rdT rh t;have s1:=s.mono rh g;rw[hY]at t1;refine⟨λi d e=>?_,⟨vs,t1,by rw[s.length];exact Oq _⟩⟩;obtain⟨v,e1,r1⟩:=s1.get e;refine⟨⟨vs,v,t1,e1⟩,λx H' ⟨eH,q⟩=>?_⟩;subst eH;have:=q vs t1;rw[e1]at this;cases this;exact⟨Gr.refl,rh1,r1⟩
def Zvj(hY:Y.K=X.K)(rh:RH Y H B h)(t:FzL Y.K H a vs)(s:RDs Y H B xs vs):WJ Y H B ⟨[],xs⟩ (Itl X.K a):=by intro H1 μ1 h1 g rh1 st;have t1:=(g.rdF rh t).sq;have s1:=s.mono rh g;rw[hY]at t1;refine⟨λi d e=>?_,⟨vs,t1,by rw[s.length];exact Oq _⟩⟩;obtain⟨v,e1,r1⟩:=s1.get e;refine⟨⟨vs,v,t1,e1⟩,λx H' ⟨eH,q⟩=>?_⟩;subst eH;have:=q vs t1;rw[e1]at this;cases this;exact⟨Gr.refl,rh1,r1⟩
def Ziw(st:Wk.stays ((i,xs)::r) h=Wp):h[i]? = Wn (.lst xs):=of_decide_eq_true (Bool.and_eq_true_iff.mp st).1
def ZqB(hi:B[i]? = Wn a):WJ Y H B ⟨[(i,xs)],xs⟩ (Itl X.K a):=by intro H1 μ1 h1 g rh1 st;obtain⟨vs,hl,s1⟩:=rh1.ob i _ a (Ziw st) (g.pre i a hi);have t1:SqL X.K H1 a vs:=.of hl;refine⟨λi d e=>?_,⟨vs,t1,by rw[s1.length];exact Oq _⟩⟩;obtain⟨v,e1,r1⟩:=s1.get e;refine⟨⟨vs,v,t1,e1⟩,λx H' ⟨eH,q⟩=>?_⟩;subst eH;have:=q vs t1;rw[e1]at this;cases this;exact⟨Gr.refl,rh1,r1⟩
def Zwe{lo:Int}:WJ Y H B ⟨[],ZM lo n⟩ (Itr lo n):=by
 intro H1 μ1 h1 g rh1 st;have hl:(ZM lo n).length=n:=by simp[ZM]
 refine⟨λi d e=>?_,by show n<=(ZM lo n).length;rw[hl];exact Oq _⟩;have hi:i<n:=by have:=(Ob.mp e).1;rw[hl]at this;exact this
 refine⟨hi,λx H' ⟨eH,q⟩=>?_⟩;subst eH q;have:d=.int (lo+i):=by unfold ZM at e;rw[On,List.getElem?_range hi]at e;exact(YD e).symm
 subst this;exact⟨Gr.refl,rh1,.int _⟩
def ZsG{xs:List D}{i:Nat}{d:D}(e:(Zdi xs)[i]? = Wn d):∃x,xs[i]? = Wn x/\d=.tup [.int i,x]:=by unfold Zdi at e;rw[List.getElem?_mapIdx]at e;obtain⟨x,e1,e2⟩:=Oo.mp e;exact⟨x,e1,e2.symm⟩
def Zn0{a:Yi}{src:List (Nat×List D)}{xs:List D}(hw:WJ Y H B ⟨src,xs⟩ (Itl X.K a))(sq:∀H1 μ1 h1,Gr H B H1 μ1->RH Y H1 μ1 h1->Wk.stays src h1=Wp->∃vs,SqL X.K H1 a vs/\RDs Y H1 μ1 xs vs):WJ Y H B ⟨src,Zdi xs⟩ (Ite X.K a):=by
 intro H1 μ1 h1 g rh1 st;obtain⟨vs,t1,s1⟩:=sq H1 μ1 h1 g rh1 st;have hl:(Zdi xs).length=xs.length:=by simp[Zdi]
 refine⟨λi d e=>?_,⟨vs,t1,by rw[hl,s1.length]⟩⟩;obtain⟨x0,e0,rfl⟩:=ZsG e;obtain⟨v,e1,r1⟩:=s1.get e0;refine⟨⟨vs,v,t1,e1⟩,λx H' ⟨p,ex,hp,y,q,eH⟩=>?_⟩;subst ex eH;have:=q vs t1;rw[e1]at this;cases this;exact⟨Gr.lay0 hp,rh1.lay0 hp,.tup (.inl (.inl Zo)) (.cons (.int _) (.cons (r1.mono rh1 (Gr.lay0 hp)) .nil))⟩
def Zwf(hY:Y.K=X.K)(rh:RH Y H B h)(t:SqT Y.K H a vs)(s:RDs Y H B xs vs):WJ Y H B ⟨[],xs.reverse⟩ (Itv X.K a vs.length):=by intro H1 μ1 h1 g rh1 st;have t1:=g.rdT rh t;have s1:=(s.mono rh g).reverse;rw[hY]at t1;refine⟨λi d e=>?_,⟨vs,t1,rfl,by simp[s.length]⟩⟩;obtain⟨v,e1,r1⟩:=s1.get e;refine⟨⟨vs,v,t1,rfl,e1⟩,λx H' ⟨eH,q⟩=>?_⟩;subst eH;have:=q vs t1;rw[e1]at this;cases this;exact⟨Gr.refl,rh1,r1⟩
def Zs8(hi:B[i]? = Wn a):WJ Y H B ⟨[(i,xs)],xs.reverse⟩ (Zym X.K a xs.length):=by intro H1 μ1 h1 g rh1 st;obtain⟨vs,hl,s0⟩:=rh1.ob i _ a (Ziw st) (g.pre i a hi);have t1:SqL X.K H1 a vs:=.of hl;have s1:=s0.reverse;refine⟨λi d e=>?_,⟨vs,t1,s0.length.symm,by simp⟩⟩;obtain⟨v,e1,r1⟩:=s1.get e;refine⟨⟨vs,v,t1,s0.length.symm,e1⟩,λx H' ⟨eH,q⟩=>?_⟩;subst eH;have:=q vs t1;rw[e1]at this;cases this;exact⟨Gr.refl,rh1,r1⟩
def Zwb{X:Cx}(hY:Y.K=X.K)(rh:RH Y H B h)(t:SqT Y.K H a vs)(s:RDs Y H B xs vs)(t':SqT Y.K H b vs')(s':RDs Y H B ys vs')(hl:xs.length=ys.length):WJ Y H B ⟨[],Zin xs ys⟩ (Itz X.K a b):=by
 intro H1 μ1 h1 g rh1 st;have t1:=g.rdT rh t;have s1:=s.mono rh g;have t2:=g.rdT rh t';have s2:=s'.mono rh g;rw[hY]at t1 t2;have hz:(Zin xs ys).length=xs.length:=by simp[Zin,hl]
 refine⟨λi d e=>?_,⟨vs,t1,by rw[hz,s1.length]⟩⟩;obtain⟨x0,y0,e0,e1,rfl⟩:∃x0 y0,xs[i]? = Wn x0/\ys[i]? = Wn y0/\d=.tup [x0,y0]:=by
  unfold Zin at e;rw[List.getElem?_zipWith]at e;split at e
  . rename_i x y q1 q2;exact⟨x,y,q1,q2,(YD e).symm⟩
  . cases e
 obtain⟨v,e2,r2⟩:=s1.get e0;obtain⟨u,e3,r3⟩:=s2.get e1;refine⟨⟨vs,vs',v,u,t1,t2,e2,e3⟩,λx H' ⟨p,x1,y1,ex,hp,q1,q2,eH⟩=>?_⟩;subst ex eH;have:=q1 vs t1;rw[e2]at this;cases this;have:=q2 vs' t2;rw[e3]at this;cases this;exact⟨Gr.lay0 hp,rh1.lay0 hp,.tup (.inl (.inl Zo)) (.cons (r2.mono rh1 (Gr.lay0 hp)) (.cons (r3.mono rh1 (Gr.lay0 hp)) .nil))⟩
def Zwd{y:Str}(ok:Yo y=Wp):WJ Y H B ⟨[],y.cps.toList.map λc=>.str ⟨#[c]⟩⟩ (Its y):=by intro H1 μ1 h1 g rh1 st;refine⟨λi d e=>?_,by show _=_;simp⟩;simp only[On]at e;obtain⟨c,ec,rfl⟩:=Oo.mp e;have hi:=(Ob.mp ec).1;refine⟨by show i<y.cps.size;simpa using hi,λx H' ⟨eH,c',e',ex⟩=>?_⟩;subst eH ex;rw[Array.getElem?_toList]at ec;rw[ec]at e';cases e';exact⟨Gr.refl,rh1,.str _ (Znv ok (by rw[<- Array.getElem?_toList]at ec;exact O1 ec))⟩
def Zs9{d:D}{R:It->Hp->Prop}(hY:Y.K=X.K)(rh:RH Y H B h)(r:RD Y H B d x)(e:Zio d h=Wn w)(q:∀J,WJ Y H B w J->R J H):rW X.K x H R:=by
 cases d with
 |tup xs=>cases e;obtain⟨a,vs,rfl,t,s⟩:=r.tup_inv;exact .inr ⟨a,rfl,⟨vs,hY ▸ t⟩,q _ (Zwc hY rh t s)⟩
 |ro xs=>
  cases e;cases r with
  |ro t s=>exact .inl ⟨_,rfl,⟨_,hY ▸ t.sq⟩,q _ (Zvj hY rh t s)⟩
 |ref i=>
  unfold Zio at e;simp only at e;split at e
  . rename_i xs he;cases e;obtain⟨a,vs,rfl,hi,hl,s⟩:=r.lst rh he;exact .inl ⟨a,rfl,⟨vs,.of hl⟩,q _ (ZqB hi)⟩
  . cases e
 |_=>cases e
end
structure Kl where
 cs:List Str
 ats:List Str
 ms:List (Str×Str)
 is:List Str
 xs:List Str:=[]
 xa:List (Str×Str):=[]
 xi:List (Str×Str×Bool):=[]
structure Gm where
 N:List Str
 sc:Scope
 fs:List Str
 top:Bool
 kl:Kl
noncomputable def glb(Γ:Gm)(x:Str):Bool:=Wr (Γ.sc.names.lookup x=Wn .globalImplicit)&&!(x==("__debug__" : Str))
noncomputable def Ztb(sc:Scope)(x:Str):Bool:=Wr (sc.names.lookup x=Wn .local) || Wr (sc.names.lookup x=Wn .cell) || Wr (sc.names.lookup x=Wn .free)
noncomputable def Zpt:Bf->Str
 |.len => "len" |.isi => "isinstance" |.int => "int" |.tup => "tuple" |.lst => "list" |.sum => "sum" |.all => "all" |.srt => "sorted" |.mx => "max" |.sri => "sorted" |.lnd => "len" |.dct => "dict" |.ldk => "list" |.sto => "str" |.itx => "int"
noncomputable def Zvm:Tf->Str
 |.spl => "split"
 |.joi => "join"
noncomputable def bok:Bf->Bool
 |.mx=>Wq
 |.sri=>Wq
 |.lnd=>Wq
 |.dct=>Wq
 |.ldk=>Wq
 |_=>Wp
noncomputable def Zr1:Mf->Str
 |.app => "append" |.ext => "extend" |.pop => "pop" |.rev => "reverse" |.clr => "clear"
noncomputable def Zpu:List Str:=["len", "isinstance", "int", "tuple", "list", "sum", "all", "sorted", "range", "enumerate", "reversed", "str", "bool", "max", "repr", "zip", "set", "dict", "any", "ValueError"]
noncomputable def Zn3:List String:=["int", "str", "bool", "tuple", "list"]
structure Pt where
 a:Expr:=default
 b:Expr:=default
 c:Expr:=default
 xs:List Expr:=[]
 s:Str:=⟨#[]⟩
 op:Operator:=.Add
 cs:List CmpOp:=[]
 u:UnaryOp:=.Not
 bo:BoolOp:=.And
 p:Pos:=default
 kw:List Keyword:=[]
 l:Option Expr:=Wo
 h:Option Expr:=Wo
 st:Option Expr:=Wo
 ks:List (Option Expr):=[]
 gs:List Comprehension:=[]
 sc:Scope:=default
 k:Nat:=0
 v:Const:=.none
noncomputable def tgE:Expr->Nat
 |.Starred _ _=>0|.BoolOp _ _ _=>1|.UnaryOp _ _ _=>2|.IfExp _ _ _ _=>3|.Compare _ _ _ _=>4|.Slice _ _ _ _=>5|.Name _ _=>6|.BinOp _ _ _ _=>7|.Tuple _ _ _=>8|.List _ _=>9
 |.Subscript _ _ _=>10|.Call _ _ _ _=>11|.Attribute _ _ _=>12|.ListComp _ _ _ _=>13|.Dict _ _ _=>14|.Constant _ _ _=>15|.NamedExpr _ _ _=>17|.Set _ _ _=>18|.SetComp _ _ _ _=>19|.DictComp _ _ _ _ _=>19|_=>16
def prt(e:Expr):Pt:=match e with
 |.BoolOp o xs p=>{bo:=o,xs:=xs,p:=p}
 |.UnaryOp o x p=>{a:=x,u:=o,p:=p}
 |.IfExp t x y p=>{a:=t,b:=x,c:=y,p:=p}
 |.Compare l os rs p=>{a:=l,cs:=os,xs:=rs,p:=p}
 |.Slice l u s p=>{l:=l,h:=u,st:=s,p:=p}
 |.Name x p=>{s:=x,p:=p}
 |.BinOp l o r p=>{a:=l,b:=r,op:=o,p:=p}
 |.Tuple xs k p=>{xs:=xs,k:=k,p:=p}
 |.List xs p=>{xs:=xs,p:=p}
 |.Subscript x y p=>{a:=x,b:=y,p:=p}
 |.Call f xs kw p=>{a:=f,xs:=xs,kw:=kw,p:=p}
 |.Attribute x n p=>{a:=x,s:=n,p:=p}
 |.ListComp x gs sc p=>{a:=x,gs:=gs,p:=p,sc:=sc}
 |.Dict ks vs p=>{ks:=ks,xs:=vs,p:=p}
 |.Constant c k p=>{v:=c,k:=k,p:=p}
 |_=>{a:=e}
def mkE(n:Nat)(p:Pt):Expr:=match n with
 |1=>.BoolOp p.bo p.xs p.p|2=>.UnaryOp p.u p.a p.p|3=>.IfExp p.a p.b p.c p.p|4=>.Compare p.a p.cs p.xs p.p|5=>.Slice p.l p.h p.st p.p|6=>.Name p.s p.p|7=>.BinOp p.a p.op p.b p.p
 |8=>.Tuple p.xs p.k p.p|9=>.List p.xs p.p|10=>.Subscript p.a p.b p.p|11=>.Call p.a p.xs p.kw p.p|12=>.Attribute p.a p.s p.p
 |13=>.ListComp p.a p.gs p.sc p.p|14=>.Dict p.ks p.xs p.p|15=>.Constant p.v p.k p.p|_=>p.a
def rb(e:Expr):mkE (tgE e) (prt e)=e:=by cases e<;>rfl
def bL{a b:Bool}(h:(a&&b)=Wp):a=Wp:=by cases a with|true=>rfl|false=>cases h
def bR{a b:Bool}(h:(a&&b)=Wp):b=Wp:=by cases a with|true=>exact h|false=>cases h
def bO{a b:Bool}{P:Prop}(h:(a || b)=Wp)(l:a=Wp->P)(r:b=Wp->P):P:=by cases a with|true=>exact l rfl|false=>exact r h
def ff{P:Prop}(h:Wq=Wp):P:=by cases h
def dS{α:Type}{P:α->Prop}{a b:α}[Decidable (a=b)](h:Wr (a=b)=Wp)(k:P b):P a:=of_decide_eq_true h ▸ k
def an(n:Nat)(e:Expr)(f:Pt->Bool):Bool:=Wr (tgE e=n)&&f (prt e)
section
variable {P:Expr->Prop}{e:Expr}
def ZaK(h:an n e f=Wp)(k:∀p,f p=Wp->P (mkE n p)):P e:=rb e ▸ dS (P:=λm=>P (mkE m (prt e))) (bL h) (k _ (bR h))
noncomputable def l1{α:Type}(xs:List α)(f:α->Bool):Bool:=match xs with
 |[y]=>f y
 |_=>Wq
@[elab_as_elim] theorem ZaY{α:Type}{P:List α->Prop}{xs:List α}{f:α->Bool}(h:l1 xs f=Wp)(k:∀y,f y=Wp->P [y]):P xs:=by
 cases xs with
 |nil=>cases h
 |cons y r=>
  cases r with
  |nil=>exact k y h
  |cons _ _=>cases h
noncomputable def l2{α:Type}(xs:List α)(f:α->α->Bool):Bool:=match xs with
 |[x,y]=>f x y
 |_=>Wq
@[elab_as_elim] theorem Zmp{α:Type}{P:List α->Prop}{xs:List α}{f:α->α->Bool}(h:l2 xs f=Wp)(k:∀x y,f x y=Wp->P [x,y]):P xs:=by
 cases xs with
 |nil=>cases h
 |cons x r=>
  cases r with
  |nil=>cases h
  |cons y r=>
   cases r with
   |nil=>exact k x y h
   |cons _ _=>cases h
noncomputable def l0{α:Type}(xs:List α)(b:Bool):Bool:=xs.isEmpty&&b
def ZkE{α:Type}{P:List α->Prop}{xs:List α}(h:l0 xs b=Wp)(k:b=Wp->P []):P xs:=by
 cases xs with
 |nil=>exact k h
 |cons _ _=>cases h
@[irreducible] def aN(e:Expr)(f:Str->Bool):Bool:=an 6 e λp=>f p.s
@[elab_as_elim] theorem ZzI(h:aN e f=Wp)(k:∀x q,f x=Wp->P (.Name x q)):P e:=by unfold aN at h;exact ZaK h λ_ h=>k _ _ h
@[irreducible] def aX(x:Str)(e:Expr)(b:Bool):Bool:=an 6 e λp=>Wr (p.s=x)&&b
@[elab_as_elim] theorem Zm9(h:aX x e b=Wp)(k:∀q,b=Wp->P (.Name x q)):P e:=by unfold aX at h;exact ZaK h λp h=>dS (P:=λs=>P (.Name s p.p)) (bL h) (k _ (bR h))
@[irreducible] def aB2(o:Operator)(e:Expr)(f:Expr->Expr->Bool):Bool:=an 7 e λp=>Wr (p.op=o)&&f p.a p.b
@[elab_as_elim] theorem Zv9(h:aB2 o e f=Wp)(k:∀l r q,f l r=Wp->P (.BinOp l o r q)):P e:=by unfold aB2 at h;exact ZaK h λp h=>dS (P:=λs=>P (.BinOp p.a s p.b p.p)) (bL h) (k _ _ _ (bR h))
@[irreducible] def aC1(o:CmpOp)(e:Expr)(f:Expr->Expr->Bool):Bool:=an 4 e λp=>Wr (p.cs=[o])&&l1 p.xs λr=>f p.a r
@[elab_as_elim] theorem ZsW(h:aC1 o e f=Wp)(k:∀l r q,f l r=Wp->P (.Compare l [o] [r] q)):P e:=by unfold aC1 at h;exact ZaK h λp h=>dS (P:=λs=>P (.Compare p.a s p.xs p.p)) (bL h) (ZaY (P:=λs=>P (.Compare p.a [o] s p.p)) (bR h) λ_ h=>k _ _ _ h)
@[irreducible] def aC2(o o':CmpOp)(e:Expr)(f:Expr->Expr->Expr->Bool):Bool:=an 4 e λp=>Wr (p.cs=[o,o'])&&l2 p.xs λm r=>f p.a m r
@[elab_as_elim] theorem Zv6(h:aC2 o o' e f=Wp)(k:∀l m r q,f l m r=Wp->P (.Compare l [o,o'] [m,r] q)):P e:=by unfold aC2 at h;exact ZaK h λp h=>dS (P:=λs=>P (.Compare p.a s p.xs p.p)) (bL h) (Zmp (P:=λs=>P (.Compare p.a [o,o'] s p.p)) (bR h) λ_ _ h=>k _ _ _ _ h)
@[irreducible] def aU(u:UnaryOp)(e:Expr)(f:Expr->Bool):Bool:=an 2 e λp=>Wr (p.u=u)&&f p.a
@[elab_as_elim] theorem Zwj(h:aU u e f=Wp)(k:∀x q,f x=Wp->P (.UnaryOp u x q)):P e:=by unfold aU at h;exact ZaK h λp h=>dS (P:=λs=>P (.UnaryOp s p.a p.p)) (bL h) (k _ _ (bR h))
@[irreducible] def aO(o:BoolOp)(e:Expr)(f:List Expr->Bool):Bool:=an 1 e λp=>Wr (p.bo=o)&&f p.xs
@[elab_as_elim] theorem Zue(h:aO o e f=Wp)(k:∀xs q,f xs=Wp->P (.BoolOp o xs q)):P e:=by unfold aO at h;exact ZaK h λp h=>dS (P:=λs=>P (.BoolOp s p.xs p.p)) (bL h) (k _ _ (bR h))
@[irreducible] def aI(e:Expr)(f:Expr->Expr->Expr->Bool):Bool:=an 3 e λp=>f p.a p.b p.c
@[elab_as_elim] theorem ZBv(h:aI e f=Wp)(k:∀t x y q,f t x y=Wp->P (.IfExp t x y q)):P e:=by unfold aI at h;exact ZaK h λ_ h=>k _ _ _ _ h
@[irreducible] def aT(e:Expr)(f:List Expr->Bool):Bool:=an 8 e λp=>f p.xs
@[elab_as_elim] theorem Zl4(h:aT e f=Wp)(k:∀xs j q,f xs=Wp->P (.Tuple xs j q)):P e:=by unfold aT at h;exact ZaK h λ_ h=>k _ _ _ h
@[irreducible] def aLs(e:Expr)(f:List Expr->Bool):Bool:=an 9 e λp=>f p.xs
@[elab_as_elim] theorem ZvH(h:aLs e f=Wp)(k:∀xs q,f xs=Wp->P (.List xs q)):P e:=by unfold aLs at h;exact ZaK h λ_ h=>k _ _ h
@[irreducible] def aS(e:Expr)(f:Expr->Expr->Bool):Bool:=an 10 e λp=>f p.a p.b
@[elab_as_elim] theorem ZwB(h:aS e f=Wp)(k:∀x y q,f x y=Wp->P (.Subscript x y q)):P e:=by unfold aS at h;exact ZaK h λ_ h=>k _ _ _ h
@[irreducible] def aSl(e:Expr)(f:Expr->Option Expr->Option Expr->Bool):Bool:=aS e λx y=>an 5 y λp=>p.st.isNone&&f x p.l p.h
@[elab_as_elim] theorem Zy2(h:aSl e f=Wp)(k:∀x l u q r,f x l u=Wp->P (.Subscript x (.Slice l u Wo q) r)):P e:=by
 unfold aSl at h;exact ZwB h λx _ r h=>ZaK (P:=λy=>P (.Subscript x y r)) h λp h=>by show P (.Subscript x (.Slice p.l p.h p.st p.p) r);rw[Option.isNone_iff_eq_none.mp (bL h)];exact k _ _ _ _ _ (bR h)
@[irreducible] def aCN(n:Str)(e:Expr)(f:List Expr->Bool):Bool:=an 11 e λp=>aX n p.a (l0 p.kw (f p.xs))
@[elab_as_elim] theorem Zdm(h:aCN n e f=Wp)(k:∀p ys q,f ys=Wp->P (.Call (.Name n p) ys [] q)):P e:=by unfold aCN at h;exact ZaK h λp h=>Zm9 (P:=λa=>P (.Call a p.xs p.kw p.p)) h λq h=>ZkE (P:=λw=>P (.Call (.Name n q) p.xs w p.p)) h λh=>k _ _ _ h
@[irreducible] def aCk(n w:Str)(e:Expr)(f:List Expr->Expr->Bool):Bool:=an 11 e λp=>aX n p.a (l1 p.kw λy=>match y with|⟨a,z,_⟩=>Wr (a=Wn w)&&f p.xs z)
@[elab_as_elim] theorem ZAl(h:aCk n w e f=Wp)(k:∀p ys z r q,f ys z=Wp->P (.Call (.Name n p) ys [⟨Wn w,z,r⟩] q)):P e:=by
 unfold aCk at h;exact ZaK h λp h=>Zm9 (P:=λa=>P (.Call a p.xs p.kw p.p)) h λq h=>ZaY (P:=λw=>P (.Call (.Name n q) p.xs w p.p)) h λy h=>match y,h with
  |⟨_,z,r⟩,h=>dS (P:=λs=>P (.Call (.Name n q) p.xs [⟨s,z,r⟩] p.p)) (bL h) (k _ _ _ _ _ (bR h))
@[irreducible] def aA(n:Str)(e:Expr)(f:Expr->Pos->Bool):Bool:=an 12 e λp=>Wr (p.s=n)&&f p.a p.p
@[elab_as_elim] theorem Zve(h:aA n e f=Wp)(k:∀x q,f x q=Wp->P (.Attribute x n q)):P e:=by unfold aA at h;exact ZaK h λp h=>dS (P:=λs=>P (.Attribute p.a s p.p)) (bL h) (k _ _ (bR h))
@[irreducible] def aCA(n:Str)(e:Expr)(f:Expr->Pos->List Expr->Pos->Bool):Bool:=an 11 e λp=>aA n p.a λx ap=>l0 p.kw (f x ap p.xs p.p)
@[elab_as_elim] theorem ZsV(h:aCA n e f=Wp)(k:∀x ap ys cp,f x ap ys cp=Wp->P (.Call (.Attribute x n ap) ys [] cp)):P e:=by unfold aCA at h;exact ZaK h λp h=>Zve (P:=λa=>P (.Call a p.xs p.kw p.p)) h λx q h=>ZkE (P:=λw=>P (.Call (.Attribute x n q) p.xs w p.p)) h λh=>k _ _ _ _ h
@[irreducible] def aLC(e:Expr)(f:Expr->Expr->Expr->List Expr->Scope->Bool):Bool:=an 13 e λp=>l1 p.gs λg=>match g with|⟨t,i,c,n⟩=>Wr (n=0)&&f p.a t i c p.sc
@[elab_as_elim] theorem ZvL(h:aLC e f=Wp)(k:∀x t i c sc q,f x t i c sc=Wp->P (.ListComp x [⟨t,i,c,0⟩] sc q)):P e:=by
 unfold aLC at h;exact ZaK h λp h=>ZaY (P:=λg=>P (.ListComp p.a g p.sc p.p)) h λg h=>match g,h with
  |⟨t,i,c,_⟩,h=>dS (P:=λs=>P (.ListComp p.a [⟨t,i,c,s⟩] p.sc p.p)) (bL h) (k _ _ _ _ _ _ (bR h))
@[irreducible] def aD(e:Expr)(f:List (Option Expr)->List Expr->Bool):Bool:=an 14 e λp=>f p.ks p.xs
@[elab_as_elim] theorem ZBJ(h:aD e f=Wp)(k:∀ks vs q,f ks vs=Wp->P (.Dict ks vs q)):P e:=by unfold aD at h;exact ZaK h λ_ h=>k _ _ _ h
@[irreducible] def aK(e:Expr)(f:Const->Bool):Bool:=an 15 e λp=>f p.v
@[elab_as_elim] theorem ZzV(h:aK e f=Wp)(k:∀c j q,f c=Wp->P (.Constant c j q)):P e:=by unfold aK at h;exact ZaK h λ_ h=>k _ _ _ h
end
noncomputable def ZBL:D->Const->Bool
 |.int i,.int j=>Wr (i=j)
 |.str x,.str y=>Wr (x=y)&&Yo y
 |.bl b,.bool c=>Wr (b=c)
 |.non,.none=>Wp
 |_,_=>Wq
def ZAo(Γ:Gm)(d:D)(e:Expr):Bool:=(aK e λc=>ZBL d c) || match d with
 |.ty n=>aX (Str.ofString n) e (Wr (n∈Zn3)&&glb Γ (Str.ofString n))
 |_=>Wq
noncomputable def ZsO(NC N:List Str)(js:List (Option Nat))(sc scope:Scope):Bool:=
 Wr (scope.kind=.function)&&Wr (sc.kind=.function)&&(scope.names.all λy=>Wr (y.2≠.cell))&&(scope.names.all λy=>!Wr (y.2=.local) || Wr (scope.names.lookup y.1=Wn .local)) &&
  (scope.names.all λy=>!Wr (y.2=.free) || Wr (sc.names.lookup y.1=Wn .cell))&&decide NC.Nodup&&Wr (js.length=NC.length) &&
  ((NC.zip js).all λp=>p.2.all λj=>Wr (N[j]? = Wn p.1)&&Wr (scope.names.lookup p.1=Wn .free))
def ZmG(h:ZsO NC N js sc scope=Wp):CompSc NC N js sc scope:=by
 unfold ZsO at h;rw[Oa,Oa,Oa,Oa,Oa,Oa,Oa]at h;obtain⟨⟨⟨⟨⟨⟨⟨a,b⟩,c⟩,d⟩,e⟩,f⟩,g⟩,i⟩:=h;rw[OC]at c d e;refine⟨of_decide_eq_true a,of_decide_eq_true b,λy hy=>of_decide_eq_true (c y hy),λy hy e1=>?_,λy hy e1=>?_,of_decide_eq_true f,of_decide_eq_true g,i⟩
 . have:=d y hy;rw[decide_eq_true e1]at this;simpa using this
 . have:=e y hy;rw[decide_eq_true e1]at this;simpa using this
def Znx(N:List Str)(own:Str->Bool)(i:Nat)(e:Expr):Bool:=aN e λx=>Wr (N[i]? = Wn x)&&own x
def Zpn(N:List Str)(own:Str->Bool):List Nat->List Expr->Bool
 |[],es=>es.isEmpty
 |i::is,es=>match es with
  |e::es=>Znx N own i e&&Zpn N own is es
  |[]=>Wq
def Zpp(N:List Str)(own:Str->Bool)(i j:Nat)(e:Expr):Bool:=aT e λes=>l2 es λa b=>Znx N own i a&&Znx N own j b
def Zpo(N:List Str)(own:Str->Bool)(is:List Nat)(e:Expr):Bool:=aT e λes=>Zpn N own is es
def ZuR(N:List Str)(own:Str->Bool)(g:Tg)(e:Expr):Bool:=match g with
 |.nm i=>Znx N own i e
 |.two i j=>Zpp N own i j e
 |.many is=>Zpo N own is e
@[elab_as_elim] theorem Zbp{P:Expr->Prop}(h:Znx N own i e=Wp)(k:∀x p,N[i]? = Wn x->own x=Wp->P (.Name x p)):P e:=ZzI h λ_ _ h=>k _ _ (of_decide_eq_true (bL h)) (bR h)
def isTup(e:Expr):Bool:=Wr (tgE e=8)
@[elab_as_elim] theorem Zsh{P:Expr->Prop}(h:isTup e=Wp)(k:∀xs j q,P (.Tuple xs j q)):P e:=Zl4 (P:=P) (f:=λ_=>Wp) (by unfold aT an;rw[show Wr (tgE e=8)=Wp from h];rfl) λ_ _ _ _=>k _ _ _
noncomputable def tgk:Tg->Nat
 |.nm i=>i+1
 |.two i j=>max i j+1
 |.many is=>is.foldr max 0+1
noncomputable def Zzs(sc:Scope)(x:Str):Bool:=Wr (sc.names.lookup x=Wn .local)
noncomputable def ownD(sc:Scope)(x:Str):Bool:=Wr (sc.names.lookup x=Wn .local) || Wr (sc.names.lookup x=Wn .cell)
def Zbv(e:Expr):Bool:=Wr (tgE e≠18)
def ZiK(e:Expr):Bool:=Wr (tgE e≠5)
def ZaQ(e:Expr):Bool:=Wr (tgE e≠0)
def Zbw(e:Expr):Bool:=!(Wr (tgE e=11)&&(prt e).xs.isEmpty)
def Znq(e:Expr):Bool:=Wr (6<=tgE e)&&Wr (tgE e<=16)
mutual
def chk(Γ:Gm):Ex->Expr->Bool
 |.var i,e=>aN e λx=>Wr (Γ.N[i]? = Wn x)&&(Ztb Γ.sc x&&(!(x==("__debug__" : Str))&&!(x==("__classdict__" : Str))))
 |.cst d,e=>ZAo Γ d e
 |.glo x,e=>aX x e (glb Γ x)
 |.bin op a b,e=>aB2 op e λl r=>chk Γ a l&&chk Γ b r
 |.cmp op a b,e=>aC1 op e λl r=>chk Γ a l&&(chk Γ b r&&Zbv r)
 |.cmp2 o1 o2 a b c,e=>aC2 o1 o2 e λl m r=>chk Γ a l&&(chk Γ b m&&(chk Γ c r&&Zbv r))
 |.neg a,e=>aU .USub e λx=>chk Γ a x
 |.nt a,e=>aU .Not e λx=>chk Γ a x
 |.ands es,e=>aO .And e λxs=>chks Γ es xs
 |.ors es,e=>aO .Or e λxs=>chks Γ es xs
 |.ite c a b,e=>aI e λt x y=>chkt Γ c t&&(chk Γ a x&&chk Γ b y)
 |.tupl es,e=>aT e λxs=>chks Γ es xs
 |.lstl es,e=>aLs e λxs=>chks Γ es xs
 |.ix a i,e=>aS e λx y=>chk Γ a x&&(chk Γ i y&&ZiK y)
 |.sl a lo hi,e=>aSl e λx l u=>chk Γ a x&&(chko Γ lo l&&chko Γ hi u)
 |.blt f es,e=>aCN (Zpt f) e λys=>(bok f&&glb Γ (Zpt f))&&(chks Γ es ys&&!ys.isEmpty)
 |.call f es,e=>aCN f e λys=>Wr (f∈Γ.fs)&&(glb Γ f&&(chks Γ es ys&&!ys.isEmpty))
 |.meth m o es,e=>aCA (Zr1 m) e λx ap ys cp=>chk Γ o x&&(Zbw x&&(chks Γ es ys&&(Wr (ys.length<29)&&(ap.endLine==cp.line))))
 |.trev _,_=>Wq
 |.lrv _,_=>Wq
 |.tix _ _,_=>Wq
 |.tmt m o e,x=>aCA (Zvm m) x λx ap ys cp=>l1 ys λy=>chk Γ o x&&(Zbw x&&(chk Γ e y&&(ZaQ y&&(ap.endLine==cp.line))))
 |.lix _ _,_=>Wq
 |.lmu a b,e=>aB2 .Mult e λl r=>chk Γ a l&&chk Γ b r
 |.sin a b,e=>aC1 .In e λl r=>chk Γ a l&&(chk Γ b r&&Zbv r)
 |.lin _ _,_=>Wq
 |.dne _ _,_=>Wq
 |.rpn _ _,_=>Wq
 |.comp NC js it g c e,x=>aLC x λelt tg iter ifs scope=>Γ.top&&(ZsO NC Γ.N js Γ.sc scope&&(chki Γ it tg iter&&(Zbv iter&&(ZuR NC (Zzs scope) g tg&&(((List.range (tgk g)).all λj=>Wr (js[j]? = Wn Wo)) &&
  (chkf ⟨NC,scope,Γ.fs,Wq,Γ.kl⟩ c ifs&&chk ⟨NC,scope,Γ.fs,Wq,Γ.kl⟩ e elt))))))
 |.sorts _,_=>Wq
 |.maxd a d,e=>aCk "max" "default" e λys z=>l1 ys λy=>glb Γ "max" && (chk Γ a y&&(ZaQ y&&chk Γ d z))
 |.dictl ps,e=>aD e λkeys values=>Wr (keys.length<=15)&&chkp Γ ps keys values
 |.att Cs o f,e=>aA f e λx _=>chk Γ o x&&(Zbw x&&((Cs.all λC=>Wr (C∈Γ.kl.cs))&&Wr (f∈Γ.kl.ats)))
 |.mk C es,e=>aCN C e λys=>Wr (C∈Γ.kl.is)&&(glb Γ C&&chks Γ es ys)
 |.mcl C m o es,e=>aCA m e λx ap ys cp=>chk Γ o x&&(Zbw x&&(chks Γ es ys&&(Wr ((C,m)∈Γ.kl.ms)&&(Wr (ys.length<29)&&(ap.endLine==cp.line)))))
 |.any,_=>Wp
def chks(Γ:Gm):Exs->List Expr->Bool
 |.nil,es=>es.isEmpty
 |.cons e r,es=>match es with
  |x::xs=>chk Γ e x&&(ZaQ x&&chks Γ r xs)
  |[]=>Wq
def chkp(Γ:Gm):Exs->List (Option Expr)->List Expr->Bool
 |.nil,ks,vs=>ks.isEmpty&&vs.isEmpty
 |.cons k r,ks,vs=>match r with
  |.cons v r'=>match ks,vs with
   |some kx::ks,vx::vs=>chk Γ k kx&&(chk Γ v vx&&chkp Γ r' ks vs)
   |_,_=>Wq
  |.nil=>Wq
def chko(Γ:Gm):Option Ex->Option Expr->Bool
 |none,x=>x.isNone
 |some a,x=>match x with
  |some x=>chk Γ a x
  |none=>Wq
def chkf(Γ:Gm):Option Tx->List Expr->Bool
 |none,x=>x.isEmpty
 |some a,x=>l1 x λx=>chkt Γ a x
def ZBK(Γ:Gm):Ex->Expr->Bool
 |.cmp op a b,e=>aC1 op e λl r=>chk Γ a l&&(chk Γ b r&&Zbv r)
 |.cmp2 o1 o2 a b c,e=>aC2 o1 o2 e λl m r=>chk Γ a l&&(chk Γ b m&&(chk Γ c r&&Zbv r))
 |_,_=>Wq
def chkt(Γ:Gm):Tx->Expr->Bool
 |.ex e,x=>(Znq x&&chk Γ e x) || ZBK Γ e x
 |.ands ts,x=>aO .And x λxs=>chkts Γ ts xs
 |.ors ts,x=>aO .Or x λxs=>chkts Γ ts xs
 |.nt t,x=>aU .Not x λy=>chkt Γ t y
def chkts(Γ:Gm):Txs->List Expr->Bool
 |.one t,xs=>l1 xs λx=>chkt Γ t x
 |.cons t ts,xs=>match xs with
  |x::r=>chkt Γ t x&&(!r.isEmpty&&chkts Γ ts r)
  |_=>Wq
def chki(Γ:Gm):Ix->Expr->Expr->Bool
 |.pl e,_,x=>chk Γ e x
 |.tw e,_,x=>chk Γ e x
 |.rng e,_,x=>aCN "range" x λys=>l1 ys λy=>glb Γ "range" && (chk Γ e y&&ZaQ y)
 |.rng2 _ _,_,_=>Wq
 |.enu e,tg,x=>aCN "enumerate" x λys=>l1 ys λy=>glb Γ "enumerate" && (chk Γ e y&&(ZaQ y&&isTup tg))
 |.rev e,_,x=>aCN "reversed" x λys=>l1 ys λy=>glb Γ "reversed" && (chk Γ e y&&ZaQ y)
 |.en1 _,_,_=>Wq
 |.zl _ _,_,_=>Wq
 |.zp a b,tg,x=>aCN "zip" x λys=>l2 ys λy z=>glb Γ "zip" && (chk Γ a y&&(chk Γ b z&&(ZaQ y&&(ZaQ z&&isTup tg))))
 |.en0 _,_,_=>Wq
 |.dk _,_,_=>Wq
end
def leS(a b:Str):Prop:=¬ b.cps.toList<a.cps.toList
def ZkC(h:leS a b)(q:leS b c):leS a c:=by unfold leS at *;rw[List.not_lt]at *;exact List.le_trans h q
def Zml(h:leS a b)(q:leS b a):a=b:=by unfold leS at *;rw[List.not_lt]at *;have e:=List.le_antisymm h q;obtain⟨⟨a⟩⟩:=a;obtain⟨⟨b⟩⟩:=b;simp at e;subst e;rfl
def Zl6:∀{ss:List Str},sortedS ss=Wp->ss.Pairwise leS:=by
 have gen:∀(r:List Str) (p:Str),risingS p r=Wp->(∀x∈r,leS p x)/\r.Pairwise leS:=by
  intro r;induction r with
  |nil=>intro p _;exact⟨by simp,.nil⟩
  |cons x r ih=>
   intro p h;rw[risingS,Oa]at h;obtain⟨h1,h2⟩:=ih x h.2;have hx:leS p x:=by have:=h.1;rw[ltCps_eq]at this;unfold leS;simpa using this
   refine⟨λy hy=>?_,.cons h1 h2⟩;rcases O2.mp hy with rfl|hy
   . exact hx
   . exact ZkC hx (h1 y hy)
 intro ss h;cases ss with
 |nil=>exact .nil
 |cons x r=>obtain⟨h1,h2⟩:=gen r x h;exact .cons h1 h2
theorem ZiE(x:Str):∀r:List Str,(ZpS x r).Perm (x::r)
 |[]=>.refl _
 |y::r=>by
  unfold ZpS;split
  . exact((ZiE x r).cons y).trans (.swap x y r)
  . exact .refl _
theorem Zbr:∀r:List Str,(ZaB r).Perm r
 |[]=>.refl _
 |x::r=>(ZiE x _).trans ((Zbr r).cons x)
theorem Zl9(x:Str):∀r:List Str,r.Pairwise leS->(ZpS x r).Pairwise leS
 |[],_=>.cons (by simp) .nil
 |y::r,h=>by
  cases h with
  |cons h1 h2=>
   unfold ZpS;split
   . rename_i hlt;rw[ltCps_eq]at hlt;have hlt:=of_decide_eq_true hlt;refine .cons (λz hz=>?_) (Zl9 x r h2);rcases O2.mp ((ZiE x r).mem_iff.mp hz)with rfl|hz
     . unfold leS;rw[List.not_lt];exact List.le_of_lt hlt
     . exact h1 z hz
   . rename_i hlt;have hxy:leS x y:=by unfold leS;rw[ltCps_eq]at hlt;simpa using hlt
     refine .cons (λz hz=>?_) (.cons h1 h2);rcases O2.mp hz with rfl|hz
     . exact hxy
     . exact ZkC hxy (h1 z hz)
theorem ZdR:∀r:List Str,(ZaB r).Pairwise leS
 |[]=>.nil
 |x::r=>Zl9 x _ (ZdR r)
def ZpM(hp:ss'.Perm ss)(hs:sortedS ss'=Wp):ss'=ZaB ss:=(hp.trans (Zbr ss).symm).eq_of_pairwise (λ_ _ _ _ h q=>Zml h q) (Zl6 hs) (ZdR ss)
section
variable {X:Cx}{Y:Yx}{E:XK}{T:Tb}{H:Hp}{B:List Yi}{h:Hd}
theorem Zhl:∀{ds:List (Key×D)}{vs:List (Key×V)}{ss:List Str},RKs Y H B ds vs->ZcC ds=Wn ss->vs.map (·.1)=ss.map YC
 |_,_,_,.nil,e=>by cases e;rfl
 |_,_,_,.cons (k:=k) a s,e=>by
  cases k with
  |inl i=>cases e
  |inr x=>rw[ZcC]at e;obtain⟨z,e1,rfl⟩:=Oo.mp e;rw[Op,Op,Zhl s e1]
theorem Zn9:∀(ss:List Str),(∀x∈ss,Yo x=Wp)->RDs Y H B (ss.map D.str) (ss.map V.str)
 |[],_=>.nil
 |x::r,h=>.cons (.str x (h x (by simp))) (Zn9 r λy hy=>h y (by simp[hy]))
def ZuZ(hc:X.A.handled=Wo)(G:Gk X Y T):Zaa X (.builtin "sorted") (rF Y E (Zgm T.GD)):=by
 intro pins s Z H xs us Q I r hh;obtain⟨ds,h,B,rh,rs,f⟩:=hh;unfold Zgm at f;split at f
 . split at f
   . rename_i ss e2;obtain⟨hz,f⟩:=f.iff;obtain⟨kvs,e3,e4⟩:=Option.bind_eq_some_iff.mp e2;obtain⟨x,rfl,r1⟩:=rs.one;obtain⟨a,kvs',rfl,hd,rk⟩:=r1.dicOf G rh e3;obtain⟨hz,hok⟩:=hz;refine ZlB hc pins s Z H _ us Q I r ⟨a,kvs',ss,rfl,hd,Zhl rk e4,hz,λp ss' hp h1 h2=>?_⟩;rw[ZpM h1 h2];refine f.new rh hp ⟨_,Zo,Zn9 _ λy hy=>?_⟩;rw[OC]at hok;exact hok y ((Zbr ss).mem_iff.mp hy)
   . exact f.elim
 . exact f.elim
theorem ZgK(x:Str):∀ss:List Str,x∈ddS ss↔x∈ss
 |[]=>Iff.rfl
 |y::r=>by
  rw[ddS];split
  . rename_i h;rw[ZgK x r,O2];exact⟨.inr,λz=>z.elim (λz=>z ▸ h) id⟩
  . rw[O2,O2,ZgK x r]
theorem Zpi:∀ss:List Str,(ddS ss).Nodup
 |[]=>List.nodup_nil
 |y::r=>by
  rw[ddS];split
  . exact Zpi r
  . rename_i h;exact List.nodup_cons.mpr ⟨λz=>h ((ZgK y r).mp z),Zpi r⟩
def ZuO{ks ss:List Str}(nd:ks.Nodup)(mm:∀x,x∈ks↔x∈ss):ks.Perm (ddS ss):=(List.perm_ext_iff_of_nodup nd (Zpi ss)).mpr λx=>(mm x).trans (ZgK x ss).symm
end
set_option tactic.hygienic false
def RS(Y:Yx)(H:Hp)(B:List Yi)(S:Ev)(Z:L2.St):Prop:=Z.length=S.length/\∀(i:Nat) (d:D),S[i]? = Wn (Wn d)->∃v,Z[i]? = Wn (Wn v)/\RD Y H B d v
section
variable {Y:Yx}{H H':Hp}{B μ':List Yi}{h:Hd}{S:Ev}{Z:L2.St}
theorem RS.mono(rh:RH Y H B h)(g:Gr H B H' μ')(r:RS Y H B S Z):RS Y H' μ' S Z:=⟨r.1,λi d e=>let ⟨v,h1,h2⟩:=r.2 i d e;⟨v,h1,h2.mono rh g⟩⟩
def RS.var(r:RS Y H B S Z){i:Nat}{d:D}(e:(S[i]?).join=Wn d):∃v,Z[i]? = Wn (Wn v)/\RD Y H B d v:=by
 refine r.2 i d ?_;cases q:S[i]? with
 |none=>rw[q]at e;cases e
 |some o=>rw[q]at e;cases o with
  |none=>cases e
  |some d'=>cases e;rfl
theorem RS.set(r:RS Y H B S Z){i:Nat}{d:D}{v:V}(q:RD Y H B d v):RS Y H B (S.set i (Wn d)) (Z.set i (Wn v)):=by
 refine⟨by simp[r.1],λj e he=>?_⟩;by_cases hj:i=j
 . subst hj;have hl:i<S.length:=by have:=(Ob.mp he).1;simpa using this
   rw[Ol hl]at he;cases he;exact⟨v,by rw[Ol (by rw[r.1];exact hl)],q⟩
 . rw[Oc hj]at he;obtain⟨w,h1,h2⟩:=r.2 j e he;exact⟨w,by rw[Oc hj];exact h1,h2⟩
theorem RS.capt(r:RS Y H B S Z)(js:List (Option Nat)):RS Y H B (Zhy js S) (capt js Z):=by
 refine⟨by simp[Zhy,L2.capt],λi d e=>?_⟩;unfold Zhy at e;unfold L2.capt;rw[On]at e ⊢;cases q:js[i]? with
 |none=>rw[q]at e;cases e
 |some o=>
  rw[q]at e;cases o with
  |none=>cases e
  |some j=>
   have e':(S[j]?).join=Wn d:=by simpa using e
   obtain⟨v,h1,h2⟩:=r.var e';exact⟨v,by simp[h1],h2⟩
end
inductive Sm(Y:Yx)(E:XK){α β:Type}(rel:Hp->List Yi->α->β->Prop)(m:Ev->Hd->R α)(Z:L2.St)(H:Hp)(Q:β->Hp->Prop):Prop
 |mk (S:Ev) (h:Hd) (B:List Yi) (rh:RH Y H B h) (rs:RS Y H B S Z) (f:Fin Y rel H B (m S h) Q E):Sm Y E rel m Z H Q
def eqR{α:Type}:Hp->List Yi->α->α->Prop:=λ_ _ a b=>a=b
theorem Sm.bind{α β γ δ:Type}{Q:β->Hp->Prop}{rel:Hp->List Yi->γ->δ->Prop}{rel':Hp->List Yi->α->β->Prop}{m:Ev->Hd->R γ}{k:Ev->γ->Hd->R α}(s:Sm Y E rel' (λS h=>(m S h).bind (k S)) Z H Q)
 {Q1:δ->Hp->Prop}
 (hk:∀S d h1 v H1 μ1,RH Y H1 μ1 h1->RS Y H1 μ1 S Z->rel H1 μ1 d v->Fin Y rel' H1 μ1 (k S d h1) Q E->Q1 v H1):Sm Y E rel m Z H Q1:=by
 cases s with
 |mk S h B rh rs f=>exact⟨S,h,B,rh,rs,f.bind λd h1 x H1 μ1 _ g rh1 rd f1=>hk S d h1 x H1 μ1 rh1 (rs.mono rh g) rd f1⟩
section
variable (T:Tb) (Y:Yx) (E:XK)
def Zab(e:Ex):TE:=Sm Y E (RD Y) (ev T e)
def Znl(e:Exs):TA:=Sm Y E (RDs Y) (evs T e)
def Znk(e:Tx):TT:=Sm Y E eqR (tst T e)
def ZA4(e:Option Ex):TO:=Sm Y E eqR (evo T e)
def ZA5(e:Ix):TI:=Sm Y E (WJ Y) (evi T e)
noncomputable def Zgt(f:Str):Sp:=λvs H Q E=>∃ds h B,RH Y H B h/\RDs Y H B ds vs/\Fin Y (RD Y) H B (T.C f ds h) Q E
end
structure Gd(T:Tb)(Γ:Gm)(X:Cx)(Y:Yx)(E:XK)(k:Nat):Prop where
 gk:Gk X Y T
 N:X.N=Γ.N
 sc:Γ.top=Wp->X.env.scope=Γ.sc
 vis:∀x,Ztb Γ.sc x=Wp->Vis X.env.scope x
 glo:∀x,Γ.sc.names.lookup x=Wn .globalImplicit->Gl X x
 nd:X.N.Nodup
 calm:X.calm=Wp
 room:Room k X.A
 h60:60<=k
 pass:ZbS (CXF X.prog X.w) X E
 defs:∀f∈Γ.fs,∃ps,Def X.prog X.w X.K X.mg X.base k f ps (Zgt T Y f)
 blt:∀x∈Zpu,X.mg x=Wo
 room1:Room (k+1) X.A
 cls:∀C∈Γ.kl.cs,∃a,X.mg C=Wn (.ref a)/\Cls X.K a/\∀f∈Γ.kl.ats,ZaP X.K a f
 mts:∀p∈Γ.kl.ms,∃a f fd ps,X.mg p.1=Wn (.ref a)/\Cls X.K a/\Meth X.K a p.2 f/\FnOk X.prog X.w X.K X.mg X.base (CXF X.prog X.w) k f fd ps (Zgt T Y (mnm p.1 p.2))/\Binds X.K fd ps []
 mks:∀C∈Γ.kl.is,∃a f fd ps,X.mg C=Wn (.ref a)/\Mk X.K a f/\FnOk X.prog X.w X.K X.mg X.base (CXF X.prog X.w) k f fd ps (Zgt T Y (mnm C (O "__init__")))/\Binds X.K fd ps []
def _root_.L2.PE.imp(h:PE X e t)(i:∀Z H Q,t' Z H Q->t Z H Q):PE X e t':=λpins s Z H Q I q=>h pins s Z H Q I (i Z H Q q)
def _root_.L2.PT.imp(h:PT X e t)(i:∀Z H Q,t' Z H Q->t Z H Q):PT X e t':=λpins s Z H Q I q=>h pins s Z H Q I (i Z H Q q)
def _root_.L2.PW.imp(h:PW X e t)(i:∀Z H Q,t' Z H Q->t Z H Q):PW X e t':=λw pins s Z H Q I q=>h w pins s Z H Q I (i Z H Q q)
def _root_.L2.PA.imp(h:PA X e t)(i:∀Z H Q,t' Z H Q->t Z H Q):PA X e t':=λp pins s Z H Q I q=>h p pins s Z H Q I (i Z H Q q)
def _root_.L2.PO.imp(h:PO X e t)(i:∀Z H Q,t' Z H Q->t Z H Q):PO X e t':=λpins s Z H Q I q=>h pins s Z H Q I (i Z H Q q)
def _root_.L2.PI.imp(h:PI X tg e t)(i:∀Z H Q,t' Z H Q->t Z H Q):PI X tg e t':=λpins s Z H Q I q=>h pins s Z H Q I (i Z H Q q)
structure Kd(x:Expr):Prop where
 star:tgE x≠0->∀xs env,Yy (x::xs) env=(Wq,eval x env)::Yy xs env
 set:tgE x≠18->∀env v,foldedSetIterable x env v=pure v
 mark:tgE x≠18->∀op,behindInMarks op x=Wq
 ix:tgE x≠5->ZlY x
 put:tgE x≠5->∀o pos env v,assign (.Subscript o x pos) env v=(do
  let ov <- holding [v] (eval o env);let iv <- holding [v,ov] (eval x env)
  standAt pos
  holding [v,ov,iv] (setItem ov iv v)
  release [v,ov,iv] [])
 tr:Znq x=Wp->∀env whole,isTrue x env whole=(do let v <- whole;standAt x.pos;holding [v] (truthy v))
 sw:tgE x≠13->tgE x≠19->∀t n env,swapsWith x t n env=pure Wq
 st:tgE x≠8->∀es j q env,swappedStores [.Tuple es j q] x env=pure Wo
def kdE(x:Expr):Kd x:=by
 cases x<;>exact⟨by first|exact λ_ _ _=>rfl|exact λh=>absurd rfl h,by first|exact λ_ _ _=>rfl|exact λh=>absurd rfl h,by first|exact λ_ _=>rfl|exact λh=>absurd rfl h,by first|exact λ_ _ _=>rfl|exact λh=>absurd rfl h,
  by first|exact λ_ _ _ _ _=>rfl|exact λh=>absurd rfl h,
  by first|exact λ_ _ _=>rfl|exact λh=>ff h,by first|exact λ_ _ _ _ _=>rfl|exact λh=>absurd rfl h|exact λ_ h=>absurd rfl h,by first|exact λ_ _ _ _ _=>rfl|exact λh=>absurd rfl h⟩
def ZA(env:Env)(h:ZaQ x=Wp):Yy (x::xs) env=(Wq,eval x env)::Yy xs env:=(kdE x).star (of_decide_eq_true h) _ _
def Zni(env:Env)(h:Zbv x=Wp):∀v,foldedSetIterable x env v=pure v:=(kdE x).set (of_decide_eq_true h) _
def ZfA(h:Zbv x=Wp):behindInMarks op x=Wq:=(kdE x).mark (of_decide_eq_true h) _
def ZqX(h:ZiK x=Wp):ZlY x:=(kdE x).ix (of_decide_eq_true h)
def ZfX(h:Zbw x=Wp):attributeBase x n env (eval x env)=eval x env:=by
 cases x with
 |Call f as ks p=>
  cases as with
  |nil=>cases h
  |cons a as=>cases f<;>rfl
 |_=>rfl
theorem Zfo(Γ:Gm)(env:Env):∀(es:Exs) (xs:List Expr),chks Γ es xs=Wp->∀pos,(YQ pos (Yy xs env)).any (·.1)=Wq/\(YQ pos (Yy xs env)).all (λx=>!x.1)=Wp
 |.nil,[],_,_=>⟨rfl,rfl⟩
 |.nil,_::_,h,_=>ff h
 |.cons _ _,[],h,_=>ff h
 |.cons _ r,x::xs,h,pos=>by rw[ZA env (bL (bR h))];exact Zfo Γ env r xs (bR (bR h)) pos
def ZcS(env:Env)(h:chks Γ es (y::r)=Wp):Yy (y::r) env=(Wq,eval y env)::Yy r env/\∀pos,(YQ pos (Yy r env)).any (·.1)=Wq:=by
 cases es with
 |nil=>exact ff h
 |cons e s=>exact⟨ZA env (bL (bR h)),λpos=>(Zfo Γ env s r (bR (bR h)) pos).1⟩
@[elab_as_elim] theorem ZsM{P:List Expr->Prop}(h:chks Γ es ys=Wp)(h1:(!ys.isEmpty)=Wp)(k:∀y r,chks Γ es (y::r)=Wp->P (y::r)):P ys:=by
 cases ys with
 |nil=>exact ff h1
 |cons y r=>exact k y r h
def Gd.gl{T:Tb}{Γ:Gm}{X:Cx}{Y:Yx}{E:XK}{k:Nat}(G:Gd T Γ X Y E k){x:Str}(h:glb Γ x=Wp):Gl X x/\(x==("__debug__" : Str))=Wq:=by unfold glb at h;rw[Oa]at h;exact⟨G.glo x (of_decide_eq_true h.1),by simpa using h.2⟩
theorem ZiO{f:Str->NameKind->NameKind}(x:Str):∀names:List (Str×NameKind),(names.map λp=>(p.1,f p.1 p.2)).lookup x=(names.lookup x).map (f x)
 |[]=>rfl
 |(n,k)::r=>by
  rw[Op,OF,OF];by_cases e:x=n
  . subst e;simp
  . have:(x==n)=Wq:=by simpa using e
    simp only[this];exact ZiO x r
def Zbu(scope:Scope)(env:Env)(x:Str):(relabel scope env).names.lookup x=(scope.names.lookup x).map λk=>if (k==Yn&&env.scope.kind==.function&&env.kindOf x==Wn .cell)then NameKind.cell else k:=by
 have e:(relabel scope env).names=scope.names.map λp=>(p.1,(λ(n:Str) (k:NameKind)=>if (k==Yn&&env.scope.kind==.function&&env.kindOf n==Wn .cell)then NameKind.cell else k) p.1 p.2):=by unfold relabel;simp only;refine List.map_congr_left λp _=>?_;obtain⟨n,k⟩:=p;simp only;split<;>rfl
 rw[e];exact ZiO (f:=λ(n:Str) (k:NameKind)=>if (k==Yn&&env.scope.kind==.function&&env.kindOf n==Wn .cell)then NameKind.cell else k) x scope.names
def Gd.comp{T:Tb}{Γ:Gm}{X:Cx}{Y:Yx}{E:XK}{k:Nat}(G:Gd T Γ X Y E k)(NC:List Str)(scope:Scope)(C:Yi)(s3:Yb)(H3:Hp)(fp:List Yi)(nd:NC.Nodup):Gd T ⟨NC,scope,Γ.fs,Wq,Γ.kl⟩ (ZI X NC scope C s3 H3 fp) Y E0 k:=by
 refine⟨⟨G.gk.K,G.gk.mg,G.gk.gd,G.gk.g,G.gk.bare⟩,rfl,(λh=>by cases h),λx hx=>?_,λx hx=>?_,nd,rfl,G.room,G.h60,Zkx,G.defs,G.blt,G.room1,G.cls,G.mts,G.mks⟩
 . show Vis (relabel scope X.env) x;unfold Vis;rw[Zbu];unfold Ztb at hx;rw[Wm,Wm]at hx;rcases hx with (hx|hx)|hx
   . rw[of_decide_eq_true hx];exact .inl rfl
   . rw[of_decide_eq_true hx];exact .inr (.inl rfl)
   . rw[of_decide_eq_true hx];by_cases q:(X.env.scope.kind==.function&&X.env.kindOf x==Wn .cell)=Wp
     . refine .inr (.inl ?_);have:(Yn==Yn&&X.env.scope.kind==.function&&X.env.kindOf x==Wn .cell)=Wp:=by simpa using q
       simp only[Yt,this,if_true]
     . refine .inr (.inr ?_);have:¬ ((Yn==Yn&&X.env.scope.kind==.function&&X.env.kindOf x==Wn .cell)=Wp):=by simpa using q
       simp only[Yt,this,if_false];rfl
 . show(relabel scope X.env).names.lookup x=Wn .globalImplicit;rw[Zbu,hx];rfl
section
variable {T:Tb}{Y:Yx}{E:XK}{Z:L2.St}{H:Hp}{Q:VK}
def ZpP{a b:Ex}{f:D->D->Hd->R D}(s:Sm Y E (RD Y) (λS h=>(ev T a S h).bind λx h1=>(ev T b S h1).bind λy h2=>f x y h2) Z H Q):Zab T Y E a Z H λx H1=>Zab T Y E b Z H1 λy H2=>rB Y E f x y H2 Q:=s.bind λS d h1 x H1 μ1 rh1 rs1 rd f1=>⟨S,h1,μ1,rh1,rs1,f1.bind λe h2 y H2 μ2 _ g2 rh2 re f2=>⟨d,e,h2,μ2,rh2,rd.mono rh1 g2,re,f2⟩⟩
end
def Zx8{T:Tb}{Γ:Gm}{X:Cx}{Y:Yx}{E:XK}{k:Nat}(G:Gd T Γ X Y E k)(f:Bf)(hb:bok f=Wp){e:Expr}{es:List Expr}{t:TA}{p pos:Pos}(hg:Gl X (Zpt f))(ha:PA X (e::es) t)
 (he:Yy (e::es) X.env=(Wq,eval e X.env)::Yy es X.env) (hpl:(YQ pos (Yy es X.env)).any (·.1)=Wq):PE X (.Call (.Name (Zpt f) p) (e::es) [] pos) (tCB (rF Y E (ZbN T.GD f)) t):=by
 have hY:=G.gk.K;cases f with
 |len=>exact Zcj (Zu1 hY) hg (G.blt _ (by decide)) (by decide +kernel) ha (by decide) (by decide) he hpl
 |isi=>exact Zcj (Zu3 hY) hg (G.blt _ (by decide)) (by decide +kernel) ha (by decide) (by decide) he hpl
 |int=>exact Zci Zu4 hg (G.blt _ (by decide)) (by decide +kernel) ha (by decide) (by decide) he hpl
 |tup=>exact Zci (ZuW hY) hg (G.blt _ (by decide)) (by decide +kernel) ha (by decide) (by decide) he hpl
 |lst=>exact Zci (Zu0 hY) hg (G.blt _ (by decide)) (by decide +kernel) ha (by decide) (by decide) he hpl
 |sum=>exact Zcj (ZuX G.room.hd hY) hg (G.blt _ (by decide)) (by decide +kernel) ha (by decide) (by decide) he hpl
 |all=>exact Zcj (Zu5 G.calm hY) hg (G.blt _ (by decide)) (by decide +kernel) ha (by decide) (by decide) he hpl
 |mx=>cases hb
 |sri=>cases hb
 |dct=>cases hb
 |ldk=>cases hb
 |sto=>exact Zci ZuY hg (G.blt _ (by decide)) (by decide +kernel) ha (by decide) (by decide) he hpl
 |itx=>exact Zci Zu2 hg (G.blt _ (by decide)) (by decide +kernel) ha (by decide) (by decide) he hpl
 |lnd=>cases hb
 |srt=>exact Zcj (ZuZ G.room.hd G.gk) hg (G.blt _ (by decide)) (by decide +kernel) ha (by decide) (by decide) he hpl
set_option tactic.hygienic true
def Zji{v:V}(rd:∀H B,RD Y H B d v)(p:PE X x (tC v)):PE X x (Zab T Y E (.cst d)):=PE.imp p λZ H Q s=>by
 cases s with
 |mk S h B rh rs f=>exact Fin.ok (r:=rd H B) (show Fin Y (RD Y) H B (.ok d h) Q E from f) rh
def ZsN(G:Gd T Γ X Y E k)(h:ZAo Γ d x=Wp):PE X x (Zab T Y E (.cst d)):=by
 refine bO h (λh=>ZzV (P:=λx=>PE X x _) h λc j q h=>?_) λh=>?_
 . cases d with
   |int i=>cases c with
    |int j=>exact dS (P:=λi=>PE X _ (Zab T Y E (.cst (.int i)))) h (Zji (λ_ _=>.int _) Zw1)
    |_=>exact ff h
   |str i=>cases c with
    |str j=>exact dS (P:=λi=>PE X _ (Zab T Y E (.cst (.str i)))) (bL h) (Zji (λ_ _=>.str _ (bR h)) ZwY)
    |_=>exact ff h
   |bl i=>cases c with
    |bool j=>exact dS (P:=λi=>PE X _ (Zab T Y E (.cst (.bl i)))) h (Zji (λ_ _=>.bl _) Zzr)
    |_=>exact ff h
   |non=>cases c with
    |none=>exact Zji (λ_ _=>.non) Zw0
    |_=>exact ff h
   |_=>exact ff h
 . cases d with
   |ty n=>
    refine Zm9 (P:=λx=>PE X x _) h λp h=>?_;obtain⟨g1,g2⟩:=G.gl (bR h);have all:(Zn3.all λn=>Wr (bootBuiltins (Str.ofString n)=Wn (.type n))&&(Wr (Str.ofString n ≠ "__name__")&&Wr (Str.ofString n∈Zpu)))=Wp:=by decide +kernel
    have a:=OC.mp all n (of_decide_eq_true (bL h));exact Zji (λ_ _=>.ty _) (ZoA g1 (G.blt _ (of_decide_eq_true (bR (bR a)))) (of_decide_eq_true (bL a)) rfl (of_decide_eq_true (bL (bR a))) g2)
   |_=>exact ff h
def R.bind_eq{α β:Type}{r:R α}{k:α->Hd->R β}{b:β}{h:Hd}(e:r.bind k=.ok b h):∃a h1,r=.ok a h1/\k a h1=.ok b h:=by
 cases r with
 |bad=>cases e
 |ok a h1=>exact⟨a,h1,rfl,e⟩
 |exc c h1=>cases e
def R.bind_assoc{α β γ:Type}{r:R α}{k:α->Hd->R β}{l:β->Hd->R γ}:(r.bind k).bind l=r.bind λa h=>(k a h).bind l:=by cases r<;>rfl
def ZrP(e:opC GD op x y h=.ok r h'):∃b,r=.bl b:=by
 have i2:∀{f:Int->Int->Bool},Zk5 f x y h=.ok r h'->∃b,r=.bl b:=λe=>by
  unfold Zk5 at e;split at e
  . cases e;exact⟨_,rfl⟩
  . cases e
 have eq:∀{n:Bool},Zcx n x y h=.ok r h'->∃b,r=.bl b:=λe=>by
  unfold IV.Zcx at e;split at e
  . split at e
    . cases e;exact⟨_,rfl⟩
    . cases e
  . cases e
 have inn:∀{n:Bool},ZaX GD n x y h=.ok r h'->∃b,r=.bl b:=λe=>by
  unfold ZaX at e;split at e
  . split at e
    . cases e;exact⟨_,rfl⟩
    . cases e
  . split at e
    . cases e;exact⟨_,rfl⟩
    . cases e
 have n1:∀{n:Bool},opN n x y h=.ok r h'->∃b,r=.bl b:=λe=>by
  unfold opN at e;split at e
  . cases e;exact⟨_,rfl⟩
  . cases e
 unfold opC at e;split at e
 . exact eq e
 . exact eq e
 . exact i2 e
 . exact i2 e
 . exact i2 e
 . exact i2 e
 . exact inn e
 . exact inn e
 . exact n1 e
 . exact n1 e
def ZzK(m:Mf):Slot "list" (Zr1 m) (mid m)/\typeOf (.builtin (mid m))=pure (.type "method_descriptor"):=by
 cases m with
 |app=>exact⟨PySem.F.slot_list_append,PySem.F.type_list_append⟩
 |ext=>exact⟨PySem.F.slot_list_extend,PySem.F.type_list_extend⟩
 |pop=>exact⟨PySem.F.slot_list_pop,PySem.F.type_list_pop⟩
 |rev=>exact⟨PySem.F.slot_list_reverse,PySem.F.type_list_reverse⟩
 |clr=>exact⟨PySem.F.slot_list_clear,PySem.F.type_list_clear⟩
section
variable {Y:Yx}{α β α' β':Type}{rel:Hp->List Yi->α->β->Prop}{rel':Hp->List Yi->α'->β'->Prop}{H0 H H1:Hp}{μ0 B μ1:List Yi}{E:XK}
def Fin.bindB(g0:Gr H0 μ0 H B)(f:Fin Y rel' H0 μ0 (r.bind k) Q E)
 (hk:∀a h1 b H1 μ1,r=.ok a h1->Gr H B H1 μ1->RH Y H1 μ1 h1->rel H1 μ1 a b->Fin Y rel' H0 μ0 (k a h1) Q E->Q1 b H1):Fin Y rel H B r Q1 E:=by
 cases r with
 |bad=>exact f
 |ok a h=>exact λb H' μ' g' rh rl=>hk a h b H' μ' rfl g' rh rl f
 |exc c h=>exact λH' μ' C g'=>f H' μ' C (g0.trans g')
theorem Fin.plain(f:Fin Y rel' H0 μ0 (r.plain.bind k) Q E)
 (hk:∀a h1 b H1 μ1,r=.ok a h1->Gr H B H1 μ1->RH Y H1 μ1 h1->rel H1 μ1 a b->Fin Y rel' H0 μ0 (k a h1) Q E->Q1 b H1):Fin Y rel H B r Q1 E0:=by
 cases r with
 |bad=>exact f
 |ok a h=>exact λb H' μ' g' rh rl=>hk a h b H' μ' rfl g' rh rl f
 |exc c h=>exact f.elim
end
def ZmA:List Nat->TGs
 |[]=>ZuC
 |i::is=>ZmB (ZcQ i) (ZmA is)
def tgR(K:Yk):Tg->TG
 |.nm i=>ZcQ i
 |.two i j=>ZuB K 2 (ZmB (ZcQ i) (ZmB (ZcQ j) ZuC))
 |.many is=>ZuB K is.length (ZmA is)
theorem Zl3:∀is:List Nat,is.foldr max 0<k->Zm8 k (ZmA is)
 |[],_=>Zn8
 |i::is,h=>by simp only[List.foldr_cons]at h;exact Ziu (by lia) (Zl3 is (by lia))
def ZyN(K:Yk)(g:Tg):ZnV (tgk g) (tgR K g):=by
 cases g with
 |nm i=>exact Zte (OH i)
 |two i j=>exact ZqN (Ziu (show i<max i j+1 by lia) (Ziu (show j<max i j+1 by lia) Zn8))
 |many is=>exact ZqN (Zl3 is (OH _))
theorem ZgI:∀(is:List Nat) (es:List Expr),Zpn N own is es=Wp->(assignEach es env).length=is.length/\List.findIdx? (λx=>x.fst) (assignEach es env)=Wo
 |[],[],_=>⟨rfl,rfl⟩
 |i::is,e::es,h=>by
  obtain⟨a,b⟩:=ZgI (env:=env) is _ (bR h);refine Zbp (P:=λe=>(assignEach (e::es) env).length=_/\List.findIdx? (λx=>x.fst) (assignEach (e::es) env)=Wo) (bL h) λx p _ _=>⟨congrArg (·+1) a,?_⟩
  simp only[assignEach,List.findIdx?_cons,b];rfl
 |[],_::_,h=>ff h
 |_::_,[],h=>ff h
theorem Zmd(hN:X.N=N)(nd:X.N.Nodup)(ho:∀x,own x=Wp->Loc X.env.scope x/\(X.fn x=Wp\/X.env.scope.names.lookup x=Wn .local)):∀(is:List Nat) (es:List Expr),Zpn N own is es=Wp->PGs X es (ZmA is)
 |[],[],_=>Zov
 |i::is,e::es,h=>Zbp (P:=λe=>PGs X (e::es) _) (bL h) λx p e1 e2=>ZiH (Zox nd (by rw[hN];exact e1) (ho _ e2).1 (ho _ e2).2) (Zmd hN nd ho is _ (bR h))
 |[],_::_,h=>ff h
 |_::_,[],h=>ff h
def Zow(hN:X.N=N)(nd:X.N.Nodup)(hc:X.calm=Wp)(ho:∀x,own x=Wp->Loc X.env.scope x/\(X.fn x=Wp\/X.env.scope.names.lookup x=Wn .local))(h:ZuR N own g tg=Wp):PG X tg (tgR X.K g):=by
 have nm:∀{i x p},N[i]? = Wn x->own x=Wp->PG X (.Name x p) (ZcQ i):=λe1 e2=>Zox nd (by rw[hN];exact e1) (ho _ e2).1 (ho _ e2).2;cases g with
 |nm i=>exact Zbp (P:=λt=>PG X t _) h λx p e1 e2=>nm e1 e2
 |two i j=>exact Zl4 (P:=λt=>PG X t _) (show Zpp N own i j tg=Wp from h) λxs k q h=>Zmp (P:=λxs=>PG X (.Tuple xs k q) _) h λa b h=>Zbp (P:=λa=>PG X (.Tuple [a,b] k q) _) (bL h) λx p e1 e2=>Zbp (P:=λb=>PG X (.Tuple [_,b] k q) _) (bR h) λy r e3 e4=>Zry hc (ZiH (nm e1 e2) (ZiH (nm e3 e4) Zov))
 |many is=>exact Zl4 (P:=λt=>PG X t _) (show Zpo N own is tg=Wp from h) λxs k q h=>Zry (hn:=(ZgI _ _ h).1) (hst:=(ZgI _ _ h).2) hc (Zmd hN nd ho _ _ h)
theorem ZoM:∀(is:List Nat) {ds:List D}{vs:List V}{S:Ev}{Z:L2.St},RDs Y H B ds vs->RS Y H B S Z->ds.length=is.length->(∀σ1,RS Y H B (Znj is ds S) σ1->Q σ1 H)->ZmA is vs Z H Q
 |[],ds,vs,S,Z,r,rs,hl,q=>by
  cases r with
  |nil=>exact⟨rfl,q _ rs⟩
  |cons a s=>simp at hl
 |i::is,ds,vs,S,Z,r,rs,hl,q=>by
  cases r with
  |nil=>simp at hl
  |cons a s=>exact⟨_,_,rfl,ZoM is s (rs.set a) (by simpa using hl) q⟩
def ZlL{Y:Yx}{K:Yk}{Q:L2.St->Hp->Prop}(hY:Y.K=K)(r:RD Y H B d v)(rs:RS Y H B S Z)(e:Za4 g d S=Wn ρ1)(q:∀σ1,RS Y H B ρ1 σ1->Q σ1 H):tgR K g v Z H Q:=by
 cases g with
 |nm i=>cases e;exact q _ (rs.set r)
 |two i j=>
  unfold Za4 at e;simp only at e;split at e
  . cases e;obtain⟨a,vs,rfl,t,s⟩:=r.tup_inv;obtain⟨x,y,rfl,r1,r2⟩:=s.two;exact⟨a,_,rfl,hY ▸ t,rfl,x,_,rfl,y,_,rfl,rfl,q _ ((rs.set r1).set r2)⟩
  . cases e
 |many is=>
  unfold Za4 at e;simp only at e;split at e
  . split at e
    . rename_i hl;cases e;obtain⟨a,vs,rfl,t,s⟩:=r.tup_inv;exact⟨a,vs,rfl,hY ▸ t,by rw[<- s.length,hl],ZoM is s rs hl q⟩
    . cases e
  . cases e
section
variable {Y:Yx}{H:Hp}{B:List Yi}{h:Hd}{Dd:Yi}{ys zs:List V}
def ZqT{K:Yk}(hD:H Dd=Wn (.lst ys))(t:SqT K H a vs):SqT K (upd H Dd (.lst zs)) a vs:=by
 rcases t with t|t
 . rcases t with t|⟨o,t⟩
   . exact .inl (.inl (by rw[Zy (λz=>by rw[z,hD]at t;cases t)];exact t))
   . exact .inl (.inr ⟨o,by rw[Zy (λz=>by rw[z,hD]at t;cases t)];exact t⟩)
 . exact .inr t
def Zsn{K:Yk}(hD:H Dd=Wn (.lst ys))(t:FzL K H a vs):FzL K (upd H Dd (.lst zs)) a vs:=by
 rcases t with ⟨o,t⟩|t
 . exact .inl ⟨o,by rw[Zy (λz=>by rw[z,hD]at t;cases t)];exact t⟩
 . exact .inr t
def Tr.swap(hD:H Dd=Wn (.lst ys)):Tr Y H B (upd H Dd (.lst zs)) B:=⟨ZqT hD,Zsn hD,id⟩
theorem RH.swap(hD:H Dd=Wn (.lst ys))(hn:Dd ∉ B)(r:RH Y H B h):RH Y (upd H Dd (.lst zs)) B h:=r.tr (.swap hD) λ_ ha=>Zy λz=>hn (z ▸ ha)
def Gr.out(g:Gr H B H' μ')(hD:H Dd=Wn o)(hn:Dd ∉ B):H' Dd=Wn o/\Dd ∉ μ':=⟨g.keep _ _ hn hD,λhm=>(g.new _ hm).elim hn λz=>by rw[hD]at z;cases z⟩
end
inductive CwS(Y:Yx)(H1:Hp)(μ1:List Yi)(xs:List D)(Dd:Yi)(F:List D->List D->Hd->Prop)(i m:Nat)(ys:List V)(H:Hp):Prop
 |mk (acc:List D) (h:Hd) (B:List Yi) (hi:i<=xs.length) (hm:m=xs.length - i) (g:Gr H1 μ1 H B) (rh:RH Y H B h) (ra:RDs Y H B acc ys) (nd:Dd ∉ B) (f:F (xs.drop i) acc h):CwS Y H1 μ1 xs Dd F i m ys H
def Zpk{T:Tb}{Y:Yx}{E:XK}{K:Yk}(hY:Y.K=K){js:List (Option Nat)}{g:Tg}{c:Option Tx}{e:Ex}{tc:TT}{J:It}{w:Wk}{H1:Hp}{μ1:List Yi}{h1:Hd}{S:Ev}{Z:L2.St}{Q:VK}{Dd:Yi}
 (htc:∀Z H Q,Sm Y E0 eqR (tsto T c) Z H Q->tc Z H Q)
 (rh:RH Y H1 μ1 h1) (rs:RS Y H1 μ1 S Z) (wj:WJ Y H1 μ1 w J) (f:Fin Y (RD Y) H1 μ1 ((ZG w.src g (tsto T c) (ev T e) w.xs (Zhy js S) [] h1).bind λxs h2=>Zbf (.lst xs) h2) Q E) (hD:H1 Dd=Wo) :
 ∃W:Nat->Nat->List V->Hp->Prop,(∃m,W 0 m [] (upd H1 Dd (.lst []))) /\
  ∀i m ys H,W i m ys H->H Dd=Wn (.lst ys)->(J.stop i H/\Q (.ref Dd) H) \/
   (J.go i H/\ys.length<sizeLine/\∀x H',J.yld i H x H'->tgR K g x (capt js Z) H' λσ2 H2=>tc σ2 H2 λb H3=>
    if b=Wp then Zab T Y E0 e σ2 H3 λy H4=>H4 Dd=Wn (.lst ys)/\∃m',m'<m/\W (i+1) m' (ys++[y]) (upd H4 Dd (.lst (ys++[y])))
    else H3 Dd=Wn (.lst ys)/\∃m',m'<m/\W (i+1) m' ys H3):=by
 have n1:=rh.fr hD;refine⟨CwS Y H1 μ1 w.xs Dd λxs acc h=>Fin Y (RD Y) H1 μ1 ((ZG w.src g (tsto T c) (ev T e) xs (Zhy js S) acc h).bind λxs h2=>Zbf (.lst xs) h2) Q E,⟨w.xs.length,[],h1,μ1,Yv _,(Nat.sub_zero _).symm,Gr.lay0 hD,rh.lay0 hD,.nil,n1,f⟩,?_⟩;rintro i m ys H ⟨acc,h,B,hi,rfl,g1,rh1,ra,nD,f1⟩ hl;by_cases hlt:i<w.xs.length
 . obtain⟨d,hd⟩:∃d,w.xs[i]? = Wn d:=⟨_,Og hlt⟩
   have hdrop:w.xs.drop i=d::w.xs.drop (i+1):=by rw[List.drop_eq_getElem_cons hlt];have:=Og hlt;rw[hd]at this;rw[<- YD this]
   rw[hdrop,ZG]at f1;by_cases hs:Wk.stays w.src h=Wp/\acc.length<sizeLine
   . rw[if_pos hs]at f1;obtain⟨go,yl⟩:=(wj H B h g1 rh1 hs.1).1 i d hd;refine .inr ⟨go,by rw[<- ra.length];exact hs.2,λx H' hy=>?_⟩;obtain⟨g2,rh2,rx⟩:=yl x H' hy;obtain⟨hl2,nD2⟩:=g2.out hl nD;have g02:=g1.trans g2;split at f1
     . exact f1.elim
     . rename_i ρ1 hb;refine ZlL hY rx ((rs.mono rh g02).capt js) hb λσ1 rs1=>htc σ1 H' _ ⟨ρ1,h,B,rh2,rs1,?_⟩;rw[R.bind_assoc]at f1;refine Fin.plain f1 λb h3 b' H3 μ3 _ g3 rh3 eb f3=>?_;subst eb;obtain⟨hl3,nD3⟩:=g3.out hl2 nD2;have g03:=g02.trans g3;cases b with
       |true=>rw[if_pos rfl]at f3 ⊢;rw[R.bind_assoc]at f3;refine⟨ρ1,h3,μ3,rh3,rs1.mono rh2 g3,Fin.plain f3 λy h4 y' H4 μ4 _ g4 rh4 ry f4=>?_⟩;obtain⟨hl4,nD4⟩:=g4.out hl3 nD3;refine⟨hl4,_,Nat.sub_lt_sub_left hlt (OH i),acc++[y],h4,μ4,hlt,rfl,(g03.trans g4).put hD,rh4.swap hl4 nD4,((((ra.mono rh1 g2).mono rh2 g3).mono rh3 g4).append (.cons ry .nil)).tr (.swap hl4),nD4,f4⟩
       |false=>rw[if_neg (by decide)]at f3 ⊢;exact⟨hl3,_,Nat.sub_lt_sub_left hlt (OH i),acc,h3,μ3,hlt,rfl,g03,rh3,(ra.mono rh1 g2).mono rh2 g3,nD3,f3⟩
   . rw[if_neg hs]at f1;exact f1.elim
 . have he:i=w.xs.length:=by lia
   subst he;rw[List.drop_eq_nil_of_le (Oq _),ZG]at f1;by_cases hs:Wk.stays w.src h=Wp
   . rw[if_pos hs]at f1;refine .inl ⟨(wj H B h g1 rh1 hs).2,?_⟩;have f2:Fin Y (RD Y) H1 μ1 (.ok (.ref h.length) (h++[.lst acc])) Q E:=f1;exact f2.at (g1.add hD) (rh1.add nD ⟨ys,hl,ra.tr .more⟩) (.ref (by rw[rh1.len];simp))
   . rw[if_neg hs]at f1;exact f1.elim
section
variable {Y:Yx}{H:Hp}{B:List Yi}{h:Hd}
theorem RKs.look:∀{fs:List (Str×D)}{gs:List (Str×V)},RKs Y H B fs gs->(∀d,fs.lookup f=Wn d->∃v,gs.lookup f=Wn v/\RD Y H B d v)/\(fs.lookup f=Wo->gs.lookup f=Wo)
 |_,_,.nil=>⟨λd e=>by simp at e,λ_=>rfl⟩
 |_,_,.cons (k:=k) (d:=d0) (v:=v0) a s=>by
  by_cases e:f=k
  . subst e;exact⟨λd z=>by simp at z;subst z;exact⟨_,by simp,a⟩,λz=>by simp at z⟩
  . have b:(f==k)=Wq:=by simpa using e
    obtain⟨q1,q2⟩:=RKs.look (f:=f) s;refine⟨λd z=>?_,λz=>?_⟩
    . rw[OF,b]at z ⊢;exact q1 d z
    . rw[OF,b]at z ⊢;exact q2 z
theorem RKs.putAF(r:RD Y H B d v):∀{fs:List (Str×D)}{gs:List (Str×V)},RKs Y H B fs gs->RKs Y H B (ZpT f d fs) (Zb4 f v gs)
 |_,_,.nil=>.cons r .nil
 |_,_,.cons (k:=k) a s=>by
  unfold ZpT Zb4;by_cases e:k=f
  . rw[if_pos e,if_pos e];exact .cons r s
  . rw[if_neg e,if_neg e];exact .cons a (RKs.putAF r s)
def Zi0(rh:RH Y H B h)(r:RD Y H B d v)(e:Z8 d h=Wn (C,fs)):∃i a Ca dx gs,d=.ref i/\v=.ref a/\B[i]? = Wn a/\h[i]? = Wn (.ins C fs)/\H a=Wn (.ins Ca dx gs)/\Y.mg C=Wn (.ref Ca)/\RKs Y H B fs gs:=by
 unfold Z8 at e;split at e
 . rename_i i;split at e
   . rename_i C' fs' hi;cases e;cases r with
     |ref q=>rename_i a;obtain⟨Ca,dx,gs,z,m,s⟩:=rh.ob i _ a hi q;exact⟨i,a,Ca,dx,gs,rfl,rfl,q,hi,z,m,s⟩
   . cases e
 . cases e
def Zul(rh:RH Y H B h)(hx:H x=Wo)(hd:H dx=Wo)(ne:dx≠x)(m:Y.mg C=Wn (.ref Ca)):RH Y (upd (upd H dx (.own x)) x (.ins Ca dx [])) (B++[x]) (h++[.ins C []])/\Gr H B (upd (upd H dx (.own x)) x (.ins Ca dx [])) (B++[x]):=by
 have hx':upd H dx (.own x) x=Wo:=by rw[Zy (λz=>ne z.symm)];exact hx
 exact⟨(rh.lay0 hd).lay hx' ⟨Ca,dx,[],Zo,m,.nil⟩,(Gr.lay0 hd).trans (Gr.lay hx')⟩
end
def Zp6(hbase:attributeBase o name env (eval o env)=eval o env)
 (hform:methodCallForm (args.length+([]:List Keyword).length) (YQ pos (Yy args env)) (backToKw pos (keywordEach [] env))=Wp) (hline:(apos.endLine==pos.line)=Wp) :
 eval (.Call (.Attribute o name apos) args [] pos) env=(do
  let ov <- eval o env
  standAt apos.atName
  let (f,first) <- holding [ov] (getMethod ov name (do return (<- importBound o env).getD Wp))
  callWith pos f first (YQ pos (Yy args env)) (backToKw pos (keywordEach [] env))):=by
 have hpos:methodCallPos Wp o env apos pos=pure pos:=by unfold methodCallPos;simp[hline]
 rw[arm_eval_Call,hbase];unfold methodCall;simp only[hform,hpos];rfl
section
variable {T:Tb}{Γ:Gm}{X:Cx}{Y:Yx}{E:XK}{k:Nat}
def Zyf(G:Gd T Γ X Y E k)(hc:(Cs.all λC=>Wr (C∈Γ.kl.cs))=Wp)(hf:f∈Γ.kl.ats)(rh:RH Y H B h)(rd:RD Y H B d x)(ff:Fin Y (RD Y) H B (ZgF Cs f d h) Q E):
 ∃a C dx fs v,x=.ref a/\H a=Wn (.ins C dx fs)/\Cls X.K C/\ZaP X.K C f/\fs.lookup f=Wn v/\Q v H:=by
 unfold ZgF at ff;split at ff
 . rename_i C fs e;obtain⟨hC,ff⟩:=ff.iff;obtain⟨i,a,Ca,dx,gs,rfl,rfl,q,hi,z,m,s⟩:=Zi0 rh rd e;obtain⟨w,e1,ff⟩:=ff.ofO;obtain⟨v,l,rv⟩:=(s.look (f:=f)).1 w e1;rw[OC]at hc;obtain⟨Ca',m',cl,na⟩:=G.cls C (of_decide_eq_true (hc C hC));rw[G.gk.mg,m']at m;cases m;exact⟨a,Ca,dx,gs,v,rfl,z,cl,na f hf,l,ff.ok rh rv⟩
 . exact ff.elim
def Zq3(G:Gd T Γ X Y E k)(hc:(Cs.all λC=>Wr (C∈Γ.kl.cs))=Wp)(hf:f∈Γ.kl.ats)(rh:RH Y H B h)(rd:RD Y H B d x)(re:RD Y H B e y)(ff:Fin Y (RD Y) H B (ZiB Cs f d e h) Q E):
 ∃a C dx fs,x=.ref a/\H a=Wn (.ins C dx fs)/\Cls X.K C/\ZaP X.K C f/\fs.length<1000/\Q .non (upd H a (.ins C dx (Zb4 f y fs))):=by
 unfold ZiB at ff;split at ff
 . rename_i i;split at ff
   . rename_i C fs hi;obtain⟨⟨hC,hl⟩,ff⟩:=ff.iff;obtain⟨i',a,Ca,dx,gs,e1,rfl,q,hi',z,m,s⟩:=Zi0 rh rd (show Z8 (.ref i) h=Wn (C,fs) by simp[Z8,hi]);cases e1;rw[OC]at hc;obtain⟨Ca',m',cl,na⟩:=G.cls C (of_decide_eq_true (hc C hC));have m0:=m;rw[G.gk.mg,m']at m;cases m;refine⟨a,Ca,dx,gs,rfl,z,cl,na f hf,by rw[<- s.length];exact hl,ff.at (Gr.write (O1 q) (by rw[z];trivial)) (rh.write q ?_ (by rw[z];trivial)) .non⟩;exact⟨Ca,dx,_,Zo,m0,(RKs.putAF re s).mono rh (Gr.write (O1 q) (by rw[z];trivial))⟩
   . exact ff.elim
 . exact ff.elim
def ZzL(G:Gd T Γ X Y E k)(h2:C∈Γ.kl.is)(h3:glb Γ C=Wp)(h4:chks Γ es ys=Wp)(ha:PA X ys (Znl T Y E es)):PE X (.Call (.Name C p) ys [] pos) (Zab T Y E (.mk C es)):=by
 obtain⟨a,f,fd,ps,m,M,F,B_⟩:=G.mks _ h2;obtain⟨g1,g2⟩:=G.gl h3;have key:∀(ds:List D) (h1:Hd) (xs:List V) (H1:Hp) (μ1:List Yi) (Q:VK),RH Y H1 μ1 h1->RDs Y H1 μ1 ds xs->Fin Y (RD Y) H1 μ1 (ZrX T.C C ds h1) Q E->∀x dx,H1 x=Wo->H1 dx=Wo->dx≠x ->
  Zgt T Y (mnm C (O "__init__")) (.ref x::(xs++[])) (upd (upd H1 dx (.own x)) x (.ins a dx [])) (λv H2=>v=.non/\Q (.ref x) H2) E:=by
  intro ds h1 xs H1 μ1 Q rh1 rds f1 x dx hx hd ne;obtain⟨rh2,g2⟩:=Zul (C:=C) (Ca:=a) rh1 hx hd ne (by rw[G.gk.mg];exact m);have px:(μ1++[x])[h1.length]? = Wn x:=by rw[rh1.len];simp
  refine⟨.ref h1.length::ds,h1++[.ins C []],μ1++[x],rh2,.cons (.ref px) (by rw[Yr];exact rds.mono rh1 g2),?_⟩;refine Fin.bind (Fin.mono g2 f1) λd h3 v H3 μ3 _ g3 rh3 rd3 f3=>?_;cases d with
  |non=>cases rd3;exact⟨rfl,f3.ok rh3 (.ref (g3.pre _ _ px))⟩
  |_=>exact f3.elim
 cases ys with
 |nil=>
  cases es with
  |nil=>
   exact(ZrD M F G.room1 g1 m B_ .nil G.pass g2).imp λZ H Q s=>by
    cases s with
    |mk S h B rh rs f=>exact key [] h [] H B Q rh .nil f
  |cons e r=>exact ff h4
 |cons y ys=>exact(ZtS M F G.room1 g1 m B_ .nil G.pass ha g2 (ZcS X.env h4).1 ((ZcS X.env h4).2 _)).imp λZ H Q s=>Sm.bind s λS ds h1 xs H1 μ1 rh1 _ rds f1=>key ds h1 xs H1 μ1 Q rh1 rds f1
def Zxp(G:Gd T Γ X Y E k)(h5:(C,n)∈Γ.kl.ms)(h3:Zbw xo=Wp)(h4:chks Γ es ys=Wp)(h6:ys.length<29)(h7:(ap.endLine==cp.line)=Wp)(ho:PE X xo (Zab T Y E o))(ha:PA X ys (Znl T Y E es)):
 PE X (.Call (.Attribute xo n ap) ys [] cp) (Zab T Y E (.mcl C n o es)):=by
 obtain⟨a,f,fd,ps,mm,c,hm,F,B_⟩:=G.mts _ h5;have hform:methodCallForm (ys.length+([]:List Keyword).length) (YQ cp (Yy ys X.env)) (backToKw cp (keywordEach [] X.env))=Wp:=by
  unfold methodCallForm;rw[(Zfo Γ X.env es ys h4 _).2];have h30:Wr (ys.length+([]:List Keyword).length+(if (backToKw cp (keywordEach [] X.env)).isEmpty then 0 else 1)<30)=Wp:=by
   rw[decide_eq_true_eq];show ys.length+0+0<30
   lia
  rw[h30];rfl
 have ht:=Zp6 (o:=xo) (name:=n) (apos:=ap) (pos:=cp) (args:=ys) (env:=X.env) (ZfX h3) hform h7;have key:∀(d:D) (h1:Hd) (x:V) (H1:Hp) (μ1:List Yi) (S:Ev) (Z:L2.St) (Q:VK),RH Y H1 μ1 h1->RS Y H1 μ1 S Z->RD Y H1 μ1 d x->Fin Y (RD Y) H1 μ1 (match Z8 d h1 with
  |some (C',fs)=>if C'=C/\fs.lookup n=Wo then(evs T es S h1).bind λxs h2=>T.C (mnm C n) (d::xs) h2 else .bad
  |none=>.bad) Q E->∃b dx fs,x=.ref b/\H1 b=Wn (.ins a dx fs)/\fs.lookup n=Wo/\Znl T Y E es Z H1 λvs H2=>Zgt T Y (mnm C n) (x::(vs++[])) H2 Q E:=by
  intro d h1 x H1 μ1 S Z Q rh1 rs1 rd f1;split at f1
  . rename_i C' fs e;obtain⟨⟨e1,e2⟩,f1⟩:=f1.iff;subst e1;obtain⟨i,b,Ca,dx,gs,rfl,rfl,q,hi,z,m',s⟩:=Zi0 rh1 rd e;rw[G.gk.mg,mm]at m';cases m';refine⟨b,dx,gs,rfl,z,(s.look (f:=n)).2 e2,S,h1,μ1,rh1,rs1,f1.bind λds h2 vs H2 μ2 _ g2 rh2 rds f2=>⟨_,h2,μ2,rh2,.cons (rd.mono rh1 g2) (by rw[Yr];exact rds),f2⟩⟩
  . exact f1.elim
 cases ys with
 |nil=>
  cases es with
  |nil=>
   exact(ZrC ho c hm F G.room B_ .nil G.pass ht).imp λZ H Q s=>Sm.bind s λS d h1 x H1 μ1 rh1 rs1 rd f1=>by
    obtain⟨b,dx,fs,e1,e2,e3,s⟩:=key d h1 x H1 μ1 S Z Q rh1 rs1 rd f1;cases s with
    |mk ρ' h' μ' rh' rs' f'=>exact⟨b,dx,fs,e1,e2,e3,f'.ok rh' .nil⟩
  |cons e r=>exact ff h4
 |cons y ys=>exact(ZtQ ho c hm F G.room B_ .nil G.pass ha (ZcS X.env h4).1 ((ZcS X.env h4).2 _) ht).imp λZ H Q s=>Sm.bind s λS d h1 x H1 μ1 rh1 rs1 rd f1=>key d h1 x H1 μ1 S Z Q rh1 rs1 rd f1
end
def ZoC{q:Prop}(X:Cx)(hx:Zzs scope x=Wp):Loc (relabel scope X.env) x/\(q\/(relabel scope X.env).names.lookup x=Wn .local):=by
 have:(relabel scope X.env).names.lookup x=Wn .local:=by rw[Zbu,of_decide_eq_true hx];rfl
 exact⟨.inl this,.inr this⟩
def ZqA(e:Zip (.ref i) h=Wn w):∃xs,h[i]? = Wn (.lst xs)/\w=⟨[(i,xs)],xs⟩:=by
 unfold Zip at e;simp only at e;split at e
 . cases e;exact⟨_,by assumption,rfl⟩
 . cases e
def ZyG{X:Cx}{h1:Hd}(K:Y.K=X.K)(rh:RH Y H1 μ1 h1)(r:RD Y H1 μ1 d v)(il:ZfH d h1=Wp):tyV X.K "list" v H1:=by
 cases r with
 |ref q=>
  rename_i i a;have:∃xs,h1[i]? = Wn (.lst xs):=by
   unfold ZfH at il;simp only at il;split at il
   . exact⟨_,by assumption⟩
   . cases il
  obtain⟨xs,hx⟩:=this;obtain⟨vs,hl,_⟩:=rh.ob i _ a hx q;exact .inl ⟨rfl,vs,.of hl⟩
 |_=>cases il
def Zui(G:Gd T Γ X Y E k)(ho:PE X xo (Zab T Y E o))(h3:Zbw xo=Wp)(h4:chks Γ es ys=Wp)(h5:ys.length<29)(h6:(ap.endLine==cp.line)=Wp)(ha:PA X ys (Znl T Y E es)):
 PE X (.Call (.Attribute xo (Zr1 m) ap) ys [] cp) (Zab T Y E (.meth m o es)):=by
 obtain⟨sl,ty⟩:=ZzK m;cases ys with
 |nil=>
  cases es with
  |nil=>exact(Zw5 PySem.F.plainAttrs_list sl ty (ZoL (Y:=Y) (E:=E) G.gk.K m) ho (ZfX h3) h6).imp λZ H Q s=>Sm.bind s λS d h1 x H1 μ1 rh1 rs1 rd f1=>⟨ZyG G.gk.K rh1 rd f1.iff.1,d,[],h1,μ1,rh1,rd,.nil,f1.iff.2⟩
  |cons e r=>exact ff h4
 |cons y ys=>
  refine(ZvF PySem.F.plainAttrs_list sl ty (ZoL (Y:=Y) (E:=E) G.gk.K m) ho ha (ZfX h3) ?_ h6 (ZcS X.env h4).1 ((ZcS X.env h4).2 _)).imp λZ H Q s=>Sm.bind s λS d h1 x H1 μ1 rh1 rs1 rd f1=>⟨ZyG G.gk.K rh1 rd f1.iff.1,S,h1,μ1,rh1,rs1,f1.iff.2.bind λds h2 xs H2 μ2 _ g2 rh2 rds f2=>⟨d,ds,h2,μ2,rh2,rd.mono rh1 g2,rds,f2⟩⟩
  rw[(Zfo Γ X.env es (y::ys) h4 _).2];have h30:Wr ((y::ys).length+([]:List Keyword).length+(if ([]:List Keyword).isEmpty then 0 else 1)<30)=Wp:=by rw[decide_eq_true_eq];exact Nat.lt_succ_of_lt h5
  rw[h30];rfl
def ZBT(hb:∀d h',e=.ok d h'->∃c,d=.bl c)(f:Fin Y eqR H B (e.bind λx h1=>R.ofO (ZeY GD x h1) h1) Q E):Fin Y (RD Y) H B e (λv H'=>∃c,v=.bl c/\Q c H') E:=
 f.bind λd h1 x H1 μ1 er g rh1 rd f1=>by obtain⟨c,rfl⟩:=hb d h1 er;cases rd;exact⟨c,rfl,Fin.ok (show Fin Y eqR H1 μ1 (.ok c h1) Q E from f1) rh1 rfl⟩
def ZBU{f:D->D->Hd->R D}(hf:∀x y h d h',f x y h=.ok d h'->∃c,d=.bl c)(s:Sm Y E eqR (λS h=>((ev T a S h).bind λx h1=>(ev T b S h1).bind λy h2=>f x y h2).bind λx h1=>R.ofO (ZeY T.GD x h1) h1) Z H Q):
 Zab T Y E a Z H λx H1=>Zab T Y E b Z H1 λy H2=>rB Y E f x y H2 λv H3=>∃c,v=.bl c/\Q c H3:=by
 cases s with
 |mk S h B rh rs q=>refine ZpP ⟨S,h,B,rh,rs,ZBT (λd h' er=>?_) q⟩;obtain⟨_,_,_,er⟩:=R.bind_eq er;obtain⟨_,_,_,er⟩:=R.bind_eq er;exact hf _ _ _ _ _ er
def ZuQ(G:Gd T Γ X Y E k)(ha:PE X l (Zab T Y E a))(hb:PE X r (Zab T Y E b))(hm:Zbv r=Wp):PT X (.Compare l [op] [r] pos) (Znk T Y E (.ex (.cmp op a b))):=(ZtC (Zgv (E:=E) G.room G.h60 G.gk op) ha hb (ZfA hm)).imp λ_ _ _ s=>ZBU (f:=opC T.GD op) (λ_ _ _ _ _=>ZrP) s
noncomputable def ZAp(r:D)(k:Hd->R D)(h:Hd):R D:=match r with
 |.bl Wp=>k h
 |.bl Wq=>.ok (.bl Wq) h
 |_=>.bad
def Zx9{r:R α}:r.bind R.ok=r:=by cases r<;>rfl
def ZAm(s:Sm Y E rel (λS h=>(ev T (.cmp2 o1 o2 a b c) S h).bind k) Z H Q)
 (hq:∀d h1 v H1 μ1,RH Y H1 μ1 h1->RD Y H1 μ1 d v->(∃c,d=.bl c)->Fin Y rel H1 μ1 (k d h1) Q E->Q' v H1) :
 Zab T Y E a Z H λx H1=>Zab T Y E b Z H1 λy H2=>rB Y E (opC T.GD o1) x y H2 λv H3=>∃q,v=.bl q/\if q=Wp then Zab T Y E c Z H3 λz H4=>rB Y E (opC T.GD o2) y z H4 Q' else Q' (.bl Wq) H3:=by
 cases s with
 |mk S h B rh rs f=>
  have f:Fin Y rel H B ((ev T a S h).bind λx h1=>(ev T b S h1).bind λy h2=>(opC T.GD o1 x y h2).bind λr h3=>(ZAp r (λh3=>(ev T c S h3).bind λz h4=>opC T.GD o2 y z h4) h3).bind k) Q E:=by have q:=f;rw[show ev T (.cmp2 o1 o2 a b c) S h=(ev T a S h).bind λx h1=>(ev T b S h1).bind λy h2=>(opC T.GD o1 x y h2).bind λr h3=>ZAp r (λh3=>(ev T c S h3).bind λz h4=>opC T.GD o2 y z h4) h3 from rfl,R.bind_assoc]at q;simpa only[R.bind_assoc]using q
  refine⟨S,h,B,rh,rs,f.bind λd h1 x H1 μ1 _ g rh1 rd f1=>⟨S,h1,μ1,rh1,rs.mono rh g,f1.bind λe h2 y H2 μ2 _ g2 rh2 re f2=>⟨d,e,h2,μ2,rh2,rd.mono rh1 g2,re,f2.bind λr h3 z H3 μ3 _ g3 rh3 rz f3=>?_⟩⟩⟩;cases rz with
  |bl q=>
   refine⟨q,rfl,?_⟩;cases q with
   |true=>refine Zmw ⟨S,h3,μ3,rh3,((rs.mono rh g).mono rh1 g2).mono rh2 g3,?_⟩;have f3:Fin Y rel H3 μ3 (((ev T c S h3).bind λz h4=>opC T.GD o2 e z h4).bind k) Q E:=f3;rw[R.bind_assoc]at f3;exact f3.bind λd4 h4 w H4 μ4 _ g4 rh4 rw' f4=>⟨e,d4,h4,μ4,rh4,(re.mono rh2 g3).mono rh3 g4,rw',f4.bind λd5 h5 w5 H5 μ5 er g5 rh5 rd5 f5=>hq d5 h5 w5 H5 μ5 rh5 rd5 (ZrP er) f5⟩
   |false=>exact Zmx (hq (.bl Wq) h3 _ H3 μ3 rh3 (.bl _) ⟨_,rfl⟩ f3)
  |_=>exact f3.elim
def ZsQ(G:Gd T Γ X Y E k)(ha:PE X l (Zab T Y E a))(hb:PE X m (Zab T Y E b))(hc:PE X r (Zab T Y E c))(hm:Zbv r=Wp):PT X (.Compare l [o1,o2] [m,r] pos) (Znk T Y E (.ex (.cmp2 o1 o2 a b c))):=
 (Zrq (Zgv (E:=E) G.room G.h60 G.gk o1) (Zgv (E:=E) G.room G.h60 G.gk o2) ha hb hc (ZfA hm)).imp λZ H Q s=>ZAm (Q':=λv H'=>∃c,v=.bl c/\Q c H') s λd h1 v H1 μ1 rh1 rd ⟨q,e⟩ f1=>by subst e;cases rd;exact⟨q,rfl,Fin.ok (show Fin Y eqR H1 μ1 (.ok q h1) Q E from f1) rh1 rfl⟩
def ZpW(G:Gd T Γ X Y E k)(he:PE X x (Zab T Y E e))(h1:Znq x=Wp):PT X x (Znk T Y E (.ex e)):=
 (Zrp he ((kdE x).tr h1 _)).imp λZ H Q s=>Sm.bind s λS d h1 x H1 μ1 rh1 rs1 rd f1=>by obtain⟨b,eb,f1⟩:=f1.ofO;exact⟨b,Ztd G.gk.K rh1 rd eb,f1.ok rh1 rfl⟩
def Zn5(T:Tb)(Y:Yx)(E:XK):Exs->List (TE×TE)
 |.nil=>[]
 |.cons k r=>match r with
  |.nil=>[]
  |.cons v r'=>(Zab T Y E k,Zab T Y E v)::Zn5 T Y E r'
section
variable {Y:Yx}{H:Hp}{B:List Yi}{h:Hd}{Dd:Yi}{ys zs:List (Key×V)}
def ZpK{K:Yk}(hD:H Dd=Wn (.dK ys))(t:SqT K H a vs):SqT K (upd H Dd (.dK zs)) a vs:=by
 rcases t with t|t
 . rcases t with t|⟨o,t⟩
   . exact .inl (.inl (by rw[Zy (λz=>by rw[z,hD]at t;cases t)];exact t))
   . exact .inl (.inr ⟨o,by rw[Zy (λz=>by rw[z,hD]at t;cases t)];exact t⟩)
 . exact .inr t
def Zqj{K:Yk}(hD:H Dd=Wn (.dK ys))(t:FzL K H a vs):FzL K (upd H Dd (.dK zs)) a vs:=by
 rcases t with ⟨o,t⟩|t
 . exact .inl ⟨o,by rw[Zy (λz=>by rw[z,hD]at t;cases t)];exact t⟩
 . exact .inr t
def Tr.swapD(hD:H Dd=Wn (.dK ys)):Tr Y H B (upd H Dd (.dK zs)) B:=⟨ZpK hD,Zqj hD,id⟩
end
inductive RPs(Y:Yx)(H:Hp)(B:List Yi):List D->List (V×V)->Prop
 |nil:RPs Y H B [] []
 |cons {k v:D}{r:List D}{x y:V}{ps:List (V×V)}:RD Y H B k x->RD Y H B v y->RPs Y H B r ps->RPs Y H B (k::v::r) ((x,y)::ps)
theorem RPs.pairs:∀{ds:List D}{ps:List (V×V)}{kvs:List (Key×D)},RPs Y H B ds ps->ZeZ ds=Wn kvs->∃kvs':List (Key×V),ps=kvs'.map (λkv=>(kV kv.1,kv.2))/\RKs Y H B kvs kvs'
 |_,_,_,.nil,e=>by cases e;exact⟨[],rfl,.nil⟩
 |_,_,_,.cons a b s,e=>by
  rw[ZeZ]at e;split at e
  . rename_i k r e1 e2;cases e;obtain⟨kvs',rfl,rk⟩:=s.pairs e2;have:=ZdU a e1;subst this;exact⟨(k,_)::kvs',rfl,.cons b rk⟩
  . cases e
theorem RPs.keysOk:∀{ds:List D}{ps:List (V×V)}{kvs:List (Key×D)},RPs Y H B ds ps->ZeZ ds=Wn kvs->ZcK kvs
 |_,_,_,.nil,e=>by cases e;intro p hp;cases hp
 |_,_,_,.cons a b s,e=>by
  rw[ZeZ]at e;split at e
  . rename_i k r e1 e2;cases e;intro p hp x z;rcases O2.mp hp with rfl|hp
    . exact Zse a e1 x z
    . exact s.keysOk e2 p hp x z
  . cases e
theorem ZfG:∀{more kvs:List (Key×D)},ZcK more->ZcK kvs->ZcK (Zgx kvs more)
 |[],kvs,_,h=>h
 |(k,d)::r,kvs,hm,h=>ZfG (more:=r) (kvs:=putD kvs k d) (λp hp=>hm p (Oh _ hp)) (ZiX h (λx e=>hm (k,d) Oi x e))
theorem RKs.merge:∀{more:List (Key×D)}{more':List (Key×V)}{kvs:List (Key×D)}{kvs':List (Key×V)},RKs Y H B more more'->RKs Y H B kvs kvs'->RKs Y H B (Zgx kvs more) (Zgw kvs' more')
 |_,_,_,_,.nil,s=>s
 |_,_,_,_,.cons (k:=k) a r,s=>by have z:=RKs.merge r (s.put k a);exact z
def ZrJ:∀(n:Nat) (ps:Exs) {K:List D->Hd->R D}{H:Hp}{B:List Yi}{h:Hd}{Q1:List (V×V)->Hp->Prop}{Γ:Gm}{ks:List (Option Expr)}{vs:List Expr},ks.length<=n->chkp Γ ps ks vs=Wp ->
 Gr H0 μ0 H B->RH Y H B h->RS Y H B S Z->Fin Y (RD Y) H0 μ0 ((evs T ps S h).bind K) Q E ->
 (∀ds h1 qs H1 μ1,Gr H B H1 μ1->RH Y H1 μ1 h1->RPs Y H1 μ1 ds qs->Fin Y (RD Y) H0 μ0 (K ds h1) Q E->Q1 qs H1)->ZkZ (Zn5 T Y E ps) Z H Q1:=by
 intro n;induction n with
 |zero=>
  intro ps K H B h Q1 Γ ks vs hl hc g0 rh rs f hq;cases ps with
  |nil=>exact hq [] h [] H B Gr.refl rh .nil f
  |cons k r=>
   cases r with
   |nil=>unfold chkp at hc;cases hc
   |cons v r'=>
    unfold chkp at hc;simp only at hc;split at hc
    . simp at hl
    . cases hc
 |succ n ih=>
  intro ps K H B h Q1 Γ ks vs hl hc g0 rh rs f hq;cases ps with
  |nil=>exact hq [] h [] H B Gr.refl rh .nil f
  |cons k r=>
   cases r with
   |nil=>unfold chkp at hc;cases hc
   |cons v r'=>
    unfold chkp at hc;simp only at hc;split at hc
    . rw[Oa]at hc;have f1:Fin Y (RD Y) H0 μ0 ((ev T k S h).bind λx h1=>(ev T v S h1).bind λy h2=>(evs T r' S h2).bind λxs h3=>K (x::y::xs) h3) Q E:=by
       have e:(evs T (.cons k (.cons v r')) S h).bind K=(ev T k S h).bind λx h1=>(ev T v S h1).bind λy h2=>(evs T r' S h2).bind λxs h3=>K (x::y::xs) h3:=by show((ev T k S h).bind λx h1=>((ev T v S h1).bind λy h2=>(evs T r' S h2).bind λxs h3=>R.ok (y::xs) h3).bind λxs h2=>R.ok (x::xs) h2).bind K=_;simp only[R.bind_assoc,R.bind_ok]
       rw[<- e];exact f
      refine⟨S,h,B,rh,rs,Fin.bindB g0 f1 λd h1 x H1 μ1 _ g1 rh1 rd f2=>?_⟩;refine⟨S,h1,μ1,rh1,rs.mono rh g1,Fin.bindB (g0.trans g1) f2 λe h2 y H2 μ2 _ g2 rh2 re f3=>?_⟩;refine ih r' (by simpa using hl) (bR hc.2) ((g0.trans g1).trans g2) rh2 ((rs.mono rh g1).mono rh1 g2) f3 λds h3 qs H3 μ3 g3 rh3 rp f4=>?_;exact hq (d::e::ds) h3 ((x,y)::qs) H3 μ3 ((g1.trans g2).trans g3) rh3 (.cons ((rd.mono rh1 g2).mono rh2 g3) (re.mono rh2 g3) rp) f4
    . cases hc
def ZuM(ps:Exs)(G:Gd T Γ X Y E k)(h15:ks.length<=15)(hc:chkp Γ ps ks vs=Wp)(hp:PPs X pos ks vs (Zn5 T Y E ps))(hall:ks.all (·.isSome)=Wp)(hl:ks.length=vs.length):PE X (.Dict ks vs pos) (Zab T Y E (.dictl ps)):=by
 by_cases h0:ks=[]
 . subst h0;cases vs with
   |cons a b=>cases hl
   |nil=>
    cases ps with
    |cons k r=>
     cases r with
     |nil=>unfold chkp at hc;cases hc
     |cons v r'=>unfold chkp at hc;cases hc
    |nil=>refine ZrH.imp λZ H Q ⟨S,h,B,rh,rs,f⟩ p hp=>?_;have f:Fin Y (RD Y) H B (Zbf (.dic []) h) Q E:=f;exact f.new rh hp ⟨[],Zo,.nil⟩ (λp hp=>by cases hp)
 . refine(ZtT hp hall hl h0 h15).imp λZ H Q ⟨S,h,B,rh,rs,f⟩ p hp=>?_;have np:=rh.fr hp;refine ZrJ ks.length ps (Oq _) hc (Gr.lay0 hp) (rh.lay0 hp) (rs.mono rh (Gr.lay0 hp)) f λds h1 qs H1 μ1 g1 rh1 rp f1=>?_;obtain⟨hl1,nD⟩:=g1.out (Zo (H:=H)) np;have g01:Gr H B H1 μ1:=(Gr.lay0 hp).trans g1;split at f1
   . rename_i kvs ek;obtain⟨hz,f1⟩:=f1.iff;obtain⟨kvs',rfl,rk⟩:=rp.pairs ek;refine⟨hl1,kvs',rfl,by rw[<- rk.length];exact hz,?_⟩;have f2:Fin Y (RD Y) H B (.ok (.ref h1.length) (h1++[.dic (Zgx [] kvs)])) Q E:=f1;exact f2.at ((g01.put hp).add hp) ((rh1.tr (.swapD hl1) λ_ ha=>Zy λz=>nD (z ▸ ha)).add nD ⟨_,Zo,((rk.merge .nil).tr (.swapD hl1)).tr .more⟩ (show ZcK (Zgx [] kvs)from ZfG (rp.keysOk ek) (λp hp=>by cases hp))) (.ref (by rw[rh1.len];simp))
   . exact f1.elim
mutual
theorem Zm(e:Ex){Γ:Gm}{X:Cx}{E:XK}{k:Nat}{x:Expr}(G:Gd T Γ X Y E k)(h:chk Γ e x=Wp):PE X x (Zab T Y E e):=match e,h with
 | .var i,h=>ZzI h fun x q h=>(Zrz (by rw [G.N];exact of_decide_eq_true (bL h)) (G.vis _ (bL (bR h))) (by simpa using bL (bR (bR h))) (by simpa using bR (bR (bR h)))).imp fun Z H Q s=>by
   cases s with
   | mk S h B rh rs f =>
     obtain ⟨d,e,f⟩:=Fin.ofO (show Fin Y (RD Y) H B (R.ofO (S[i]?).join h) Q E from f);obtain ⟨v,e1,rd⟩:=rs.var e;exact ⟨v,e1,f.ok rh rd⟩
 | .cst d,h=>ZsN G h
 | .glo y,h=>Zm9 h fun q h pins s Z H Q I sm=>by
   cases sm with
   | mk S h' B rh rs f =>
     obtain ⟨d,e,f⟩:=Fin.ofO (show Fin Y (RD Y) H B (R.ofO (T.G y) h') Q E from f);obtain ⟨v,u,hm,rv,rd⟩:=G.gk.g y d e;exact Zoy (G.gl h).1 hm rv (G.gl h).2 pins s Z H Q I (f.ok rh (rd H B))
 | .bin op a b,h=>Zv9 h fun l r q h=>(ZvE (Zxj G.gk.K op) (Zm a G (bL h)) (Zm b G (bR h))).imp fun _ _ _ s=>ZpP s
 | .cmp op a b,h=>ZsW h fun l r q h=>(Zoz (Zgv G.room G.h60 G.gk op) (Zm a G (bL h)) (Zm b G (bL (bR h))) (ZfA (bR (bR h)))).imp fun _ _ _ s=>ZpP s
 | .cmp2 o1 o2 a b c,h=>Zv6 h fun l m r q h=>(ZrI (Zgv (E:=E) G.room G.h60 G.gk o1) (Zgv (E:=E) G.room G.h60 G.gk o2) (Zm a G (bL h)) (Zm b G (bL (bR h))) (Zm c G (bL (bR (bR h)))) (ZfA (bR (bR (bR h))))).imp fun Z H Q s =>
   ZAm (k:=R.ok) (rel:=RD Y) (Q:=Q) (by simp only [Zx9];exact s) fun d h1 v H1 μ1 rh1 rd _ f1=>f1.ok rh1 rd
 | .neg a,h=>Zwj h fun x q h=>(Zzo Zwi (Zm a G h)).imp fun Z H Q s=>Sm.bind s fun S d h1 x H1 μ1 rh1 rs1 rd f1=>by
   cases rd with
   | int i=>exact ⟨i,rfl,Fin.ok f1 rh1 (.int _)⟩
   | _=>exact f1.elim
 | .nt a,h=>Zwj h fun x q h=>(ZwZ (Zm a G h)).imp fun Z H Q s=>Sm.bind s fun S d h1 x H1 μ1 rh1 rs1 rd f1=>by
   cases rd with
   | bl i=>exact ⟨i,rfl,Fin.ok f1 rh1 (.bl _)⟩
   | _=>exact f1.elim
 | .ands es,h=>Zue h fun xs q h=>and_ok es G h
 | .ors es,h=>Zue h fun xs q h=>or_ok es G h
 | .ite c a b,h=>ZBv h fun t x y q h=>(ZrF (tst_ok c G (bL h)) (Zm a G (bL (bR h))) (Zm b G (bR (bR h)))).imp fun Z H Q s=>Sm.bind s fun S d h1 v H1 μ1 rh1 rs1 rd f1=>by
   cases rd;cases d with
   | true=>exact Zmw ⟨S,h1,μ1,rh1,rs1,f1⟩
   | false=>exact Zmx ⟨S,h1,μ1,rh1,rs1,f1⟩
 | .tupl es,h=>Zl4 h fun xs j q h=>(ZwX (evs_ok es G h)).imp fun Z H Q s=>Sm.bind s fun S d h1 x H1 μ1 rh1 rs1 rd f1=>⟨by rw [<- rd.length];exact f1.iff.1,fun p hp=>f1.iff.2.tup rh1 hp rd⟩
 | .lstl es,h=>ZvH h fun xs q h=>(ZrE (evs_ok es G h)).imp fun Z H Q s=>Sm.bind s fun S d h1 x H1 μ1 rh1 rs1 rd f1=>⟨by rw [<- rd.length];exact f1.iff.1,fun p hp=>f1.iff.2.new rh1 hp ⟨_,Zo,rd.mono rh1 (Gr.lay hp)⟩⟩
 | .ix a i,h=>ZwB h fun x y q h=>(Zzq (Zt4 G.gk) (Zm a G (bL h)) (Zm i G (bL (bR h))) (ZqX (bR (bR h)))).imp fun _ _ _ s=>ZpP s
 | .sl a lo hi,h=>Zy2 h fun x l u q r h=>(ZrA (Zt2 (E:=E) G.gk.K) (Zm a G (bL h)) (evo_ok lo G (bL (bR h))) (evo_ok hi G (bR (bR h)))).imp fun Z H Q s=>Sm.bind s fun S d h1 x H1 μ1 rh1 rs1 rd f1 =>
   ⟨S,h1,μ1,rh1,rs1,Fin.bind f1 fun l h2 l' H2 μ2 _ g2 rh2 rl f2=>⟨S,h2,μ2,rh2,rs1.mono rh1 g2,Fin.bind f2 fun u h3 u' H3 μ3 _ g3 rh3 ru f3=>by
     cases rl;cases ru;exact ⟨d,h3,μ3,rh3,(rd.mono rh1 g2).mono rh2 g3,f3⟩⟩⟩
 | .blt f es,h=>Zdm h fun p ys q h=>ZsM (bL (bR h)) (bR (bR h)) fun y r hs=>(Zx8 G f (bL (bL h)) (G.gl (bR (bL h))).1 (evs_ok es G hs) (ZcS X.env hs).1 ((ZcS X.env hs).2 _)).imp fun Z H Q s=>Sm.bind s fun S d h1 x H1 μ1 rh1 rs1 rd f1=>⟨d,h1,μ1,rh1,rd,f1⟩
 | .call f es,h=>Zdm h fun p ys q h=>ZsM (bL (bR (bR h))) (bR (bR (bR h))) fun y r hs=>by
   obtain ⟨ps,hd⟩:=G.defs _ (of_decide_eq_true (bL h));exact (Zw3 hd G.room (G.gl (bL (bR h))).1 G.pass (evs_ok es G hs) (G.gl (bL (bR h))).2 (ZcS X.env hs).1 ((ZcS X.env hs).2 _)).imp fun Z H Q s=>Sm.bind s fun S d h1 x H1 μ1 rh1 rs1 rd f1=>⟨d,h1,μ1,rh1,rd,f1⟩
 | .meth m o es,h=>ZsV h fun xo ap ys cp h=>Zui G (Zm o G (bL h)) (bL (bR h)) (bL (bR (bR h))) (of_decide_eq_true (bL (bR (bR (bR h))))) (bR (bR (bR (bR h)))) (evs_ok es G (bL (bR (bR h))))
 | .comp NC js it g c e,h=>ZvL h fun elt tg iter ifs scope q h=>by
   have S_:=ZmG (bL (bR h));rw [<- G.N,<- G.sc (bL h)] at S_;have h:=bR (bR h);have Gc:=fun C s3 H3 fp=>G.comp NC scope C s3 H3 fp S_.nd;refine (ZtU (g:=tgR X.K g) (tc:=Sm Y E0 eqR (tsto T c)) (te:=Zab T Y E0 e) S_ rfl G.calm (evi_ok it G (bL h)) (fun C s3 H3 fp=>⟨Zow rfl S_.nd rfl (fun x hx=>ZoC (scope:=scope) X hx) (bL (bR (bR h))),ifs_ok c (Gc C s3 H3 fp) (bL (bR (bR (bR (bR h))))),Zm e (Gc C s3 H3 fp) (bR (bR (bR (bR (bR h)))))⟩) (ZyN X.K g) (fun j hj=>of_decide_eq_true (OC.mp (bL (bR (bR (bR h)))) j (List.mem_range.mpr hj))) (Zni X.env (bL (bR h)))).imp
     fun Z H Q s=>Sm.bind s fun S w h1 J H1 μ1 rh1 rs1 wj f1 D hD=>Zpk G.gk.K (fun _ _ _ z=>z) rh1 rs1 wj f1 hD
 | .sorts e,h=>ff h
 | .trev e,h=>ff h
 | .lrv e,h=>ff h
 | .tix o e,h=>ff h
 | .lix o e,h=>ff h
 | .tmt m o e,h=>ZsV h fun xo ap ys cp h=>ZaY h fun y h=>by
   have st:=bL (bR (bR (bR h)));have sl:Slot "str" (Zvm m) (tid m)/\typeOf (.builtin (tid m))=pure (.type "method_descriptor"):=by cases m;exact ⟨PySem.F.slot_str_split,PySem.F.type_str_split⟩;exact ⟨PySem.F.slot_str_join,PySem.F.type_str_join⟩
   refine (ZvF PySem.F.plainAttrs_str sl.1 sl.2 (Zwk (Y:=Y) (E:=E) G.gk.K m) (Zm o G (bL h)) (Zav (Zm e G (bL (bR (bR h)))) Zb6 (ZA X.env st)) (ZfX (bL (bR h))) ?_ (bR (bR (bR (bR h)))) (ZA X.env st)).imp fun Z H Q s=>Sm.bind s fun S d h1 x H1 μ1 rh1 rs1 rd f1=>?_
   . rw [ZA X.env st];rfl
   . obtain ⟨il,f1⟩:=f1.iff;refine ⟨(by cases rd<;>first|trivial|cases il),S,h1,μ1,rh1,rs1,f1.bind fun y h2 v H2 μ2 _ g2 rh2 ry f2=>⟨d,y,h2,μ2,rh2,rd.mono rh1 g2,.cons ry .nil,f2⟩⟩
 | .lmu a b,h=>Zv9 h fun l r q h=>(ZvE ZrN (Zm a G (bL h)) (Zm b G (bR h))).imp fun _ _ _ s=>ZpP s
 | .sin a b,h=>ZsW h fun l r q h=>(Zoz ZrM (Zm a G (bL h)) (Zm b G (bL (bR h))) (ZfA (bR (bR h)))).imp fun _ _ _ s=>ZpP s
 | .dne a b,h=>ff h
 | .lin a b,h=>ff h
 | .rpn a b,h=>ff h
 | .any,h=>fun pins s Z H Q I sm=>by
   cases sm with
   | mk S h B rh rs f=>exact f.elim
 | .att Cs o f,h=>Zve h fun x q h=>(Zw2 (Zm o G (bL h)) (ZfX (bL (bR h)))).imp fun Z H Q s=>Sm.bind s fun S d h1 x H1 μ1 rh1 rs1 rd f1=>Zyf G (bL (bR (bR h))) (of_decide_eq_true (bR (bR (bR h)))) rh1 rd f1
 | .mk C es,h=>Zdm h fun p ys q h=>ZzL G (of_decide_eq_true (bL h)) (bL (bR h)) (bR (bR h)) (evs_ok es G (bR (bR h)))
 | .mcl C m o es,h=>ZsV h fun xo ap ys cp h=>Zxp G (of_decide_eq_true (bL (bR (bR (bR h))))) (bL (bR h)) (bL (bR (bR h))) (of_decide_eq_true (bL (bR (bR (bR (bR h)))))) (bR (bR (bR (bR (bR h))))) (Zm o G (bL h)) (evs_ok es G (bL (bR (bR h))))
 | .maxd a d,h=>ZAl h fun p ys z r q h=>ZaY h fun y h=>(ZtR (G.gl (bL h)).1 (G.blt _ (by decide)) G.calm (Zm a G (bL (bR h))) (Zm d G (bR (bR (bR h)))) (ZA X.env (bL (bR (bR h))))).imp fun Z H Q s=>Sm.bind s fun S x h1 v H1 μ1 rh1 rs1 rx f1 =>
   ⟨S,h1,μ1,rh1,rs1,Fin.bind f1 fun y h2 u H2 μ2 _ g2 rh2 ry f2=>by
     cases ry with
     | int d =>
       obtain ⟨r,er,f2⟩:=Fin.ofO (show Fin Y (RD Y) H2 μ2 (R.ofO (((lstOf x h2).bind intsOf).map fun ns=>.int (Zda ns d)) h2) Q E from f2);obtain ⟨ns,e2,rfl⟩:=Oo.mp er;obtain ⟨zs,e3,e4⟩:=Option.bind_eq_some_iff.mp e2;obtain ⟨a,vs,rfl,hl,rv⟩:=(rx.mono rh1 g2).lstOf rh2 e3;rw [ZiZ rv e4] at hl;exact ⟨a,ns,d,rfl,rfl,G.gk.K ▸ hl,f2.ok rh2 (.int _)⟩
     | _=>exact f2.elim⟩
 | .dictl ps,h=>ZBJ h fun ks vs q h=>ZuM ps G (of_decide_eq_true (bL h)) (bR h) (pairs_ok ps G (bR h)).1 (pairs_ok (pos:=q) ps G (bR h)).2.1 (pairs_ok (pos:=q) ps G (bR h)).2.2
theorem evs_ok(e:Exs){Γ:Gm}{X:Cx}{E:XK}{k:Nat}{x:List Expr}(G:Gd T Γ X Y E k)(h:chks Γ e x=Wp):PA X x (Znl T Y E e):=match e,x,h with
 |.nil,[],h=>Zb6.imp λZ H Q s=>by
  cases s with
  |mk S h B rh rs f=>exact Fin.ok (show Fin Y (RDs Y) H B (.ok [] h) Q E from f) rh .nil
 |.nil,_::_,h=>ff h
 |.cons e r,[],h=>ff h
 |.cons e r,y::ys,h=>(Zav (Zm e G (bL h)) (evs_ok r G (bR (bR h))) (ZA X.env (bL (bR h)))).imp λZ H Q s=>Sm.bind s λS d h1 x H1 μ1 rh1 rs1 rd f1=>⟨S,h1,μ1,rh1,rs1,f1.bind λds h2 xs H2 μ2 _ g2 rh2 rds f2=>f2.ok rh2 (.cons (rd.mono rh1 g2) rds)⟩
theorem and_ok(e:Exs){Γ:Gm}{X:Cx}{E:XK}{k:Nat}{x:List Expr}{pos:Pos}(G:Gd T Γ X Y E k)(h:chks Γ e x=Wp):PE X (.BoolOp .And x pos) (Zab T Y E (.ands e)):=match e,x,h with
 |.nil,x,h=>λpins s Z H Q I sm=>by
  cases sm with
  |mk S h B rh rs f=>exact f.elim
 |.cons e r,[],h=>ff h
 |.cons e .nil,[y],h=>(ZrB (Zm e G (bL h))).imp λZ H Q q=>q
 |.cons e .nil,y::z::zs,h=>ff (bR (bR h))
 |.cons e (.cons e' r'),[y],h=>ff (bR (bR h))
 |.cons e (.cons e' r'),y::z::zs,h=>(Zw6 (Zm e G (bL h)) (and_ok (.cons e' r') G (bR (bR h)))).imp λZ H Q s=>Sm.bind s λS d h1 x H1 μ1 rh1 rs1 rd f1=>by
  cases rd with
  |bl c=>
   refine⟨c,rfl,?_⟩;cases c with
   |true=>exact Zmw ⟨S,h1,μ1,rh1,rs1,f1⟩
   |false=>exact Zmx (Fin.ok f1 rh1 (.bl _))
  |_=>exact f1.elim
theorem or_ok(e:Exs){Γ:Gm}{X:Cx}{E:XK}{k:Nat}{x:List Expr}{pos:Pos}(G:Gd T Γ X Y E k)(h:chks Γ e x=Wp):PE X (.BoolOp .Or x pos) (Zab T Y E (.ors e)):=match e,x,h with
 |.nil,x,h=>λpins s Z H Q I sm=>by
  cases sm with
  |mk S h B rh rs f=>exact f.elim
 |.cons e r,[],h=>ff h
 |.cons e .nil,[y],h=>(ZrB (Zm e G (bL h))).imp λZ H Q q=>q
 |.cons e .nil,y::z::zs,h=>ff (bR (bR h))
 |.cons e (.cons e' r'),[y],h=>ff (bR (bR h))
 |.cons e (.cons e' r'),y::z::zs,h=>(Zzp (Zm e G (bL h)) (or_ok (.cons e' r') G (bR (bR h)))).imp λZ H Q s=>Sm.bind s λS d h1 x H1 μ1 rh1 rs1 rd f1=>by
  cases rd with
  |bl c=>
   refine⟨c,rfl,?_⟩;cases c with
   |true=>exact Zmw (Fin.ok f1 rh1 (.bl _))
   |false=>exact Zmx ⟨S,h1,μ1,rh1,rs1,f1⟩
  |_=>exact f1.elim
theorem evo_ok(e:Option Ex){Γ:Gm}{X:Cx}{E:XK}{k:Nat}{x:Option Expr}(G:Gd T Γ X Y E k)(h:chko Γ e x=Wp):PO X x (ZA4 T Y E e):=match e,x,h with
 |none,Wo,h=>ZtJ.imp λZ H Q s=>by
  cases s with
  |mk S h B rh rs f=>exact Fin.ok (show Fin Y _ H B (.ok Wo h) Q E from f) rh rfl
 |none,Wn _,h=>ff h
 |some e,Wo,h=>ff h
 |some e,Wn a,h=>(ZtI (Zm e G h)).imp λZ H Q s=>Sm.bind s λS d h1 x H1 μ1 rh1 rs1 rd f1=>by
  cases rd with
  |int i=>exact⟨i,rfl,Fin.ok f1 rh1 rfl⟩
  |_=>exact f1.elim
theorem tst_ok(e:Tx){Γ:Gm}{X:Cx}{E:XK}{k:Nat}{x:Expr}(G:Gd T Γ X Y E k)(h:chkt Γ e x=Wp):PT X x (Znk T Y E e):=match e,h with
 |.ex e,h=>bO h (λh=>ZpW G (Zm e G (bR h)) (bL h)) λh=>by
  cases e with
  |cmp op a b=>exact ZsW h λl r q h=>ZuQ G (Zm a G (bL h)) (Zm b G (bL (bR h))) (bR (bR h))
  |cmp2 o1 o2 a b c=>exact Zv6 h λl m r q h=>ZsQ G (Zm a G (bL h)) (Zm b G (bL (bR h))) (Zm c G (bL (bR (bR h)))) (bR (bR (bR h)))
  |_=>exact ff h
 |.ands ts,h=>Zue h λxs q h=>(tand_ok ts G h).pt
 |.ors ts,h=>Zue h λxs q h=>(tor_ok ts G h).pt
 |.nt t,h=>Zwj h λy q h=>(ZwO (tst_ok t G h)).imp λZ H Q s=>Sm.bind s λS d h1 x H1 μ1 rh1 rs1 rd f1=>by cases rd;exact Fin.ok f1 rh1 rfl
theorem tand_ok(e:Txs){Γ:Gm}{X:Cx}{E:XK}{k:Nat}{x:List Expr}{pos:Pos}(G:Gd T Γ X Y E k)(h:chkts Γ e x=Wp):PW X (.BoolOp .And x pos) (Znk T Y E (.ands e)):=match e,x,h with
 |.one t,x,h=>ZaY h λy h=>(ZtB (tst_ok t G h)).imp λZ H Q q=>q
 |.cons t ts,[],h=>ff h
 |.cons t ts,[_],h=>ff (bL (bR h))
 |.cons t ts,x::y::r,h=>(ZwM (tst_ok t G (bL h)) (tand_ok ts G (bR (bR h)))).imp λZ H Q s=>Sm.bind s λS d h1 x H1 μ1 rh1 rs1 rd f1=>by
  cases rd;cases d with
  |true=>exact Zmw ⟨S,h1,μ1,rh1,rs1,f1⟩
  |false=>exact Zmx (Fin.ok f1 rh1 rfl)
theorem tor_ok(e:Txs){Γ:Gm}{X:Cx}{E:XK}{k:Nat}{x:List Expr}{pos:Pos}(G:Gd T Γ X Y E k)(h:chkts Γ e x=Wp):PW X (.BoolOp .Or x pos) (Znk T Y E (.ors e)):=match e,x,h with
 |.one t,x,h=>ZaY h λy h=>(ZwL (tst_ok t G h)).imp λZ H Q q=>q
 |.cons t ts,[],h=>ff h
 |.cons t ts,[_],h=>ff (bL (bR h))
 |.cons t ts,x::y::r,h=>(Zzi (tst_ok t G (bL h)) (tor_ok ts G (bR (bR h)))).imp λZ H Q s=>Sm.bind s λS d h1 x H1 μ1 rh1 rs1 rd f1=>by
  cases rd;cases d with
  |true=>exact Zmw (Fin.ok f1 rh1 rfl)
  |false=>exact Zmx ⟨S,h1,μ1,rh1,rs1,f1⟩
theorem ifs_ok(c:Option Tx){Γ:Gm}{X:Cx}{E:XK}{k:Nat}{x:List Expr}(G:Gd T Γ X Y E k)(h:chkf Γ c x=Wp):PIf X x (Sm Y E eqR (tsto T c)):=match c,x,h with
 |none,[],h=>λpins s Z H Q I sm=>by
  cases sm with
  |mk S h B rh rs f=>exact ZtN pins s Z H Q I (Fin.ok (show Fin Y eqR H B (.ok Wp h) Q E from f) rh rfl)
 |none,_::_,h=>ff h
 |some t,x,h=>ZaY h λy h=>ZtM (tst_ok t G h)
theorem evi_ok(e:Ix){Γ:Gm}{X:Cx}{E:XK}{k:Nat}{x tg:Expr}(G:Gd T Γ X Y E k)(h:chki Γ e tg x=Wp):PI X tg x (ZA5 T Y E e):=match e,h with
 |.pl e,h=>(ZwV (Zm e G h)).imp λZ H Q s=>Sm.bind s λS d h1 x H1 μ1 rh1 rs1 rd f1=>by obtain⟨w,ew,f1⟩:=f1.ofO;exact Zs9 G.gk.K rh1 rd ew λJ wj=>f1.ok rh1 wj
 |.tw e,h=>(ZwU (Zm e G h)).imp λZ H Q s=>Sm.bind s λS d h1 x H1 μ1 rh1 rs1 rd f1=>by
  cases rd with
  |str y ok=>exact⟨y,rfl,Fin.ok f1 rh1 (Zwd ok)⟩
  |_=>exact f1.elim
 |.rng e,h=>Zdm h λp ys q h=>ZaY h λy h=>(ZpX (G.gl (bL h)).1 (G.blt _ (by decide)) (Zav (Zm e G (bL (bR h))) Zb6 (ZA X.env (bR (bR h)))) (ZA X.env (bR (bR h)))).imp λZ H Q s=>Sm.bind s λS d h1 x H1 μ1 rh1 rs1 rd f1=>by
  cases rd with
  |int j=>obtain⟨hz,f1⟩:=Fin.iff (show Fin Y (WJ Y) H1 μ1 (if Zau j=Wp then .ok ⟨[],ZM 0 j.toNat⟩ h1 else .bad) Q E from f1);exact⟨j,rfl,of_decide_eq_true (bL hz),of_decide_eq_true (bR hz),f1.ok rh1 Zwe⟩
  |_=>exact f1.elim
 |.rng2 a b,h=>ff h
 |.enu e,h=>Zdm h λp ys q h=>ZaY h λy h=>Zsh (bR (bR (bR h))) λts j r=>(ZtP (G.gl (bL h)).1 (G.blt _ (by decide)) (Zav (Zm e G (bL (bR h))) Zb6 (ZA X.env (bL (bR (bR h))))) (ZA X.env (bL (bR (bR h))))).imp λZ H Q s=>Sm.bind s λS d h1 x H1 μ1 rh1 rs1 rd f1=>by
  obtain⟨w,ew,f1⟩:=f1.ofO;obtain⟨w0,ew0,rfl⟩:=Oo.mp ew;cases d with
  |ro xs=>
   cases ew0;cases rd with
   |ro t s=>exact⟨_,rfl,⟨_,G.gk.K ▸ t.sq⟩,f1.ok rh1 (Zn0 (Zvj G.gk.K rh1 t s) λH2 μ2 h2 g2 rh2 st=>⟨_,G.gk.K ▸ (g2.rdF rh1 t).sq,s.mono rh1 g2⟩)⟩
  |ref i=>obtain⟨xs,hi,rfl⟩:=ZqA ew0;obtain⟨a,vs,rfl,hm,hl,s⟩:=rd.lst rh1 hi;refine⟨a,rfl,⟨vs,.of hl⟩,f1.ok rh1 (Zn0 (ZqB hm) λH2 μ2 h2 g2 rh2 st=>?_)⟩;obtain⟨vs2,hl2,s2⟩:=rh2.ob i _ a (Ziw st) (g2.pre i a hm);exact⟨vs2,.of hl2,s2⟩
  |_=>cases ew0
 |.rev e,h=>Zdm h λp ys q h=>ZaY h λy h=>(ZtO (G.gl (bL h)).1 (G.blt _ (by decide)) (Zav (Zm e G (bL (bR h))) Zb6 (ZA X.env (bR (bR h)))) (ZA X.env (bR (bR h)))).imp λZ H Q s=>Sm.bind s λS d h1 x H1 μ1 rh1 rs1 rd f1=>by
  obtain⟨w,ew,f1⟩:=f1.ofO;obtain⟨w0,ew0,rfl⟩:=Oo.mp ew;cases d with
  |tup xs=>cases ew0;obtain⟨a,vs,rfl,t,s⟩:=rd.tup_inv;exact⟨a,vs,rfl,.inl ⟨G.gk.K ▸ t,f1.ok rh1 (Zwf G.gk.K rh1 t s)⟩⟩
  |ref i=>obtain⟨xs,hi,rfl⟩:=ZqA (show Zip (.ref i) h1=Wn w0 from ew0);obtain⟨a,vs,rfl,hm,hl,s⟩:=rd.lst rh1 hi;exact⟨a,vs,rfl,.inr ⟨.of hl,by rw[<- s.length];exact f1.ok rh1 (Zs8 hm)⟩⟩
  |_=>cases ew0
 |.en1 e,h=>ff h
 |.zl a b,h=>ff h
 |.zp a b,h=>Zdm h λp ys q h=>Zmp h λy z h=>Zsh (bR (bR (bR (bR (bR h))))) λts j r=>by
  have h5:=bL (bR (bR (bR h)));have h6:=bL (bR (bR (bR (bR h))));refine(ZwT (G.gl (bL h)).1 (G.blt _ (by decide)) (Zav (Zm a G (bL (bR h))) (Zav (Zm b G (bL (bR (bR h)))) Zb6 (ZA X.env h6)) (ZA X.env h5)) (by rw[ZA X.env h5,ZA X.env h6];rfl) (ZA X.env h6)).imp λZ H Q s=>Sm.bind s λS d h1 x H1 μ1 rh1 rs1 rd f1=>⟨S,h1,μ1,rh1,rs1,f1.bind λe h2 y H2 μ2 er2 g2 rh2 re f2=>?_⟩
  have rd2:=rd.mono rh1 g2;cases rd2 with
  |tup t s=>
   cases re with
   |tup t' s'=>obtain⟨hl,f2⟩:=Fin.iff f2;exact⟨_,_,rfl,⟨_,G.gk.K ▸ t⟩,⟨_,G.gk.K ▸ t'⟩,f2.ok rh2 (Zwb G.gk.K rh2 t s t' s' hl)⟩
   |_=>exact f2.elim
  |_=>exact f2.elim
 |.en0 e,h=>ff h
 |.dk e,h=>ff h
theorem pairs_ok(ps:Exs){Γ:Gm}{X:Cx}{E:XK}{k:Nat}{ks:List (Option Expr)}{vs:List Expr}{pos:Pos}(G:Gd T Γ X Y E k)(h:chkp Γ ps ks vs=Wp):PPs X pos ks vs (Zn5 T Y E ps)/\ks.all (·.isSome)=Wp/\ks.length=vs.length:=match ps,ks,vs,h with
 |.nil,[],[],h=>⟨ZtH,rfl,rfl⟩
 |.nil,[],_::_,h=>ff h
 |.nil,_::_,_,h=>ff h
 |.cons e .nil,ks,vs,h=>ff h
 |.cons e (.cons v r'),[],vs,h=>ff h
 |.cons e (.cons v r'),Wo::_,vs,h=>ff h
 |.cons e (.cons v r'),Wn _::_,[],h=>ff h
 |.cons e (.cons v r'),Wn kx::ks,vx::vs,h=>
  let z:=pairs_ok r' (pos:=pos) G (bR (bR h))
  ⟨Zrv (Zm e G (bL h)) (Zm v G (bL (bR h))) z.1,z.2.1,congrArg (·+1) z.2.2⟩
end
def ZdS(e:Expr):Bool:=Wr (tgE e≠13)&&Wr (tgE e≠19)
def Znw(e:Expr):Bool:=Wr (tgE e≠8)
structure PsS where
 a:Expr:=default
 b:Expr:=default
 o:Option Expr:=Wo
 c:Option Expr:=Wo
 ts:List Expr:=[]
 xs:List Stmt:=[]
 ys:List Stmt:=[]
 zs:List Stmt:=[]
 hs:List ExceptHandler:=[]
 op:Operator:=.Add
 p:Pos:=default
 s:Stmt:=default
noncomputable def tgS:Stmt->Nat
 |.Return _ _=>1|.Assign _ _ _=>2|.AugAssign _ _ _ _=>3|.Expr _ _=>4|.If _ _ _ _=>5|.While _ _ _ _=>6|.For _ _ _ _ _=>7|.Pass _=>8|.Break _=>9|.Continue _=>10|.Raise _ _ _=>11|.Try _ _ _ _ _=>12|_=>0
noncomputable def prS(s:Stmt):PsS:=match s with
 |.Return o p=>{o:=o,p:=p}
 |.Assign ts a p=>{ts:=ts,a:=a,p:=p}
 |.AugAssign a op b p=>{a:=a,op:=op,b:=b,p:=p}
 |.Expr a p=>{a:=a,p:=p}
 |.If a xs ys p=>{a:=a,xs:=xs,ys:=ys,p:=p}
 |.While a xs ys p=>{a:=a,xs:=xs,ys:=ys,p:=p}
 |.For a b xs ys p=>{a:=a,b:=b,xs:=xs,ys:=ys,p:=p}
 |.Pass p=>{p:=p}
 |.Break p=>{p:=p}
 |.Continue p=>{p:=p}
 |.Raise o c p=>{o:=o,c:=c,p:=p}
 |.Try xs hs ys zs p=>{xs:=xs,hs:=hs,ys:=ys,zs:=zs,p:=p}
 |_=>{s:=s}
noncomputable def mkS(n:Nat)(p:PsS):Stmt:=match n with
 |1=>.Return p.o p.p|2=>.Assign p.ts p.a p.p|3=>.AugAssign p.a p.op p.b p.p|4=>.Expr p.a p.p|5=>.If p.a p.xs p.ys p.p|6=>.While p.a p.xs p.ys p.p|7=>.For p.a p.b p.xs p.ys p.p
 |8=>.Pass p.p|9=>.Break p.p|10=>.Continue p.p|11=>.Raise p.o p.c p.p|12=>.Try p.xs p.hs p.ys p.zs p.p|_=>p.s
def rbS(s:Stmt):mkS (tgS s) (prS s)=s:=by cases s<;>rfl
@[irreducible] def anS(n:Nat)(s:Stmt)(f:PsS->Bool):Bool:=Wr (tgS s=n)&&f (prS s)
section
variable {P:Stmt->Prop}{s:Stmt}
def ZaA(h:anS n s f=Wp)(k:∀p,f p=Wp->P (mkS n p)):P s:=by unfold anS at h;exact rbS s ▸ dS (P:=λm=>P (mkS m (prS s))) (bL h) (k _ (bR h))
noncomputable def oSm{α:Type}(o:Option α)(f:α->Bool):Bool:=match o with
 |some x=>f x
 |none=>Wq
def ZiJ{α:Type}{P:Option α->Prop}{o:Option α}{f:α->Bool}(h:oSm o f=Wp)(k:∀x,f x=Wp->P (Wn x)):P o:=by
 cases o with
 |none=>exact ff h
 |some x=>exact k x h
noncomputable def oNo{α:Type}(o:Option α)(b:Bool):Bool:=o.isNone&&b
def ZrT{α:Type}{P:Option α->Prop}{o:Option α}(h:oNo o b=Wp)(k:b=Wp->P Wo):P o:=by
 cases o with
 |none=>exact k h
 |some x=>exact ff h
@[irreducible] def aAs(s:Stmt)(f:Expr->Expr->Bool):Bool:=anS 2 s λp=>l1 p.ts λg=>f g p.a
def ZpD(h:aAs s f=Wp)(k:∀g x q,f g x=Wp->P (.Assign [g] x q)):P s:=by unfold aAs at h;exact ZaA h λp h=>ZaY (P:=λts=>P (.Assign ts p.a p.p)) h λ_ h=>k _ _ _ h
end
@[irreducible] def Zpm(Γ:Gm)(C:Str)(x:Expr)(f:Expr->Bool):Bool:=aCN C x λys=>l1 ys λy=>Wr (C∈Γ.kl.xs)&&(glb Γ C&&(ZaQ y&&f y))
def aTb(N:List Str)(own:Str->Bool)(i:Nat)(b:List Stmt)(f:Expr->Bool):Bool:=l1 b λs=>aAs s λg x=>Znx N own i g&&f x
def ZyQ{P:List Stmt->Prop}(h:aTb N own i b f=Wp)(k:∀n p x q,N[i]? = Wn n->own n=Wp->f x=Wp->P [.Assign [.Name n p] x q]):P b:=ZaY h λ_ h=>ZpD (P:=λs=>P [s]) h λ_ x q h=>Zbp (P:=λg=>P [.Assign [g] x q]) (bL h) λ_ _ e1 e2=>k _ _ _ _ e1 e2 (bR h)
@[irreducible] def ZsS(x:Expr)(f:Expr->Bool):Bool:=match x with
 |.JoinedStr xs _=>l2 xs λa b=>(aK a λc=>match c with
  |.str c=>Wr (c.length<=1000000)
  |_=>Wq)&&match b with
  |.FormattedValue y k Wo _=>Wr (k=114)&&f y
  |_=>Wq
 |_=>Wq
def Zz6{P:Expr->Prop}(h:ZsS x f=Wp)(k:∀c j p1 y p2 pos,c.length<=1000000->f y=Wp->P (.JoinedStr [.Constant (.str c) j p1,.FormattedValue y 114 Wo p2] pos)):P x:=by
 unfold ZsS at h;split at h
 . rename_i xs pos;refine Zmp (P:=λxs=>P (.JoinedStr xs pos)) h λa b h=>ZzV (P:=λa=>P (.JoinedStr [a,b] pos)) (bL h) λc j p1 h1=>?_;have h2:=bR h;split at h1
   . split at h2
     . have h3:=of_decide_eq_true (bL h2);subst h3;exact k _ _ _ _ _ _ (of_decide_eq_true h1) (bR h2)
     . cases h2
   . cases h1
 . cases h
def ZsR(m:Str):List Str->List Expr->Bool
 |[],ys=>ys.isEmpty
 |W::Ws,ys=>match ys with
  |y::r=>(aCN (O "isinstance") y λzs=>l2 zs λu v=>aX m u (aX W v Wp))&&ZsR m Ws r
  |[]=>Wq
theorem Zo1:∀{Ws ys},ZsR m Ws ys=Wp->ZaT m Ws ys
 |[],[],_=>rfl
 |[],_::_,h=>ff h
 |W::Ws,[],h=>ff h
 |W::Ws,y::r,h=>Zdm (P:=λy=>ZaT m (W::Ws) (y::r)) (bL h) λip zs cp h1=>Zmp (P:=λzs=>ZaT m (W::Ws) (.Call _ zs [] cp::r)) h1 λu v h1=>Zm9 (P:=λu=>ZaT m (W::Ws) (.Call _ [u,v] [] cp::r)) h1 λmp h1=>Zm9 (P:=λv=>ZaT m (W::Ws) (.Call _ [_,v] [] cp::r)) h1 λwp _=>⟨ip,mp,wp,cp,r,rfl,Zo1 (bR h)⟩
def Ztf(Γ:Gm)(n:Nat)(C:Str)(Ws:List Str)(bs:List (Str×List Bool))(m:Str):Bool:=
 (bs.all λp=>Wr ((C,p.1)∈Γ.kl.xa)&&(Wr (p.2.length=Ws.length)&&(Ws.zip p.2).all λq=>Wr ((p.1,q.1,q.2)∈Γ.kl.xi)))&&((Ws.all λW=>glb Γ W&&Γ.kl.xi.any λq=>Wr (q.2.1=W))&&(Wr (Ws.length<=100)&&((Γ.kl.xa.any λp=>Wr (p.1=C)) &&
  (glb Γ C&&(glb Γ (O "isinstance")&&(Wr (Γ.N[n]? = Wn m)&&(Wr (Γ.sc.names.lookup m=Wn .local)&&(Wr ((m==("__debug__" : Str))=Wq)&&Wr ((m==("__classdict__" : Str))=Wq)))))))))
def Zv4(Γ:Gm)(i n:Nat)(C:Str)(Ws:List Str)(bs:List (Str×List Bool))(hs:List ExceptHandler):Bool:=l1 hs λh=>match h with
 |.ExceptHandler t m b _=>oSm m λm=>oSm t λt=>aX C t (Ztf Γ n C Ws bs m&&aTb Γ.N (ownD Γ.sc) i b λx=>aLs x λys=>ZsR m Ws ys)
def ZyO{P:List ExceptHandler->Prop}(h:Zv4 Γ i n C Ws bs hs=Wp)(k:∀np m y p q z ys lp,Ztf Γ n C Ws bs m=Wp->Γ.N[i]? = Wn y->ownD Γ.sc y=Wp->ZaT m Ws ys->P [.ExceptHandler (Wn (.Name C np)) (Wn m) [.Assign [.Name y p] (.List ys lp) q] z]):P hs:=
 ZaY h λy h=>match y,h with
  |.ExceptHandler t m b z,h=>ZiJ (P:=λm=>P [.ExceptHandler t m b z]) h λm h=>ZiJ (P:=λt=>P [.ExceptHandler t (Wn m) b z]) h λt h=>Zm9 (P:=λt=>P [.ExceptHandler (Wn t) (Wn m) b z]) h λnp h=>ZyQ (P:=λb=>P [.ExceptHandler (Wn _) (Wn m) b z]) (bR h) λy p x q e1 e2 h5=>ZvH (P:=λx=>P [.ExceptHandler (Wn _) (Wn m) [.Assign [.Name y p] x q] z]) h5 λys lp h5=>k np m y p q z ys lp (bL h) e1 e2 (Zo1 h5)
noncomputable def Zz0:Ex->Bool
 |.comp _ _ _ _ _ _|.any=>Wp
 |_=>Wq
mutual
def ZAn(Γ:Gm):Sx->Stmt->Bool
 |.ret e,s=>anS 1 s λp=>oSm p.o λx=>chk Γ e x
 |.set g e,s=>aAs s λtg x=>ZuR Γ.N (ownD Γ.sc) g tg&&(chk Γ e x&&((ZdS x&&(!isTup tg || Znw x)) || (Wr (tgE tg=6)&&Zz0 e)))
 |.put o i e,s=>aAs s λtg x=>aS tg λxo xi=>chk Γ o xo&&(chk Γ i xi&&(chk Γ e x&&(ZiK xi&&ZdS x)))
 |.aug i op e,s=>anS 3 s λp=>Znx Γ.N (ownD Γ.sc) i p.a&&(Wr (p.op=.Add)&&(Wr (op=.Add)&&chk Γ e p.b))
 |.drp e,s=>anS 4 s λp=>chk Γ e p.a&&ZdS p.a
 |.iff c a b,s=>anS 5 s λp=>chkt Γ c p.a&&(chkSs Γ a p.xs&&chkSs Γ b p.ys)
 |.whl c b,s=>anS 6 s λp=>l0 p.ys (chkt Γ c p.a&&chkSs Γ b p.xs)
 |.forr g it b,s=>anS 7 s λp=>l0 p.ys (chki Γ it p.a p.b&&(Zbv p.b&&(ZuR Γ.N (ownD Γ.sc) g p.a&&chkSs Γ b p.xs)))
 |.pas,s=>anS 8 s λ_=>Wp
 |.brk,s=>anS 9 s λ_=>Wp
 |.cnt,s=>anS 10 s λ_=>Wp
 |.seta Cs o f e,s=>aAs s λtg x=>aA f tg λxo _=>chk Γ o xo&&(chk Γ e x&&(ZdS x&&((Cs.all λC=>Wr (C∈Γ.kl.cs))&&Wr (f∈Γ.kl.ats))))
 |.auga Cs o f e,s=>anS 3 s λp=>Wr (p.op=.Add)&&aA f p.a λxo _=>chk Γ o xo&&(chk Γ e p.b&&((Cs.all λC=>Wr (C∈Γ.kl.cs))&&Wr (f∈Γ.kl.ats)))
 |.any,_=>Wp
 |.rai C e,s=>anS 11 s λp=>oNo p.c (oSm p.o λx=>Zpm Γ C x λy=>chk Γ e y)
 |.trs _ _ _ _,_=>Wq
 |.trw _ _ _ _ _ _ _,_=>Wq
 |.raf C e,s=>anS 11 s λp=>oNo p.c (oSm p.o λx=>Zpm Γ C x λy=>ZsS y λz=>chk Γ e z)
 |.tre i n f es C Ws bs,s=>anS 12 s λp=>l0 p.ys (l0 p.zs (Zv4 Γ i n C Ws bs p.hs&&l1 p.xs λs=>anS 4 s λp=>aCN f p.a λys=>Wr (f∈Γ.fs)&&(glb Γ f&&(chks Γ es ys&&!ys.isEmpty))))
 |.unl _ _ _,_=>Wq
def chkSs(Γ:Gm):Sxs->List Stmt->Bool
 |.nil,ss=>ss.isEmpty
 |.cons s r,ss=>match ss with
  |x::xs=>ZAn Γ s x&&chkSs Γ r xs
  |[]=>Wq
end
def ZV(Y:Yx)(H:Hp)(B:List Yi)(r:R (Fl×Ev))(D:Ends)(E:XK):Prop:=match r with
 |.bad=>False
 |.ok p h'=>∀H' μ',Gr H B H' μ'->RH Y H' μ' h'->match p.1 with
  |.nx=>∀σ',RS Y H' μ' p.2 σ'->D.nx σ' H'
  |.bk=>∀σ',RS Y H' μ' p.2 σ'->D.bk σ' H'
  |.ct=>∀σ',RS Y H' μ' p.2 σ'->D.ct σ' H'
  |.rt d=>∀v,RD Y H' μ' d v->D.rt v H'
 |.exc c h'=>∀H' μ' C,Gr H B H' μ'->RH Y H' μ' h'->Y.mg c=Wn (.ref C)->E (.ref C) Wo H'
section
variable {Y:Yx}{α β:Type}{rel:Hp->List Yi->α->β->Prop}{H H1:Hp}{B μ1:List Yi}{E:XK}{D:Ends}
def ZV.mono(g:Gr H B H1 μ1)(f:ZV Y H B r D E):ZV Y H1 μ1 r D E:=by
 cases r with
 |bad=>exact f
 |ok a h=>exact λH' μ' g'=>f H' μ' (g.trans g')
 |exc c h=>exact λH' μ' C g'=>f H' μ' C (g.trans g')
theorem ZV.bind(f:ZV Y H B (r.bind k) D E)
 (hk:∀a h1 b H1 μ1,r=.ok a h1->Gr H B H1 μ1->RH Y H1 μ1 h1->rel H1 μ1 a b->ZV Y H1 μ1 (k a h1) D E->Q1 b H1):Fin Y rel H B r Q1 E:=by
 cases r with
 |bad=>exact f
 |ok a h=>exact λb H' μ' g' rh rl=>hk a h b H' μ' rfl g' rh rl (ZV.mono g' f)
 |exc c h=>exact f
theorem ZV.ofO(f:ZV Y H B ((R.ofO o h).bind k) D E):∃a,o=Wn a/\ZV Y H B (k a h) D E:=by
 cases o with
 |none=>exact f.elim
 |some a=>exact⟨a,rfl,f⟩
theorem ZV.nx(f:ZV Y H B (.ok (.nx,S) h) D E)(rh:RH Y H B h)(rs:RS Y H B S Z):D.nx Z H:=f H B Gr.refl rh Z rs
def ZV.part(f:ZV Y H B (r.bind k) D E)
 (hk:∀p h1 H1 μ1,r=.ok p h1->Gr H B H1 μ1->RH Y H1 μ1 h1->ZV Y H1 μ1 (k p h1) D E->match p.1 with
  |.nx=>∀σ',RS Y H1 μ1 p.2 σ'->D1.nx σ' H1
  |.bk=>∀σ',RS Y H1 μ1 p.2 σ'->D1.bk σ' H1
  |.ct=>∀σ',RS Y H1 μ1 p.2 σ'->D1.ct σ' H1
  |.rt d=>∀v,RD Y H1 μ1 d v->D1.rt v H1):ZV Y H B r D1 E:=by
 cases r with
 |bad=>exact f
 |ok p h=>exact λH' μ' g' rh=>hk p h H' μ' rfl g' rh (ZV.mono g' f)
 |exc c h=>exact f
end
inductive SmS(Y:Yx)(E:XK)(m:Ev->Hd->R (Fl×Ev))(D:Ends)(Z:L2.St)(H:Hp):Prop
 |mk (S:Ev) (h:Hd) (B:List Yi) (rh:RH Y H B h) (rs:RS Y H B S Z) (f:ZV Y H B (m S h) D E):SmS Y E m D Z H
def ZpO(T:Tb)(Y:Yx)(E:XK)(s:Sx):TS:=SmS Y E (xs1 T s)
def Zoj(T:Tb)(Y:Yx)(E:XK)(s:Sxs):TS:=SmS Y E (xs2 T s)
theorem SmS.bind{D:Ends}{γ δ:Type}{rel:Hp->List Yi->γ->δ->Prop}{m:Ev->Hd->R γ}{k:Ev->γ->Hd->R (Fl×Ev)}{Q1:δ->Hp->Prop}(s:SmS Y E (λS h=>(m S h).bind (k S)) D Z H)
 (hk:∀S d h1 v H1 μ1,RH Y H1 μ1 h1->RS Y H1 μ1 S Z->rel H1 μ1 d v->ZV Y H1 μ1 (k S d h1) D E->Q1 v H1):Sm Y E rel m Z H Q1:=by
 cases s with
 |mk S h B rh rs f=>exact⟨S,h,B,rh,rs,f.bind λd h1 x H1 μ1 _ g rh1 rd f1=>hk S d h1 x H1 μ1 rh1 (rs.mono rh g) rd f1⟩
def Sm.at{α β:Type}{rel:Hp->List Yi->α->β->Prop}{m:Ev->Hd->R α}{Q1:β->Hp->Prop}{Q:Prop}(s:Sm Y E rel m Z H Q1)(hk:∀S h B,RH Y H B h->RS Y H B S Z->Fin Y rel H B (m S h) Q1 E->Q):Q:=by
 cases s with
 |mk S h B rh rs f=>exact hk S h B rh rs f
def SmS.at{D:Ends}{Q:Prop}(s:SmS Y E m D Z H)(hk:∀S h B,RH Y H B h->RS Y H B S Z->ZV Y H B (m S h) D E->Q):Q:=by
 cases s with
 |mk S h B rh rs f=>exact hk S h B rh rs f
def _root_.L2.PS.imp(h:PS X s t)(i:∀D Z H,t' D Z H->t D Z H):PS X s t':=λpins s Z H D I q=>h pins s Z H D I (i D Z H q)
def _root_.L2.PSs.imp(h:PSs X s t)(i:∀D Z H,t' D Z H->t D Z H):PSs X s t':=λpins s Z H D I q=>h pins s Z H D I (i D Z H q)
structure XOk(K:Yk)(a:Yi):Prop extends ExcN K a where
 own:PySem.W.excIn K a [.type "ValueError",.type "Exception",.type "BaseException",.type "object"] "ValueError.__new__" = Wp
 sub:YT K (.ref a) (.ref a)=Wn Wp
structure GdS(T:Tb)(Γ:Gm)(X:Cx)(Y:Yx)(E:XK)(k:Nat):Prop extends Gd T Γ X Y E k where
 top:Γ.top=Wp
 fnt:∀x,X.fn x=Wp
 own:PassesOwn (model X.prog X.w) X.A X.env X.xe
 bk:X.env.blockKind=.function
 rz:ZlX X E
 stk:X.stack=X.env::X.outer
 frm:X.env.frame=Wn X.env.locals
 xcs:∀C∈Γ.kl.xs,∃a,X.mg C=Wn (.ref a)/\XOk X.K a
 xas:∀p∈Γ.kl.xa,∃a b,X.mg p.1=Wn (.ref a)/\X.mg p.2=Wn (.ref b)/\XAs X.K a b
 xis:∀p∈Γ.kl.xi,∃b v,X.mg p.1=Wn (.ref b)/\ClV X.mg p.2.1 v/\PySem.W.kitOne X.K (.ref b) v=Wn p.2.2
theorem GdS.ownD(G:GdS T Γ X Y E k):∀x,ownD Γ.sc x=Wp->Loc X.env.scope x/\(X.fn x=Wp\/X.env.scope.names.lookup x=Wn .local):=by intro x h;refine⟨?_,.inl (G.fnt x)⟩;unfold IV.ownD at h;rw[G.sc G.top];rw[Wm]at h;exact h.imp of_decide_eq_true of_decide_eq_true
def Zfk(h:ZdS x=Wp):swapsWith x t n env=pure Wq:=(kdE x).sw (of_decide_eq_true (bL h)) (of_decide_eq_true (bR h)) _ _ _
def Zq4(G:GdS T Γ X Y E k)(hi:Γ.N[i]? = Wn y)(ho:ownD Γ.sc y=Wp)(hx:Zz0 e=Wp)(h:chk Γ e x=Wp):PS X (.Assign [.Name y py] x spos) (Znd (Zab T Y E e) (ZcQ i)):=by
 obtain⟨o1,o2⟩:=G.ownD y ho;have hy:X.N[i]? = Wn y:=by rw[G.N];exact hi
 cases e with
 |comp NC js it g c e=>
  refine ZvL h (λelt tg iter ifs scope q h pe=>?_) (Zm _ G.toGd h);cases sw:(X.env.blockKind==.function&&X.env.kindOf y==Wn .local&&py.line==q.line&&!(scope.names.any λ(n,k)=>n==y&&(k==.local || k==.cell)))with
  |true=>
   have S_:=ZmG (bL (bR h));rw[<- G.N,<- G.sc (bL h)]at S_;have Gc:=λC s3 H3 fp=>G.toGd.comp NC scope C s3 H3 fp S_.nd;have h':=bR (bR h);exact(Zno (g:=tgR X.K g) (tc:=Sm Y E0 eqR (tsto T c)) (te:=Zab T Y E0 e) G.nd hy o1 o2 S_ rfl G.calm (evi_ok it G.toGd (bL h')) (λC s3 H3 fp=>⟨Zow rfl S_.nd rfl (λx hx=>ZoC (scope:=scope) X hx) (bL (bR (bR h'))),ifs_ok c (Gc C s3 H3 fp) (bL (bR (bR (bR (bR h'))))),Zm e (Gc C s3 H3 fp) (bR (bR (bR (bR (bR h')))))⟩) (ZyN X.K g) (λj hj=>of_decide_eq_true (OC.mp (bL (bR (bR (bR h')))) j (List.mem_range.mpr hj))) (Zni X.env (bL (bR h'))) (congrArg pure sw)).imp
    λD Z H s=>Sm.bind s λS w h1 J H1 μ1 rh1 rs1 wj f1 D hD=>Zpk G.gk.K (λ_ _ _ z=>z) rh1 rs1 wj f1 hD
  |false=>exact Znp G.nd hy o1 pe (congrArg pure sw) o2
 |any=>exact λpins s Z H D I s=>Sm.at s λ_ _ _ _ _ f=>f.elim
 |_=>exact ff hx
def Zoi(ht:isTup tg=Wp)(pg:PG X tg g)(he:PE X x te)(h3:(ZdS x&&(!isTup tg || Znw x))=Wp):PS X (.Assign [tg] x pos) (Znd te g):=Zsh (P:=λtg=>PG X tg g->(!isTup tg || Znw x)=Wp->PS X (.Assign [tg] x pos) (Znd te g)) ht (λ_ _ _ pg h3=>Zru he pg (by unfold swapsWithSole;exact Zfk (bL ‹_›)) ((kdE x).st (of_decide_eq_true h3) _ _ _ _) rfl) pg (bR h3)
def Zye{T:Tb}(G:Gd T Γ X Y E k)(hc:(Cs.all λC=>Wr (C∈Γ.kl.cs))=Wp)(hf:f∈Γ.kl.ats){D:Ends}(rh1:RH Y H1 μ1 h1)(rs1:RS Y H1 μ1 S Z)(rd:RD Y H1 μ1 d x)
 (f1:ZV Y H1 μ1 ((ZgF Cs f d h1).bind λv h2=>(ev T e S h2).bind λy h3=>match v,y with
  |.int a,.int b=>if (Z8 d h1).map (·.1)=(Z8 d h3).map (·.1)then(ZiB Cs f d (.int (a+b)) h3).bind λ_ h4=>.ok (.nx,S) h4 else .bad
  |_,_=>.bad) D E) :
 ∃a C dx fs v,x=.ref a/\H1 a=Wn (.ins C dx fs)/\Cls X.K C/\ZaP X.K C f/\fs.lookup f=Wn v /\
  Zab T Y E e Z H1 λy H2=>Zzh v y H2 λz H3=>∃dx' fs',H3 a=Wn (.ins C dx' fs')/\fs'.length<1000/\D.nx Z (upd H3 a (.ins C dx' (Zb4 f z fs'))):=by
 unfold ZgF at f1;cases ei:Z8 d h1 with
 |none=>rw[ei]at f1;exact f1.elim
 |some p=>
  obtain⟨C,fs⟩:=p;rw[ei]at f1;simp only at f1;by_cases hC:C∈Cs
  . rw[if_pos hC]at f1;obtain⟨w,e1,f1⟩:=f1.ofO;obtain⟨i,a,Ca,dx,gs,rfl,rfl,q,hi,z,m,s⟩:=Zi0 rh1 rd ei;obtain⟨v,l,rv⟩:=(s.look (f:=f)).1 w e1;have hc':=hc;rw[OC]at hc';obtain⟨Ca',m',cl,na⟩:=G.cls C (of_decide_eq_true (hc' C hC));have m0:=m;rw[G.gk.mg,m']at m;cases m;refine⟨a,Ca,dx,gs,v,rfl,z,cl,na f hf,l,S,h1,μ1,rh1,rs1,ZV.bind f1 λy h3 u H3 μ3 _ g3 rh3 ry f3=>?_⟩;cases w with
    |int p=>
     cases y with
     |int r=>
      cases rv;cases ry;refine⟨p,r,rfl,rfl,?_⟩;simp only at f3;by_cases hk:Option.map (·.1) (Wn (C,fs))=(Z8 (.ref i) h3).map (·.1)
      . rw[if_pos hk]at f3;obtain⟨a',C',dx',fs',e4,z',_,_,l',nx⟩:=Zq3 (Q:=λ_ H'=>D.nx Z H') G hc hf rh3 (rd.mono rh1 g3) (.int _) (ZV.bind f3 λ_ h4 _ H4 μ4 _ g4 rh4 _ f4=>f4.nx rh4 ((rs1.mono rh1 g3).mono rh3 g4));cases e4;cases e5:Z8 (.ref i) h3 with
        |none=>rw[e5]at hk;cases hk
        |some p3=>obtain⟨C3,fs3⟩:=p3;rw[e5]at hk;cases hk;obtain⟨i3,a3,Ca3,dx3,gs3,e6,e7,_,_,z3,m3,_⟩:=Zi0 rh3 (rd.mono rh1 g3) e5;cases e7;rw[m0]at m3;cases m3;rw[z']at z3;cases z3;exact⟨dx',fs',z',l',nx⟩
      . rw[if_neg hk]at f3;exact f3.elim
     |_=>exact f3.elim
    |_=>exact f3.elim
  . rw[if_neg hC]at f1;exact f1.elim
theorem _root_.IV.Gd.nox(G:Gd T Γ X Y E k):Gd T Γ X.nox Y E0 k:=⟨⟨G.gk.K,G.gk.mg,G.gk.gd,G.gk.g,G.gk.bare⟩,G.N,G.sc,G.vis,G.glo,G.nd,G.calm,G.room,G.h60,Zkx,G.defs,G.blt,G.room1,G.cls,G.mts,G.mks⟩
def Zqv(f:Fin Y rel H B r.plain Q E):Fin Y rel H B r Q E0:=by
 cases r with
 |bad=>exact f.elim
 |ok a h=>exact f
 |exc c h=>exact f.elim
def ZoB{D D1:Ends}{k:Ev->Hd->R (Fl×Ev)}(f:ZV Y H B (r.bind λp h2=>match p with
 |(.nx,ρ2)=>k ρ2 h2
 |(.ct,ρ2)=>k ρ2 h2
 |(.bk,ρ2)=>.ok (.nx,ρ2) h2
 |(.rt d,ρ2)=>.ok (.rt d,ρ2) h2) D E) (hn:∀ρ2 h2 H2 μ2 σ',Gr H B H2 μ2->RH Y H2 μ2 h2->RS Y H2 μ2 ρ2 σ'->ZV Y H2 μ2 (k ρ2 h2) D E->D1.nx σ' H2) (hc:D1.ct=D1.nx) (hb:D1.bk=D.nx) (hr:D1.rt=D.rt):ZV Y H B r D1 E:=
 ZV.part f λp h2 H2 μ2 _ g2 rh2 f2=>by
  obtain⟨fl,ρ2⟩:=p;cases fl with
  |nx=>exact λσ' rs'=>hn ρ2 h2 H2 μ2 σ' g2 rh2 rs' f2
  |ct=>rw[hc];exact λσ' rs'=>hn ρ2 h2 H2 μ2 σ' g2 rh2 rs' f2
  |bk=>rw[hb];exact λσ' rs'=>ZV.nx f2 rh2 rs'
  |rt d=>rw[hr];exact λv rv=>f2 H2 μ2 Gr.refl rh2 v rv
def Zwg{D:Ends}(s:ZpO T Y E (.whl c b) D Z H):ZqP (Znk T Y E c) (Zoj T Y E b) D Z H:=by
 refine⟨λm=>SmS Y E (Zaw (tst T c) (xs2 T b) m) D,⟨T.L,s⟩,λm Z H s=>?_⟩;cases m with
 |zero=>exact SmS.at s λ_ _ _ _ _ f=>f.elim
 |succ m=>
  refine SmS.bind s λS t h1 v H1 μ1 rh1 rs1 rd f1=>?_;cases rd;cases t with
  |false=>exact Zmx (ZV.nx f1 rh1 rs1)
  |true=>exact Zmw ⟨SmS Y E (Zaw (tst T c) (xs2 T b) m) D,λσ' H' q=>⟨m,OH m,q⟩,S,h1,μ1,rh1,rs1,ZoB f1 (λρ2 h2 H2 μ2 σ' _ rh2 rs2 f2=>⟨ρ2,h2,μ2,rh2,rs2,f2⟩) rfl rfl rfl⟩
inductive FwS(Y:Yx)(E:XK)(H1:Hp)(μ1:List Yi)(n i:Nat)(F:Ev->Hd->R (Fl×Ev))(D:Ends)(m:Nat)(Z:L2.St)(H:Hp):Prop
 |mk (S:Ev) (h:Hd) (B:List Yi) (hi:i<=n) (hm:m=n - i) (g:Gr H1 μ1 H B) (rh:RH Y H B h) (rs:RS Y H B S Z) (f:ZV Y H B (F S h) D E):FwS Y E H1 μ1 n i F D m Z H
def ZxN{K:Yk}{g:Tg}{D:Ends}(hY:Y.K=K)(rh1:RH Y H1 μ1 h1)(rs1:RS Y H1 μ1 S Z)(wj:WJ Y H1 μ1 w J)(f1:ZV Y H1 μ1 (ZH w.src g (xs2 T b) w.xs S h1) D E):∃W:Nat->Nat->L2.St->Hp->Prop,(∃m,W 0 m Z H1)/\∀i m Z H,W i m Z H ->
 (J.stop i H/\D.nx Z H)\/(J.go i H/\∃B_:L2.St->Hp->Prop,(∀σ' H',B_ σ' H'->∃m',m'<m/\W (i+1) m' σ' H')/\∀x H',J.yld i H x H'->tgR K g x Z H' λσ' H''=>Zoj T Y E b {D with nx:=B_,ct:=B_,bk:=D.nx} σ' H''):=by
 refine⟨λi=>FwS Y E H1 μ1 w.xs.length i (λS=>ZH w.src g (xs2 T b) (w.xs.drop i) S) D,⟨w.xs.length,S,h1,μ1,Yv _,(Nat.sub_zero _).symm,Gr.refl,rh1,rs1,f1⟩,λi m Z H s=>?_⟩;cases s with
 |mk S h B hi hm g0 rh rs f=>
  subst hm;by_cases hs:Wk.stays w.src h=Wp
  . by_cases hlt:i<w.xs.length
    . have hd:=Og hlt;rw[List.drop_eq_getElem_cons hlt,ZH,if_pos hs]at f;obtain⟨go,yl⟩:=(wj H B h g0 rh hs).1 i _ hd;refine .inr ⟨go,FwS Y E H1 μ1 w.xs.length (i+1) (λS=>ZH w.src g (xs2 T b) (w.xs.drop (i+1)) S) D (w.xs.length - (i+1)),λσ' H' q=>⟨_,Nat.sub_lt_sub_left hlt (OH i),q⟩,λx H' hy=>?_⟩;obtain⟨g2,rh2,rx⟩:=yl x H' hy;split at f
      . exact f.elim
      . rename_i ρ1 hb;exact ZlL hY rx (rs.mono rh g2) hb λσ1 rs1=>⟨ρ1,h,B,rh2,rs1,ZoB (ZV.mono g2 f) (λρ2 h3 H3 μ3 σ' g3 rh3 rs3 f3=>⟨ρ2,h3,μ3,hlt,rfl,(g0.trans g2).trans g3,rh3,rs3,f3⟩) rfl rfl rfl⟩
    . have he:i=w.xs.length:=Nat.le_antisymm hi (Nat.le_of_not_lt hlt);subst he;rw[List.drop_eq_nil_of_le (Oq _),ZH,if_pos hs]at f;exact .inl ⟨(wj H B h g0 rh hs).2,ZV.nx f rh rs⟩
  . cases e:w.xs.drop i with
    |nil=>rw[e,ZH,if_neg hs]at f;exact f.elim
    |cons _ _=>rw[e,ZH,if_neg hs]at f;exact f.elim
def RS.del{v:Option V}(r:RS Y H B S Z):RS Y H B (S.set i Wo) (Z.set i v):=by
 refine⟨by simp[r.1],λj e he=>?_⟩;by_cases hj:i=j
 . subst hj;rw[List.getElem?_set_self' ]at he;cases h:S[i]? with
   |none=>rw[h]at he;cases he
   |some _=>rw[h]at he;cases he
 . rw[Oc hj]at he ⊢;exact r.2 j e he
theorem kinds_of{X:Cx}{xi:List (Str×Str×Bool)}(G:∀p∈xi,∃b v,X.mg p.1=Wn (.ref b)/\ClV X.mg p.2.1 v/\PySem.W.kitOne X.K (.ref b) v=Wn p.2.2)(m:X.mg c=Wn (.ref ca)):
 ∀{Ws:List Str}{l:List Bool},l.length=Ws.length->((Ws.zip l).all λq=>Wr ((c,q.1,q.2)∈xi))=Wp->Kinds X.mg X.K ca Ws l
 |[],[],_,_=>rfl
 |W::Ws,b::l,e,h=>by rw[List.zip_cons_cons,List.all_cons,Oa]at h;obtain⟨b',v,m',cv,k⟩:=G _ (of_decide_eq_true h.1);rw[m]at m';cases m';exact⟨b,l,v,rfl,cv,k,kinds_of G m (Nat.succ.inj e) h.2⟩
theorem ZsX:∀l:List Bool,RDs Y H B (l.map .bl) (l.map .bl)
 |[]=>.nil
 |b::l=>.cons (.bl b) (ZsX l)
theorem ZoP{α:Type}{c:Str}{x:α}:∀{bs:List (Str×α)},bs.lookup c=Wn x->(c,x)∈bs
 |[],h=>by cases h
 |(k,y)::r,h=>by
  rw[OF]at h;cases e:c==k with
  |true=>rw[e]at h;cases h;rw[eq_of_beq e];exact .head _
  |false=>rw[e]at h;exact .tail _ (ZoP h)
def Zwo{X:Cx}{D:Ends}(hb:∀c l,(c,l)∈bs->∃wa,Y.mg c=Wn (.ref wa)/\YT X.K (.ref wa) (.ref ca)=Wn Wp/\ExcA X.K wa/\Kinds X.mg X.K wa Ws l/\l.length<=sizeLine)(s:ZpO T Y E (.tre i n f es C Ws bs) D Z H):ZyR X.K (Zgt T Y f) ca n (λa oe D Z H=>∃(c:Yi) (bs:List Bool) (σ0:L2.St),oe.cls=.ref c/\ExcA X.K c/\Kinds X.mg X.K c Ws bs/\Z=σ0.set n (Wn (.ref a))/\bs.length<=sizeLine/\∀p,H p=Wo->D.nx (Z.set i (Wn (.ref p))) (upd H p (.lst (bs.map V.bl)))) (Znl T Y E0 es) D Z H:=by
 cases s with
 |mk S h B rh rs ff=>
  refine⟨S,h,B,rh,rs,Zqv (ZV.bind ff λds h1 vs H1 μ1 _ g1 rh1 rds f1=>⟨ds,h1,μ1,rh1,rds,?_⟩)⟩;have rs1:=rs.mono rh g1;cases q:T.C f ds h1 with
  |bad=>rw[q]at f1;exact f1.elim
  |ok w h2=>rw[q]at f1;exact λb H' μ' g2 rh2 rb=>f1 H' μ' g2 rh2 _ (rs1.mono rh1 g2)
  |exc c h2=>
   rw[q]at f1;unfold Zjk at f1;simp only at f1;cases e:bs.lookup c with
   |none=>rw[e]at f1;exact f1.elim
   |some l=>rw[e]at f1;obtain⟨wa,m,sb,xa,kd,hz⟩:=hb c l (ZoP e);intro H' μ' C' g2 rh2 mc;rw[m]at mc;cases mc;refine⟨wa,rfl,sb,λa oe h1 _ _=>⟨wa,l,Z,h1,xa,kd,rfl,hz,λp hp=>?_⟩⟩;have g:=Gr.lay (B:=μ') (o:=HO.lst (l.map V.bl)) hp;exact f1 _ _ (g2.trans g) (rh2.lay hp ⟨_,Zo,ZsX l⟩) _ (((((rs1.mono rh1 g2).del).mono rh2 g).set (.ref (by rw[rh2.len];simp))).del)
theorem Zwp(G:GdS T Γ X Y E k)(hf:f∈Γ.fs)(hgf:glb Γ f=Wp)(te:Ztf Γ n C Ws bs m=Wp)(hn:Γ.N[i]? = Wn y)(hown:ownD Γ.sc y=Wp)(hr:ZaT m Ws ys)(h4:chks Γ es (x::xs)=Wp)(ha:PA X.nox (x::xs) (Znl T Y E0 es)) :
   PS X (.Try [.Expr (.Call (.Name f fp) (x::xs) [] cp) ep] [.ExceptHandler (Wn (.Name C np)) (Wn m) [.Assign [.Name y px] (.List ys lp) q] z] [] [] pos) (ZpO T Y E (.tre i n f es C Ws bs)):=by
 unfold Ztf at te;obtain ⟨ps,fa,fdd,hm,hk,hb,F⟩:=G.defs _ hf;obtain ⟨g1,g2⟩:=G.gl hgf;have t1:=bL te;have t2:=bL (bR te);have t3:=of_decide_eq_true (bL (bR (bR te)));have t4:=bL (bR (bR (bR te)));have t5:=bR (bR (bR (bR te)));obtain ⟨c1,c2⟩:=G.gl (bL t5);obtain ⟨p0,hp0,ep0⟩:=List.any_eq_true.mp t4;obtain ⟨ca,_,m1,_,xo⟩:=G.xas _ hp0;rw [of_decide_eq_true ep0] at m1;obtain ⟨o1,o2⟩:=G.ownD _ hown;have hi:X.N[i]? = Wn y:=by rw [G.N];exact hn
 have hie:X.N[n]? = Wn m:=by rw [G.N];exact of_decide_eq_true (bL (bR (bR t5)))
 have hl:X.env.scope.names.lookup m=Wn .local:=by rw [G.sc G.top];exact of_decide_eq_true (bL (bR (bR (bR t5))))
 have gi:=(G.gl (bL (bR t5))).1;have hW:∀ W∈Ws,Gl X W/\(W==("__debug__" : Str))=Wq/\∃ v,ClV X.mg W v:=fun W hW=>by
   have a:=OC.mp t2 W hW;obtain ⟨q,hq,eq⟩:=List.any_eq_true.mp (bR a);obtain ⟨_,v,_,cv,_⟩:=G.xis q hq;rw [of_decide_eq_true eq] at cv;exact ⟨(G.gl (bL a)).1,(G.gl (bL a)).2,v,cv⟩
 have sl:100<=sizeLine:=by decide
 exact (Znn F G.room g1 hm hk hb ha c1 m1 xo.toExcN G.nd hie hl G.calm G.stk G.frm (fun a oe=>Zqe gi (G.blt _ (by decide)) G.nd hi o1 o2 hie hl (of_decide_eq_true (bL (bR (bR (bR (bR t5)))))) (of_decide_eq_true (bR (bR (bR (bR (bR t5)))))) hr hW) g2 c2 (ZcS X.env h4).1 ((ZcS X.env h4).2 _) rfl).imp fun D Z H s=>Zwo (X:=X) (fun c l hcl=>by
   have a:=OC.mp t1 _ hcl;obtain ⟨a',wa,n1,n2,xo'⟩:=G.xas _ (of_decide_eq_true (bL a));rw [m1] at n1;cases n1;have e:=of_decide_eq_true (bL (bR a));exact ⟨wa,by rw [G.gk.mg];exact n2,xo'.sub,xo'.at',kinds_of G.xis n2 e (bR (bR a)),by rw [e];exact OE t3 sl⟩) s
mutual
theorem Zy1(s:Sx){Γ:Gm}{X:Cx}{E:XK}{k:Nat}{x:Stmt}(G:GdS T Γ X Y E k)(h:ZAn Γ s x=Wp):PS X x (ZpO T Y E s):=match s,h with
 |.ret e,h=>ZaA (P:=λx=>PS X x _) h λp h=>ZiJ (P:=λo=>PS X (.Return o p.p) _) h λy h=>(ZwP (Zm e G.toGd h)).imp λD Z H s=>SmS.bind s λS d h1 v H1 μ1 rh1 rs1 rd f1=>f1 H1 μ1 Gr.refl rh1 v rd
 |.set g e,h=>ZpD (P:=λx=>PS X x _) h λtg xe pos h=>by
  have fin:∀{D:Ends}{Z:L2.St}{H:Hp},ZpO T Y E (.set g e) D Z H->Znd (Zab T Y E e) (tgR X.K g) D Z H:=λ{D Z H} s=>SmS.bind s λS d h1 v H1 μ1 rh1 rs1 rd f1=>by obtain⟨ρ1,eb,f1⟩:=f1.ofO;exact ZlL G.gk.K rd rs1 eb λσ1 rs2=>f1.nx rh1 rs2
  have pg:=Zow (X:=X) G.N G.nd G.calm G.ownD (bL h);refine bO (bR (bR h)) (λh3=>?_) λh3=>?_
  . cases g with
    |nm i=>exact Zbp (P:=λt=>PS X (.Assign [t] _ _) _) (bL h) λy py e1 e2=>(Znp G.nd (by rw[G.N];exact e1) (G.ownD y e2).1 (Zm e G.toGd (bL (bR h))) (Zfk (bL h3)) (G.ownD y e2).2).imp λD Z H q=>fin q
    |two i j=>exact(Zoi (Zl4 (P:=λt=>isTup t=Wp) (show Zpp Γ.N (ownD Γ.sc) i j tg=Wp from bL h) λ_ _ _ _=>rfl) pg (Zm e G.toGd (bL (bR h))) h3).imp λD Z H q=>fin q
    |many is=>exact(Zoi (Zl4 (P:=λt=>isTup t=Wp) (show Zpo Γ.N (ownD Γ.sc) is tg=Wp from bL h) λ_ _ _ _=>rfl) pg (Zm e G.toGd (bL (bR h))) h3).imp λD Z H q=>fin q
  . cases g with
    |nm i=>exact Zbp (P:=λt=>PS X (.Assign [t] _ _) _) (bL h) λy py e1 e2=>(Zq4 G e1 e2 (bR h3) (bL (bR h))).imp λD Z H q=>fin q
    |two i j=>exact ff (Zl4 (P:=λt=>Wr (tgE t=6)=Wp->Wq=Wp) (show Zpp Γ.N (ownD Γ.sc) i j tg=Wp from bL h) (λ_ _ _ _ z=>z) (bL h3))
    |many is=>exact ff (Zl4 (P:=λt=>Wr (tgE t=6)=Wp->Wq=Wp) (show Zpo Γ.N (ownD Γ.sc) is tg=Wp from bL h) (λ_ _ _ _ z=>z) (bL h3))
 |.put o i e,h=>ZpD (P:=λx=>PS X x _) h λtg xe p2 h=>ZwB (P:=λt=>PS X (.Assign [t] _ _) _) h λxo xi p1 h=>
  (Zru (pos:=p2) (Zm e G.toGd (bL (bR (bR h)))) (ZwW (pos:=p1) (Zm o G.toGd (bL h)) (Zm i G.toGd (bL (bR h))) (ZwN (Y:=Y) (E:=E)) ((kdE xi).put (of_decide_eq_true (bL (bR (bR (bR h))))) _ _ _)) (by unfold swapsWithSole;exact Zfk (bR (bR (bR (bR h))))) rfl rfl).imp λD Z H s=>SmS.bind s λS d h1 v H1 μ1 rh1 rs1 rd f1=>
   ⟨S,h1,μ1,rh1,rs1,f1.bind λd2 h2 v2 H2 μ2 _ g2 rh2 rd2 f2=>⟨S,h2,μ2,rh2,rs1.mono rh1 g2,f2.bind λd3 h3 v3 H3 μ3 _ g3 rh3 rd3 f3=>⟨d2,d3,d,h3,μ3,rh3,rd2.mono rh2 g3,rd3,(rd.mono rh1 g2).mono rh2 g3,f3.bind λ_ h4 _ H4 μ4 _ g4 rh4 _ f4=>f4.nx rh4 (((rs1.mono rh1 g2).mono rh2 g3).mono rh3 g4)⟩⟩⟩
 |.aug i op e,h=>ZaA (P:=λx=>PS X x _) h λp h=>Zbp (P:=λa=>PS X (.AugAssign a _ _ _) _) (bL h) λy py e1 e2=>dS (P:=λo=>PS X (.AugAssign _ o _ _) _) (bL (bR h)) <| dS (P:=λo=>PS X _ (ZpO T Y E (.aug i o e))) (bL (bR (bR h))) <|
  (ZwS G.nd (by rw[G.N];exact e1) (G.ownD _ e2).1 (Zm e G.toGd (bR (bR (bR h)))) ZxF (G.ownD _ e2).2).imp λD Z H s=>SmS.at s λS h B rh rs f=>by
   obtain⟨d,ed,f⟩:=ZV.ofO f;obtain⟨v,ev,rd⟩:=rs.var ed;refine⟨v,ev,S,h,B,rh,rs,ZV.bind f λd2 h2 v2 H2 μ2 _ g2 rh2 rd2 f2=>?_⟩;cases rd with
   |int a=>
    cases rd2 with
    |int b=>exact⟨a,b,rfl,rfl,ZV.nx f2 rh2 ((rs.mono rh g2).set (.int _))⟩
    |_=>exact f2.elim
   |_=>exact f2.elim
 |.drp e,h=>ZaA (P:=λx=>PS X x _) h λp h=>(ZtG (Zm e G.toGd (bL h)) (Zfk (bR h))).imp λD Z H s=>SmS.bind s λS d h1 v H1 μ1 rh1 rs1 rd f1=>f1.nx rh1 rs1
 |.iff c a b,h=>ZaA (P:=λx=>PS X x _) h λp h=>(Zzn (tst_ok c G.toGd (bL h)) (sts_ok a G (bL (bR h))) (sts_ok b G (bR (bR h)))).imp λD Z H s=>SmS.bind s λS t h1 v H1 μ1 rh1 rs1 rd f1=>by
  cases rd;cases t with
  |true=>exact Zmw ⟨S,h1,μ1,rh1,rs1,f1⟩
  |false=>exact Zmx ⟨S,h1,μ1,rh1,rs1,f1⟩
 |.whl c b,h=>ZaA (P:=λx=>PS X x _) h λp h=>ZkE (P:=λys=>PS X (.While _ _ ys _) _) h λh=>(Zrs G.own (tst_ok c G.toGd (bL h)) (sts_ok b G (bR h))).imp λD Z H s=>Zwg s
 |.forr g it b,h=>ZaA (P:=λx=>PS X x _) h λp h=>ZkE (P:=λys=>PS X (.For _ _ _ ys _) _) h λh=>(ZwQ G.own G.calm (evi_ok it G.toGd (bL h)) (Zow (X:=X) G.N G.nd G.calm G.ownD (bL (bR (bR h)))) (sts_ok b G (bR (bR (bR h)))) (Zni X.env (bL (bR h)))).imp λD Z H s=>SmS.bind s λS w h1 J H1 μ1 rh1 rs1 wj f1=>ZxN G.gk.K rh1 rs1 wj f1
 |.pas,h=>ZaA (P:=λx=>PS X x _) h λp h=>ZtF.imp λD Z H s=>SmS.at s λS h B rh rs f=>ZV.nx f rh rs
 |.brk,h=>ZaA (P:=λx=>PS X x _) h λp h=>Zrt.imp λD Z H s=>SmS.at s λS h B rh rs f=>f H B Gr.refl rh Z rs
 |.cnt,h=>ZaA (P:=λx=>PS X x _) h λp h=>Zmb.imp λD Z H s=>SmS.at s λS h B rh rs f=>f H B Gr.refl rh Z rs
 |.any,h=>λpins s Z H D I s=>SmS.at s λS h B rh rs f=>f.elim
 |.rai C e,h=>ZaA (P:=λx=>PS X x _) h λp h=>ZrT (P:=λc=>PS X (.Raise _ c _) _) h λh=>ZiJ (P:=λo=>PS X (.Raise o _ _) _) h λx h=>by
  unfold Zpm at h;exact Zdm (P:=λx=>PS X (.Raise (Wn x) _ _) _) h λnp ys q h=>ZaY (P:=λys=>PS X (.Raise (Wn (.Call _ ys _ _)) _ _) _) h λy h=>by obtain⟨ca,m,xo⟩:=G.xcs _ (of_decide_eq_true (bL h));have st:=ZA (xs:=[]) X.env (bL (bR (bR h)));exact(Zma G.rz G.calm PySem.F.excBase_ValueError (G.gl (bL (bR h))).1 m xo.own (Zav (Zm e G.toGd (bR (bR (bR h)))) Zb6 st) (G.gl (bL (bR h))).2 st rfl).imp λD Z H s=>SmS.bind s λS d h1 v H1 μ1 rh1 rs1 rd f1=>⟨by show 1<=sizeLine;decide,f1 H1 μ1 ca Gr.refl rh1 (by rw[G.gk.mg];exact m)⟩
 |.raf C e,h=>ZaA (P:=λx=>PS X x _) h λp h=>ZrT (P:=λc=>PS X (.Raise _ c _) _) h λh=>ZiJ (P:=λo=>PS X (.Raise o _ _) _) h λx h=>by
  unfold Zpm at h;exact Zdm (P:=λx=>PS X (.Raise (Wn x) _ _) _) h λnp ys q h=>ZaY (P:=λys=>PS X (.Raise (Wn (.Call _ ys _ _)) _ _) _) h λy h=>by
   obtain⟨ca,m,xo⟩:=G.xcs _ (of_decide_eq_true (bL h));have st:=ZA (xs:=[]) X.env (bL (bR (bR h)));refine Zz6 (P:=λy=>Yy [y] X.env=(Wq,eval y X.env)::Yy [] X.env->PS X (.Raise (Wn (.Call _ [y] _ _)) _ _) _) (bR (bR (bR h))) (λc j p1 y p2 pos hc h1 st=>?_) st;exact(Zma G.rz G.calm PySem.F.excBase_ValueError (G.gl (bL (bR h))).1 m xo.own (Zav (ZrG (Zm e G.toGd h1) hc) Zb6 st) (G.gl (bL (bR h))).2 st rfl).imp λD Z H s=>SmS.bind s λS d h1 v H1 μ1 rh1 rs1 rd f1=>by
    cases rd with
    |str y ok=>
     have f1:ZV Y H1 μ1 (if y.length<=50000 then .exc C h1 else .bad) D E:=f1;by_cases hy:y.length<=50000
     . rw[if_pos hy]at f1;have:=StrLaws.reprText_len y λc hc=>by
        have:=of_decide_eq_true (Array.all_eq_true'.mp (show y.cps.all (λc=>Wr (c<0x110000))=Wp from ok) c (Array.mem_toList_iff.mp hc))
        lia
       exact⟨y,rfl,by lia,λz=>⟨by show 1<=sizeLine;decide,f1 H1 μ1 ca Gr.refl rh1 (by rw[G.gk.mg];exact m)⟩⟩
     . rw[if_neg hy]at f1;exact f1.elim
    |_=>exact f1.elim
 |.tre i n f es C Ws bs,h=>ZaA (P:=λx=>PS X x _) h λp h=>ZkE (P:=λys=>PS X (.Try p.xs p.hs ys p.zs p.p) _) h λh=>ZkE (P:=λzs=>PS X (.Try p.xs p.hs [] zs p.p) _) h λh=>ZyO (P:=λhs=>PS X (.Try p.xs hs [] [] p.p) _) (bL h) λnp m y px q z rows lp te hn hown hr=>
  ZaY (P:=λxs=>PS X (.Try xs _ [] [] p.p) _) (bR h) λs h5=>ZaA (P:=λs=>PS X (.Try [s] _ [] [] p.p) _) h5 λp5 h5=>Zdm (P:=λx=>PS X (.Try [.Expr x p5.p] _ [] [] p.p) _) h5 λfp ys cp h5=>ZsM (P:=λys=>PS X (.Try [.Expr (.Call (.Name f fp) ys [] cp) p5.p] _ [] [] p.p) _) (bL (bR (bR h5))) (bR (bR (bR h5))) λy ys h4=>Zwp G (of_decide_eq_true (bL h5)) (bL (bR h5)) te hn hown hr h4 (evs_ok es G.toGd.nox h4)
 |.trs i f es C,h=>ff h
 |.trw i n f es C W w,h=>ff h
 |.seta Cs o f e,h=>ZpD (P:=λx=>PS X x _) h λtg xe pos h=>Zve (P:=λt=>PS X (.Assign [t] _ _) _) h λxo q h=>(ZwR (Zm o G.toGd (bL h)) (Zm e G.toGd (bL (bR h))) (Zfk (bL (bR (bR h))))).imp λD Z H s=>SmS.bind s λS d h1 v H1 μ1 rh1 rs1 rd f1=>⟨S,h1,μ1,rh1,rs1,ZV.bind f1 λd2 h2 v2 H2 μ2 _ g2 rh2 rd2 f2=>Zq3 (Q:=λ_ H'=>D.nx Z H') G.toGd (bL (bR (bR (bR h)))) (of_decide_eq_true (bR (bR (bR (bR h))))) rh2 rd2 (rd.mono rh1 g2) (ZV.bind f2 λ_ h3 _ H3 μ3 _ g3 rh3 _ f3=>f3.nx rh3 ((rs1.mono rh1 g2).mono rh2 g3))⟩
 |.auga Cs o f e,h=>ZaA (P:=λx=>PS X x _) h λp h=>dS (P:=λo=>PS X (.AugAssign _ o _ _) _) (bL h) <| Zve (P:=λt=>PS X (.AugAssign t _ _ _) _) (bR h) λxo q h=>(ZpU (Zm o G.toGd (bL h)) (Zm e G.toGd (bL (bR h))) ZxG).imp λD Z H s=>SmS.bind s λS d h1 x H1 μ1 rh1 rs1 rd f1=>Zye G.toGd (bL (bR (bR h))) (of_decide_eq_true (bR (bR (bR h)))) rh1 rs1 rd f1
 |.unl i j e,h=>ff h
theorem sts_ok(s:Sxs){Γ:Gm}{X:Cx}{E:XK}{k:Nat}{x:List Stmt}(G:GdS T Γ X Y E k)(h:chkSs Γ s x=Wp):PSs X x (Zoj T Y E s):=match s,x,h with
 | .nil,[],h=>ZtE.imp fun D Z H s=>SmS.at s fun S h B rh rs f=>ZV.nx f rh rs
 | .nil,_::_,h=>ff h
 | .cons s r,[],h=>ff h
 | .cons s r,x::xs,h=>(Zrr (Zy1 s G (bL h)) (sts_ok r G (bR h))).imp fun D Z H s=>SmS.at s fun S h B rh rs f=>⟨S,h,B,rh,rs,ZV.part f fun p h1 H1 μ1 _ g1 rh1 f1=>by
     obtain ⟨fl,ρ1⟩:=p;cases fl with
     | nx=>exact fun σ' rs'=>⟨ρ1,h1,μ1,rh1,rs',f1⟩
     | bk=>exact fun σ' rs'=>f1 H1 μ1 Gr.refl rh1 σ' rs'
     | ct=>exact fun σ' rs'=>f1 H1 μ1 Gr.refl rh1 σ' rs'
     | rt d=>exact fun v rv=>f1 H1 μ1 Gr.refl rh1 v rv⟩
end
set_option tactic.hygienic false
structure BodyOk(K:Yk)(kl:Kl)(fs:List Str)(x q:Str)(fd:Fd)(st:Stmt)(f:Yi)(fdd:FuncData):Prop where
 fn:Fun K x q st f fdd
 sc:FnScope fd.N fd.ps (Z2 st)
 hb:∀(kV doc pm:Yj) (an:Option Yi) (cdv ct:Yj) (us:List Yj),us.length=fd.ps.length->bindArgs (PySem.W.fnOf x q (ZdW st) (ZbY st) (Z2 st) .none kV doc pm an cdv ct) ⟨us,[]⟩=pure (fd.ps.zip us)
 ck:chkSs ⟨fd.N,Z2 st,fs,Wp,kl⟩ fd.body (ZbY st)=Wp
structure DefOk(K:Yk)(mg:Str->Option Yj)(kl:Kl)(fs:List Str)(x:Str)(fd:Fd)(st:Stmt)(f:Yi)(fdd:FuncData):Prop where
 bd:BodyOk K kl fs x x fd st f fdd
 mg:mg x=Wn (.ref f)
structure Md(Pr:Yh)(w:Yg)(K:Yk)(mg:Str->Option Yj)(P:Pg)(kl:Kl):Prop where
 bare:Zir K=Wp
 gd:∀x kvs,P.GD x=Wn kvs->∃a kvs',mg x=Wn (.ref a)/\DkK Pr w K a kvs'/\∀H B,RKs ⟨K,mg⟩ H B kvs kvs'
 g:∀x d,P.G x=Wn d->∃v u,mg x=Wn u/\RelV v u/\∀H B,RD ⟨K,mg⟩ H B d v
 blt:∀x∈Zpu,mg x=Wo
 defs:∀x fd,P.tb.lookup x=Wn fd->∃st f fdd,DefOk K mg kl (P.tb.map (·.1)) x fd st f fdd
 cls:∀C∈kl.cs,∃a,mg C=Wn (.ref a)/\Cls K a/\∀f∈kl.ats,ZaP K a f
 mts:∀p∈kl.ms,∃a f fdd fd st q,mg p.1=Wn (.ref a)/\Cls K a/\Meth K a p.2 f/\P.look (mnm p.1 p.2)=Wn fd/\BodyOk K kl (P.tb.map (·.1)) p.2 q fd st f fdd
 mks:∀C∈kl.is,∃a f fdd fd st q,mg C=Wn (.ref a)/\Mk K a f/\P.look (mnm C (O "__init__"))=Wn fd/\BodyOk K kl (P.tb.map (·.1)) (O "__init__") q fd st f fdd
 xcs:∀C∈kl.xs,∃a,mg C=Wn (.ref a)/\XOk K a
 xas:∀p∈kl.xa,∃a b,mg p.1=Wn (.ref a)/\mg p.2=Wn (.ref b)/\XAs K a b
 xis:∀p∈kl.xi,∃b v,mg p.1=Wn (.ref b)/\ClV mg p.2.1 v/\PySem.W.kitOne K (.ref b) v=Wn p.2.2
def ZqS(r:RDs Y H B ds vs):RS Y H B (Zbt N ds) (L2.start N vs):=by
 refine⟨by simp[Zbt,L2.start,r.length],λi d e=>?_⟩;unfold Zbt at e;unfold L2.start;by_cases hi:i<ds.length
 . rw[Oe (by simpa using hi),On]at e;rw[Oe (by simpa[<- r.length]using hi),On];obtain⟨d',e1,e2⟩:=Oo.mp e;cases e2;obtain⟨v,h1,h2⟩:=r.get e1;exact⟨v,by rw[h1];rfl,h2⟩
 . rw[Om (by simpa using hi)]at e;have:=O1 e;rw[List.mem_replicate]at this;cases this.2
def Ztp(f:Fin Y (RD Y) H B (Ze r) Q E):ZV Y H B r {nx:=λ_ H'=>Q .non H',rt:=Q} E:=by
 cases r with
 |bad=>exact f.elim
 |exc c h=>exact f
 |ok p h=>
  obtain⟨fl,S⟩:=p;cases fl with
  |nx=>exact λH' μ' g rh σ' _=>f .non H' μ' g rh .non
  |bk=>exact f.elim
  |ct=>exact f.elim
  |rt d=>exact λH' μ' g rh v rv=>f v H' μ' g rh rv
section
variable {Pr:Yh}{w:Yg}{K:Yk}{mg:Str->Option Yj}{base:YE}{P:Pg}{kl:Kl}
def Zlf(h:P.tb.lookup x=Wn fd):P.look x=Wn fd:=by unfold Pg.look;rw[h]
def ZqV(hl:P.look x=Wn fd)(h:Zgt (P.tbl n) ⟨K,mg⟩ x vs H Q E):vs.length=fd.ps.length:=by
 obtain⟨ds,h,B,rh,rs,f⟩:=h;cases n with
 |zero=>exact f.elim
 |succ n=>have f:Fin ⟨K,mg⟩ (RD ⟨K,mg⟩) H B (run P (n+1) x ds h) Q E:=f;rw[run,hl]at f;obtain⟨hz,_⟩:=f.iff;rw[<- rs.length];exact hz
structure Lev(Pr:Yh)(w:Yg)(K:Yk)(mg:Str->Option Yj)(base:YE)(P:Pg)(kl:Kl)(n:Nat):Prop where
 defs:∀y∈P.tb.map (·.1),∃ps,Def Pr w K mg base (2 * n+61) y ps (Zgt (P.tbl n) ⟨K,mg⟩ y)
 mts:∀p∈kl.ms,∃a f fd ps,mg p.1=Wn (.ref a)/\Cls K a/\Meth K a p.2 f/\FnOk Pr w K mg base (CXF Pr w) (2 * n+61) f fd ps (Zgt (P.tbl n) ⟨K,mg⟩ (mnm p.1 p.2))/\Binds K fd ps []
 mks:∀C∈kl.is,∃a f fd ps,mg C=Wn (.ref a)/\Mk K a f/\FnOk Pr w K mg base (CXF Pr w) (2 * n+61) f fd ps (Zgt (P.tbl n) ⟨K,mg⟩ (mnm C (O "__init__")))/\Binds K fd ps []
def Zly(M:Md Pr w K mg P kl){x nm q:Str}{fd:Fd}{st:Stmt}{f:Yi}{fdd:FuncData}(hl:P.look x=Wn fd)(o:BodyOk K kl (P.tb.map (·.1)) nm q fd st f fdd):
 ∀n,Lev Pr w K mg base P kl n->FnOk Pr w K mg base (CXF Pr w) (2 * (n+1)+61) f fdd fd.ps (Zgt (P.tbl (n+1)) ⟨K,mg⟩ x):=by
 intro n ih;obtain⟨oc,od,kV,doc,pm,an,cdv,ct,osl,rfl,lk,hcd⟩:=o.fn.ex;have S_:=o.sc;rw[show 2 * (n+1)+61=(2 * n+61+1)+1 by lia];refine Zz8 lk hcd S_ (λvs H Q E h=>ZqV hl h) λA outer s H vs Q E hr hsp=>?_;refine ZuV (t:=Zoj (P.tbl n) ⟨K,mg⟩ E fd.body) (sts_ok fd.body (k:=2 * n+61) (Γ:=⟨fd.N,Z2 st,P.tb.map (·.1),Wp,kl⟩) ⟨⟨⟨rfl,rfl,M.gd,M.g,M.bare⟩,rfl,λ_=>rfl,λy hy=>?_,λy hy=>hy,S_.nd,rfl,hr.mono (by lia),by lia,ZtW λ_ _ z=>z,ih.defs,M.blt,hr,M.cls,ih.mts,ih.mks⟩,rfl,λ_=>rfl,PassesOwn.leaving,?_,Zrc,rfl,rfl,M.xcs,M.xas,M.xis⟩ o.ck) ?_
 . unfold Ztb at hy;rw[Wm,Wm]at hy;rcases hy with (hy|hy)|hy
   . exact .inl (of_decide_eq_true hy)
   . exact .inr (.inl (of_decide_eq_true hy))
   . exact .inr (.inr (of_decide_eq_true hy))
 . show(if (Z2 st).kind.isAnnotationScope then ScopeKind.function else(Z2 st).kind)=.function;rw[S_.kind];rfl
 . obtain⟨ds,h,B,rh,rs,f⟩:=hsp;have f:Fin ⟨K,mg⟩ (RD ⟨K,mg⟩) H B (run P (n+1) x ds h) Q E:=f;rw[run,hl]at f;obtain⟨hz,f⟩:=f.iff;exact⟨Zbt fd.N ds,h,B,rh,ZqS rs,Ztp f⟩
def mem_lookup{α:Type}{l:List (Str×α)}{x:Str}(h:x∈l.map (·.1)):∃a,l.lookup x=Wn a:=by
 induction l with
 |nil=>simp at h
 |cons p r ih=>
  rw[OF];by_cases e:x=p.1
  . have:(x==p.1)=Wp:=by simpa using e
    rw[this];exact⟨_,rfl⟩
  . have:(x==p.1)=Wq:=by simpa using e
    rw[this];exact ih (by simpa[e]using h)
def Zlr{x:Str}{fd:Fd}{f:Yi}{fdd:FuncData}(hl:P.look x=Wn fd):FnOk Pr w K mg base (CXF Pr w) (2 * 0+61) f fdd fd.ps (Zgt (P.tbl 0) ⟨K,mg⟩ x):=⟨λvs H Q E h=>ZqV hl h,λA outer s H args us vs Q E _ _ _ _ h=>by obtain⟨ds,h,B,rh,rs,f⟩:=h;exact f.elim⟩
def Zs2(M:Md Pr w K mg P kl):∀n,Lev Pr w K mg base P kl n:=by
 intro n;induction n with
 |zero=>
  refine⟨λy hy=>?_,λp hp=>?_,λC hC=>?_⟩
  . obtain⟨fd,hl⟩:=mem_lookup hy;obtain⟨st,f,fdd,o⟩:=M.defs y fd hl;exact⟨fd.ps,f,fdd,o.mg,o.bd.fn.kp,o.bd.fn.binds o.bd.hb,Zlr (Zlf hl)⟩
  . obtain⟨a,f,fdd,fd,st,q,m,c,me,hl,o⟩:=M.mts p hp;exact⟨a,f,fdd,fd.ps,m,c,me,Zlr hl,o.fn.binds o.hb⟩
  . obtain⟨a,f,fdd,fd,st,q,m,me,hl,o⟩:=M.mks C hC;exact⟨a,f,fdd,fd.ps,m,me,Zlr hl,o.fn.binds o.hb⟩
 |succ n ih=>
  refine⟨λy hy=>?_,λp hp=>?_,λC hC=>?_⟩
  . obtain⟨fd,hl⟩:=mem_lookup hy;obtain⟨st,f,fdd,o⟩:=M.defs y fd hl;exact⟨fd.ps,f,fdd,o.mg,o.bd.fn.kp,o.bd.fn.binds o.bd.hb,Zly M (Zlf hl) o.bd n ih⟩
  . obtain⟨a,f,fdd,fd,st,q,m,c,me,hl,o⟩:=M.mts p hp;exact⟨a,f,fdd,fd.ps,m,c,me,Zly M hl o n ih,o.fn.binds o.hb⟩
  . obtain⟨a,f,fdd,fd,st,q,m,me,hl,o⟩:=M.mks C hC;exact⟨a,f,fdd,fd.ps,m,me,Zly M hl o n ih,o.fn.binds o.hb⟩
def Zxt(M:Md Pr w K mg P kl){x:Str}{a:Str}{fd:Fd}{fa:Yi}(n:Nat)(hl:P.tb.lookup x=Wn fd)(hps:fd.ps=[a])(hm:mg x=Wn (.ref fa)):
 ∃fdd:FuncData,(∀(s:Yb) (v:Yj),BindsTo s fdd ⟨[v],[]⟩ [(a,v)])/\∀base:YE,FnOk Pr w K mg base (CXF Pr w) (2 * (n+1)+61) fa fdd [a] (Zgt (P.tbl (n+1)) ⟨K,mg⟩ x):=by
 obtain⟨st,f,fdd,o⟩:=M.defs x fd hl;have e:=hm.symm.trans o.mg;cases e;refine⟨fdd,λs v=>?_,λbase=>hps ▸ Zly M (Zlf hl) o.bd n (Zs2 M n)⟩;obtain⟨oc,od,kV,doc,pm,an,cdv,ct,osl,rfl,lk,hcd⟩:=o.bd.fn.ex;have:=o.bd.hb kV doc pm an cdv ct [v] (by rw[hps];rfl);rw[hps]at this;exact BindsTo.of_eq this
end
def ZyF{α:Type}{us:List α}(h:us.length=0):us=[]:=List.length_eq_zero_iff.mp h
def Zwh{α:Type}{us:List α}{n:Nat}(h:us.length=n+1):∃a r,us=a::r/\r.length=n:=by
 cases us with
 |nil=>cases h
 |cons a r=>exact⟨a,r,rfl,Nat.succ.inj h⟩
def ZyE{α:Type}{us:List α}(h:us.length=1):∃a0,us=[a0]:=by obtain⟨a0,r,rfl,h2⟩:=Zwh h;exact⟨a0,by rw[ZyF h2]⟩
def ZyD{α:Type}{us:List α}(h:us.length=2):∃a0 a1,us=[a0,a1]:=by obtain⟨a0,r,rfl,h2⟩:=Zwh h;obtain⟨a1,rfl⟩:=ZyE h2;exact⟨a0,a1,rfl⟩
def ZAL{α:Type}{us:List α}(h:us.length=3):∃a0 a1 a2,us=[a0,a1,a2]:=by obtain⟨a0,r,rfl,h2⟩:=Zwh h;obtain⟨a1,a2,rfl⟩:=ZyD h2;exact⟨a0,a1,a2,rfl⟩
set_option tactic.hygienic true
def All(p:α->Prop):List α->Prop
 |[]=>True
 |a::l=>p a/\All p l
theorem All.mem:∀{l:List α},All p l->∀a∈l,p a
 |[],_,a,h=>by simp at h
 |b::l,⟨h1,h2⟩,a,h=>by
  rcases O2.mp h with rfl|h
  . exact h1
  . exact All.mem h2 a h
def lookup_mem{α:Type}{l:List (Str×α)}{a:α}(h:l.lookup x=Wn a):(x,a)∈l:=by
 induction l with
 |nil=>cases h
 |cons p r ih=>
  rw[OF]at h;by_cases e:x=p.1
  . have:(x==p.1)=Wp:=by simpa using e
    rw[this]at h;cases h;subst e;exact Oi
  . have:(x==p.1)=Wq:=by simpa using e
    rw[this]at h;exact Oh _ (ih h)
noncomputable def spL(K:Yk):Sp:=λvs H Q _=>∃(a:Yi) (ns:List Int),vs=[.ref a]/\SqL K H a (ns.map V.int)/\ns.length<=63/\Zvh H/\∀H',Q (.bl Wp) H'
theorem Zo2:∀ns:List Int,RDs Y H B (ns.map D.int) (ns.map V.int)
 |[]=>.nil
 |n::r=>.cons (.int n) (Zo2 r)
def ZyA{l:PySem.W.OpenLaw}{q:Yh}{loose:List Str}{XP:(Str->Option Yj)->YE->Prop}{YP:Yg->YE->Prop}{d:DefRec}{K:Params->Yk}{P:Pg}{kl:Kl}{fd:Fd}(n:Nat)(hn:l.most=Wn 63)(hdf:d.params.defaults=[])(hd:d.name=O "law")(hr:Room (2 * (n+1)+61) callerA)
 (hY:∀(w:Yg) (h:YE),YP w h->(K w.params).In h) (hl:P.tb.lookup (O "law")=Wn fd) (hps:fd.ps=[O "_law_script"])
 (hrun:∀ns:List Int,ns.length<=63->∃h',run P (n+1) (O "law") [.ro (ns.map .int)] []=.ok (.bl Wp) h')
 (M:∀(w:Yg) (mg:Str->Option Yj) (h:YE),(K w.params).In h->h.Ns Yd mg->Md l.prog w (K w.params) mg P kl) :
 PySem.W.WalkO q loose XP YP l.row.toRowW d [] (λf vs=>PySem.call f vs):=by
 refine L2.Zta (n:=63) (k:=2 * (n+1)+61) (x := "_law_script") (CX:=λw=>CXF l.prog w) (sp:=λw=>spL (K w.params)) hn (by decide) hdf hr hY (λw mg fa h KX G hmg=>?_) (λ_ _ a ns hl hO hS=>⟨a,ns,rfl,hS,hl,hO,λ_=>rfl⟩) λ_ _ _ _ _ z=>by obtain⟨_,_,_,_,_,_,_,_,_,_,_,_,_,z⟩:=z;exact z
 rw[hd]at hmg;obtain⟨fdd,hb,F⟩:=Zxt (M w mg h KX G) n hl hps hmg;refine⟨fdd,hb,λbase _ _=>(F base).imp λvs H Q E hsp=>?_⟩;obtain⟨a,ns,rfl,hS,hz,hO,hq⟩:=hsp;obtain⟨h',e⟩:=hrun ns hz;refine⟨[.ro (ns.map .int)],[],[],⟨rfl,.nil,λi o a e=>by simp at e,λi o e=>by simp at e⟩,.cons (.ro ?_ (Zo2 ns)) .nil,?_⟩
 . rcases hS with hS|hS
   . rcases hS with hS|hS
     . rcases hO a with z|⟨o,xs,z⟩<;>(rw[z]at hS;cases hS)
     . exact .inl hS
   . exact .inr hS
 . show Fin _ _ H [] (run P (n+1) (O "law") [.ro (ns.map .int)] []) Q E;rw[e];exact λb H' μ' _ _ r=>by cases r;exact hq H'
def Zvs{K:Yk}(h:K.lookup a=Wn ⟨.type "tuple",od,.seq its n,sl⟩)(hz:its.size<=sizeLine)(r:Zu vs its.toList):SqT K H a vs:=
 .inr ⟨_,its,n,h,rfl,rfl,hz,r⟩
end IV
namespace IV
open PySem L2 PyProof.Rows
section
structure Chk(kl:Kl)(fs:List Str)(x q:Str)(fd:Fd)(st:Stmt):Prop where
 sc:FnScope fd.N fd.ps (Z2 st)
 hb:∀(kV doc pm:Yj) (an:Option Yi) (cdv ct:Yj) (us:List Yj),us.length=fd.ps.length->bindArgs (PySem.W.fnOf x q (ZdW st) (ZbY st) (Z2 st) .none kV doc pm an cdv ct) ⟨us,[]⟩=pure (fd.ps.zip us)
 ck:chkSs ⟨fd.N,Z2 st,fs,Wp,kl⟩ fd.body (ZbY st)=Wp
variable {K:Yk}{h:YE}{mg:Str->Option Yj}{kl:Kl}{fs:List Str}{x q C:Str}{fd:Fd}{st:Stmt}{ca:Yi}{P:Pg}
def Chk.bd(c:Chk kl fs x q fd st)(F:Fun K x q st f fdd):BodyOk K kl fs x q fd st f fdd:=⟨F,c.sc,c.hb,c.ck⟩
def Zyn(K:Yk)(x:Str)(st:Stmt):Prop:=∃f fdd,Yl K Yd x=Wn (Wn (.ref f))/\Fun K x x st f fdd
def Zs6(K:Yk)(ca:Yi)(x q:Str)(st:Stmt):Prop:=∃f fdd,YH K (.ref ca) x=Wn (Wn (.ref f))/\PySem.W.isFn K (.ref f)=Wp/\YZ K (.ref f)=Wp/\Fun K x q st f fdd
def ZuN(X:K.In h)(G:h.Ns Yd mg)(d:Zyn K x st)(c:Chk kl fs x x fd st):∃st f fdd,DefOk K mg kl fs x fd st f fdd:=by obtain⟨f,fdd,a,F⟩:=d;exact⟨st,f,fdd,c.bd F,YM X G a⟩
def Zuj(X:K.In h)(G:h.Ns Yd mg)(y:Yl K Yd C=Wn (Wn (.ref ca)))(cl:Cls K ca)(d:Zs6 K ca x q st)(c:Chk kl (P.tb.map (·.1)) x q fd st)(e:P.look (mnm C x)=Wn fd):∃a f fdd fd st q,mg C=Wn (.ref a)/\Cls K a/\Meth K a x f/\P.look (mnm C x)=Wn fd/\BodyOk K kl (P.tb.map (·.1)) x q fd st f fdd:=by obtain⟨f,fdd,u1,u2,u3,F⟩:=d;exact⟨ca,f,fdd,fd,st,q,YM X G y,cl,⟨u1,u2,u3⟩,e,c.bd F⟩
def Zxo(X:K.In h)(G:h.Ns Yd mg)(y:Yl K Yd C=Wn (Wn (.ref ca)))(m:PySem.W.makesIn K ca=Wp)(k:YZ K (.ref ca)=Wp)(d:Zs6 K ca (O "__init__") q st)(c:Chk kl (P.tb.map (·.1)) (O "__init__") q fd st)(e:P.look (mnm C (O "__init__"))=Wn fd):∃a f fdd fd st q,mg C=Wn (.ref a)/\Mk K a f/\P.look (mnm C (O "__init__"))=Wn fd/\BodyOk K kl (P.tb.map (·.1)) (O "__init__") q fd st f fdd:=by obtain⟨f,fdd,u1,u2,u3,F⟩:=d;exact⟨ca,f,fdd,fd,st,q,YM X G y,⟨m,u1,u2,k⟩,e,c.bd F⟩
end
section
noncomputable abbrev Ml:=Str×Str×Fd×Nat×Nat
variable {K:Yk}{h:YE}{mg:Str->Option Yj}{kl:Kl}{fs:List Str}{C:Str}{ca:Yi}{P:Pg}
theorem Zph(X:K.In h)(G:h.Ns Yd mg){top:Nat->Stmt}:∀{l:List (Str×Fd×Nat)},All (λp=>Zyn K p.1 (top p.2.2)) l->All (λp=>Chk kl fs p.1 p.1 p.2.1 (top p.2.2)) l->All (λp:Str×Fd=>∃st f fdd,DefOk K mg kl fs p.1 p.2 st f fdd) (l.map λp=>(p.1,p.2.1))
 |[],_,_=>trivial
 |_::_,d,c=>⟨ZuN X G d.1 c.1,Zph X G d.2 c.2⟩
theorem ZoK(X:K.In h)(G:h.Ns Yd mg)(y:Yl K Yd C=Wn (Wn (.ref ca)))(cl:Cls K ca){mt:Nat->Nat->Stmt}:∀{l:List Ml},All (λp=>Zs6 K ca p.1 p.2.1 (mt p.2.2.2.1 p.2.2.2.2)) l->All (λp=>Chk kl (P.tb.map (·.1)) p.1 p.2.1 p.2.2.1 (mt p.2.2.2.1 p.2.2.2.2)) l->All (λp=>P.look (mnm C p.1)=Wn p.2.2.1) l->All (λp:Str×Str=>∃a f fdd fd st q,mg p.1=Wn (.ref a)/\Cls K a/\Meth K a p.2 f/\P.look (mnm p.1 p.2)=Wn fd/\BodyOk K kl (P.tb.map (·.1)) p.2 q fd st f fdd) (l.map λp=>(C,p.1))
 |[],_,_,_=>trivial
 |_::_,d,c,e=>⟨Zuj X G y cl d.1 c.1 e.1,ZoK X G y cl d.2 c.2 e.2⟩
theorem Zfy(X:K.In h)(G:h.Ns Yd mg):∀{l:List Str},All (λx=>Yl K Yd x=Wn Wo) l->All (λx=>mg x=Wo) l
 |[],_=>trivial
 |_::_,d=>⟨PySem.W.mg_none_of X G d.1,Zfy X G d.2⟩
end
end IV
namespace IV
open PySem L2
set_option tactic.hygienic false
def Zla(h:Str.ofString a=Str.ofString b):a=b:=by
 have e:∀s:String,(Str.ofString s).cps.toList=s.toList.map Char.toNat:=λs=>by show(cpsOfBytes 0 0 s.toByteArray.data.toList).toArray.toList=_;rw[cpsOfBytes_string]
 have h1:=congrArg (λs:Str=>s.cps.toList) h;simp only[e]at h1;have h2:a.toList=b.toList:=by
  have inj:∀{x y:Char},x.toNat=y.toNat->x=y:=λ{x y} q=>by have:x.val=y.val:=UInt32.toNat_inj.mp q;exact Char.ext this
  exact(List.map_inj_right λx y q=>inj q).mp h1
 exact String.toList_inj.mp h2
@[simp] theorem ofString_eq(a b:String):(Str.ofString a=Str.ofString b)↔a=b:=⟨Zla,λh=>h ▸ rfl⟩
@[simp] theorem Zuc(a b:String):(Str.ofString a==Str.ofString b)=(a==b):=by rw[Bool.eq_iff_iff];simp
def Un(k:γ):Type:=Unit
noncomputable def un:Un k:=()
def R.bnd(r:R α)(k:α->Hd->R β)(u:Un k:=un):R β:=r.bind k
@[simp] theorem Zk:R.bnd (.ok a h) k u=k a h:=rfl
@[simp] theorem ZAH:R.bnd (R.bad:R α) k u=.bad:=rfl
section
variable {T:Tb}{S:Ev}{h:Hd}
@[simp] theorem bind_ok:(R.ok a h).bind k=k a h:=rfl
@[simp] theorem bind_bad:(R.bad:R α).bind k=.bad:=rfl
@[simp] theorem ofO_some:R.ofO (Wn a) h=.ok a h:=rfl
@[simp] theorem Zyr:(R.ok a h).plain=.ok a h:=rfl
@[simp] theorem ZBA{i}:ev T (.var i) S h=R.ofO (S[i]?).join h:=rfl
@[simp] theorem Zsz{d}:ev T (.cst d) S h=.ok d h:=rfl
@[simp] theorem Zsy{x}:ev T (.glo x) S h=R.ofO (T.G x) h:=rfl
@[simp] theorem ZxW{op a b}:ev T (.bin op a b) S h=(ev T a S h).bnd λx h1=>(ev T b S h1).bnd λy h2=>opB op x y h2:=rfl
@[simp] theorem ZxU{op a b}:ev T (.cmp op a b) S h=(ev T a S h).bnd λx h1=>(ev T b S h1).bnd λy h2=>opC T.GD op x y h2:=rfl
@[simp] theorem ZBD{a}:ev T (.neg a) S h=(ev T a S h).bnd λx h1=>match x with
 |.int i=>.ok (.int (-i)) h1
 |_=>.bad:=rfl
@[simp] theorem ZBZ{a}:ev T (.nt a) S h=(ev T a S h).bnd λx h1=>match x with
 |.bl b=>.ok (.bl (!b)) h1
 |_=>.bad:=rfl
@[simp] theorem ZbX{es}:ev T (.ands es) S h=evAnd T es S h:=rfl
@[simp] theorem ZxR{es}:ev T (.ors es) S h=evOr T es S h:=rfl
@[simp] theorem Zco{e}:evAnd T (.cons e .nil) S h=ev T e S h:=rfl
@[simp] theorem ZaC{e e' r}:evAnd T (.cons e (.cons e' r)) S h=(ev T e S h).bnd λx h1=>match x with
 |.bl Wp=>evAnd T (.cons e' r) S h1
 |.bl Wq=>.ok (.bl Wq) h1
 |_=>.bad:=rfl
@[simp] theorem ZsC{e}:evOr T (.cons e .nil) S h=ev T e S h:=rfl
@[simp] theorem ZsB{e e' r}:evOr T (.cons e (.cons e' r)) S h=(ev T e S h).bnd λx h1=>match x with
 |.bl Wp=>.ok (.bl Wp) h1
 |.bl Wq=>evOr T (.cons e' r) S h1
 |_=>.bad:=rfl
@[simp] theorem ZBE{c a b}:ev T (.ite c a b) S h=(tst T c S h).bnd λc h1=>if c then ev T a S h1 else ev T b S h1:=rfl
@[simp] theorem Zo8{es}:ev T (.tupl es) S h=(evs T es S h).bnd λxs h1=>if xs.length<=sizeLine then .ok (.tup xs) h1 else .bad:=rfl
@[simp] theorem Zpa{es}:ev T (.lstl es) S h=(evs T es S h).bnd λxs h1=>if xs.length<=sizeLine then Zbf (.lst xs) h1 else .bad:=rfl
@[simp] theorem Zpb{a i}:ev T (.ix a i) S h=(ev T a S h).bnd λx h1=>(ev T i S h1).bnd λy h2=>Zfw T.GD x y h2:=rfl
@[simp] theorem ZvY{a lo hi}:ev T (.sl a lo hi) S h=(ev T a S h).bnd λx h1=>(evo T lo S h1).bnd λl h2=>(evo T hi S h2).bnd λu h3=>Zp2 x l u h3:=rfl
@[simp] theorem ZxV{f es}:ev T (.blt f es) S h=(evs T es S h).bnd λxs h1=>ZbN T.GD f xs h1:=rfl
@[simp] theorem ZuL{f es}:ev T (.call f es) S h=(evs T es S h).bnd λxs h1=>T.C f xs h1:=rfl
@[simp] theorem Zo9{m o es}:ev T (.meth m o es) S h=(ev T o S h).bnd λx h1=>if ZfH x h1 then(evs T es S h1).bnd λxs h2=>Zbz m x xs h2 else .bad:=rfl
@[simp] theorem ZuK{NC js it g c e}:ev T (.comp NC js it g c e) S h=(evi T it S h).bnd λw h1=>(ZG w.src g (tsto T c) (ev T e) w.xs (Zhy js S) [] h1).bnd λxs h2=>Zbf (.lst xs) h2:=rfl
@[simp] theorem ZuJ{e d}:ev T (.maxd e d) S h=(ev T e S h).bnd λx h1=>(ev T d S h1).bnd λy h2=>ZpB x y h2:=rfl
@[simp] theorem ZAf{ps}:ev T (.dictl ps) S h=(evs T ps S h).bnd λxs h1=>match ZeZ xs with
 |some kvs=>if kvs.length<=15 then Zbf (.dic (Zgx [] kvs)) h1 else .bad
 |none=>.bad:=rfl
@[simp] theorem ZsA{Cs o f}:ev T (.att Cs o f) S h=(ev T o S h).bnd λx h1=>ZgF Cs f x h1:=rfl
@[simp] theorem ZAd{C es}:ev T (.mk C es) S h=(evs T es S h).bnd λxs h1=>ZrX T.C C xs h1:=rfl
@[simp] theorem ZxS{C m o es}:ev T (.mcl C m o es) S h=(ev T o S h).bnd λx h1=>match Z8 x h1 with
 |some (C',fs)=>if C'=C/\fs.lookup m=Wo then(evs T es S h1).bnd λxs h2=>T.C (mnm C m) (x::xs) h2 else .bad
 |none=>.bad:=rfl
@[simp] theorem ZAG{e}:ev T (.trev e) S h=(ev T e S h).bnd λx h1=>Zv8 x h1:=rfl
@[simp] theorem ZBB{o e}:ev T (.tix o e) S h=(ev T o S h).bnd λx h1=>if ZzY x then(ev T e S h1).bnd λy h2=>ZAt x y h2 else .bad:=rfl
@[simp] theorem Zsv{m o e}:ev T (.tmt m o e) S h=(ev T o S h).bnd λx h1=>if ZzZ x then(ev T e S h1).bnd λy h2=>txm m x y h2 else .bad:=rfl
@[simp] theorem ZxT{a b}:ev T (.lmu a b) S h=(ev T a S h).bnd λx h1=>(ev T b S h1).bnd λy h2=>Zqt x y h2:=rfl
@[simp] theorem Zsw{a b}:ev T (.sin a b) S h=(ev T a S h).bnd λx h1=>(ev T b S h1).bnd λy h2=>Zs0 x y h2:=rfl
@[simp] theorem ZxQ{e}:evi T (.tw e) S h=(ev T e S h).bnd λx h1=>match x with
 |.str y=>.ok ⟨[],y.cps.toList.map λc=>.str ⟨#[c]⟩⟩ h1
 |_=>.bad:=rfl
@[simp] theorem ZBF{a b}:ev T (.dne a b) S h=(ev T a S h).bnd λx h1=>(ev T b S h1).bnd λy h2=>ZAu T.GD x y h2:=rfl
@[simp] theorem Zyv{Cs o f e}:xs1 T (.seta Cs o f e) S h=(ev T e S h).bnd λd h1=>(ev T o S h1).bnd λx h2=>(ZiB Cs f x d h2).bnd λ_ h3=>.ok (.nx,S) h3:=rfl
@[simp] theorem Zqx{Cs o f e}:xs1 T (.auga Cs o f e) S h=(ev T o S h).bnd λx h1=>(ZgF Cs f x h1).bnd λv h2=>(ev T e S h2).bnd λy h3=>match v,y with
 |.int a,.int b=>if (Z8 x h1).map (·.1)=(Z8 x h3).map (·.1)then(ZiB Cs f x (.int (a+b)) h3).bnd λ_ h4=>.ok (.nx,S) h4 else .bad
 |_,_=>.bad:=rfl
@[simp] theorem ZAF:evs T .nil S h=.ok [] h:=rfl
@[simp] theorem Zjd{e es}:evs T (.cons e es) S h=(ev T e S h).bnd λx h1=>(evs T es S h1).bnd λxs h2=>.ok (x::xs) h2:=rfl
@[simp] theorem ZAb:evo T Wo S h=.ok Wo h:=rfl
@[simp] theorem Zst{e}:evo T (Wn e) S h=(ev T e S h).bnd λx h1=>match x with
 |.int i=>.ok (Wn i) h1
 |_=>.bad:=rfl
@[simp] theorem ZqL{e}:tst T (.ex e) S h=(ev T e S h).bnd λx h1=>R.ofO (ZeY T.GD x h1) h1:=rfl
@[simp] theorem Zl2{ts}:tst T (.ands ts) S h=tstAnd T ts S h:=rfl
@[simp] theorem ZdQ{ts}:tst T (.ors ts) S h=tstOr T ts S h:=rfl
@[simp] theorem Zwl{a}:tst T (.nt a) S h=(tst T a S h).bnd λc h1=>.ok (!c) h1:=rfl
@[simp] theorem Zwm{t}:tstAnd T (.one t) S h=tst T t S h:=rfl
@[simp] theorem Zhg{t ts}:tstAnd T (.cons t ts) S h=(tst T t S h).bnd λc h1=>if c then tstAnd T ts S h1 else .ok Wq h1:=rfl
@[simp] theorem Zyq{t}:tstOr T (.one t) S h=tst T t S h:=rfl
@[simp] theorem Z3{t ts}:tstOr T (.cons t ts) S h=(tst T t S h).bnd λc h1=>if c then .ok Wp h1 else tstOr T ts S h1:=rfl
@[simp] theorem Zyp:tsto T Wo S h=.ok Wp h:=rfl
@[simp] theorem Zyo{t}:tsto T (Wn t) S h=tst T t S h:=rfl
@[simp] theorem Zsu{e}:evi T (.pl e) S h=(ev T e S h).bnd λx h1=>R.ofO (Zio x h1) h1:=rfl
@[simp] theorem Zo7{e}:evi T (.rng e) S h=(ev T e S h).bnd λx h1=>match x with
 |.int j=>if Zau j then .ok ⟨[],ZM 0 j.toNat⟩ h1 else .bad
 |_=>.bad:=rfl
@[simp] theorem ZBC{a b}:ev T (.rpn a b) S h=(ev T a S h).bnd λx h1=>(shD x h1).bnd λp h1=>(ev T b S h1).bnd λy h2=>(shD y h2).bnd λq h3=>.ok (.bl (!Wr (p=q))) h3:=rfl
@[simp] theorem ZuI{e}:evi T (.enu e) S h=(ev T e S h).bnd λx h1=>R.ofO ((Zip x h1).map λw=>⟨w.src,Zdi w.xs⟩) h1:=rfl
@[simp] theorem ZuH{e}:evi T (.rev e) S h=(ev T e S h).bnd λx h1=>R.ofO ((Zl0 x h1).map λw=>⟨w.src,w.xs.reverse⟩) h1:=rfl
@[simp] theorem ZnX{e}:xs1 T (.ret e) S h=(ev T e S h).bnd λx h1=>.ok (.rt x,S) h1:=rfl
@[simp] theorem ZnW{g e}:xs1 T (.set g e) S h=(ev T e S h).bnd λx h1=>(R.ofO (Za4 g x S) h1).bnd λρ1 h2=>.ok (.nx,ρ1) h2:=rfl
@[simp] theorem Zs7{o i e}:xs1 T (.put o i e) S h=(ev T e S h).bnd λx h1=>(ev T o S h1).bnd λy h2=>(ev T i S h2).bnd λz h3=>(Zfu y z x h3).bnd λ_ h4=>.ok (.nx,S) h4:=rfl
@[simp] theorem ZnZ{e}:xs1 T (.drp e) S h=(ev T e S h).bnd λ_ h1=>.ok (.nx,S) h1:=rfl
@[simp] theorem ZnY{c a b}:xs1 T (.iff c a b) S h=(tst T c S h).bnd λt h1=>if t then xs2 T a S h1 else xs2 T b S h1:=rfl
@[simp] theorem ZAz{c b}:xs1 T (.whl c b) S h=Zaw (tst T c) (xs2 T b) T.L S h:=rfl
@[simp] theorem Zqw{g it b}:xs1 T (.forr g it b) S h=(evi T it S h).bnd λw h1=>ZH w.src g (xs2 T b) w.xs S h1:=rfl
@[simp] theorem ZAy:xs2 T .nil S h=.ok (.nx,S) h:=rfl
@[simp] theorem ZlZ{s r}:xs2 T (.cons s r) S h=(xs1 T s S h).bnd λp h1=>match p with
 |(.nx,ρ1)=>xs2 T r ρ1 h1
 |p=>.ok p h1:=rfl
def Za(e:xs1 T s S h=.ok (.nx,ρ1) h1):xs2 T (.cons s r) S h=xs2 T r ρ1 h1:=by rw[ZlZ,e];rfl
def Zb(e:xs1 T s S h=.ok (.rt d,ρ1) h1):xs2 T (.cons s r) S h=.ok (.rt d,ρ1) h1:=by rw[ZlZ,e];rfl
@[simp] theorem ZAI{i d}:Za4 (.nm i) d S=Wn (S.set i (Wn d)):=rfl
@[simp] theorem ZAs{i j a b}:Za4 (.two i j) (.tup [a,b]) S=Wn ((S.set i (Wn a)).set j (Wn b)):=rfl
@[simp] theorem ZA8:Ze (.ok (.rt d,S) h)=.ok d h:=rfl
@[simp] theorem ZA9:Ze (.ok (.nx,S) h)=.ok .non h:=rfl
end
@[simp] theorem Zkv:seqOf (.tup xs) h=Wn xs:=rfl
@[simp] theorem ZzC:Zk5 f (.int i) (.int j) h=.ok (.bl (f i j)) h:=rfl
section
variable {GD:Str->Option (List (Key×D))}{h:Hd}
@[simp] theorem Zb7{x y}:opC GD .Eq x y h=Zcx Wq x y h:=rfl
@[simp] theorem Zk7{x y}:opC GD .NotEq x y h=Zcx Wp x y h:=rfl
@[simp] theorem ZBn{i j}:opC GD .Lt (.int i) (.int j) h=.ok (.bl (Wr (i<j))) h:=rfl
@[simp] theorem ZBo{i j}:opC GD .LtE (.int i) (.int j) h=.ok (.bl (Wr (i<=j))) h:=rfl
@[simp] theorem ZBp{i j}:opC GD .Gt (.int i) (.int j) h=.ok (.bl (Wr (j<i))) h:=rfl
@[simp] theorem ZBq{i j}:opC GD .GtE (.int i) (.int j) h=.ok (.bl (Wr (j<=i))) h:=rfl
@[simp] theorem ZrO{x}:opC GD .Is x .non h=.ok (.bl (Wr (x=.non))) h:=rfl
@[simp] theorem ZzE{x}:opC GD .IsNot x .non h=.ok (.bl (!Wr (x=.non))) h:=rfl
@[simp] theorem Zk6{s n}:opC GD .NotIn (.str s) (.kd n) h=match GD n with
 |some kvs=>.ok (.bl (!(ZaL kvs (.inr s)).isSome)) h
 |none=>.bad:=by
 show ZaX GD Wp (.str s) (.kd n) h=_;unfold ZaX;simp only[seqOf,lstOf,dicOf,keyOf];cases GD n<;>rfl
def ZeX(ss:List Str):(ss.map D.str).all D.flat=Wp:=by rw[OC];intro x hx;obtain⟨s,_,rfl⟩:=List.mem_map.mp hx;rfl
def any_words(ss:List Str)(x:Str):((ss.map D.str).any λz=>eqF z (.str x))=Wr (x∈ss):=by
 induction ss with
 |nil=>rfl
 |cons s r ih=>
  rw[Op,YY,ih];show((s==x) || Wr (x∈r))=_;by_cases e:s=x
  . subst e;simp
  . have:(s==x)=Wq:=by simpa using e
    rw[this];have e':¬ x=s:=λq=>e q.symm;simp[e']
def Zfx{ss:List Str}{x:Str}:opC GD .In (.str x) (.tup (ss.map .str)) h=.ok (.bl (Wr (x∈ss))) h:=by show ZaX GD Wq (.str x) (.tup (ss.map .str)) h=_;unfold ZaX;rw[Zkv];simp only[ZeX,any_words];rfl
def ZcL{ss:List Str}{x:Str}:opC GD .NotIn (.str x) (.tup (ss.map .str)) h=.ok (.bl (!Wr (x∈ss))) h:=by show ZaX GD Wp (.str x) (.tup (ss.map .str)) h=_;unfold ZaX;rw[Zkv];simp only[ZeX,any_words];rfl
@[simp] theorem Zmg{xs i}:Zfw GD (.tup xs) (.int i) h=R.ofO (atI xs i) h:=rfl
@[simp] theorem ZAC{xs i}:Zfw GD (.ro xs) (.int i) h=R.ofO (atI xs i) h:=rfl
@[simp] theorem Zt5{n s}:Zfw GD (.kd n) (.str s) h=match GD n with
 |some kvs=>R.ofO (ZaL kvs (.inr s)) h
 |none=>.bad:=rfl
def ZN{i k xs}(e:h[i]? = Wn (.lst xs)):Zfw GD (.ref i) (.int k) h=R.ofO (atI xs k) h:=by unfold Zfw;simp only[seqOf,lstOf,e]
@[simp] theorem ZpC{α:Type}{x:α}{l:List α}:atI (x::l) 0=Wn x:=by simp[atI,ixN]
def ZaW{α:Type}{l:List α}{k:Nat}:atI l (k:Int)=l[k]? := by
 unfold atI ixN;by_cases hk:k<l.length
 . simp[hk]
 . simp[hk]
@[simp] theorem ZB2{α:Type}{x y:α}{l:List α}:atI (x::y::l) 1=Wn y:=ZaW (k:=1)
@[simp] theorem ZB1{α:Type}{x y z:α}{l:List α}:atI (x::y::z::l) 2=Wn z:=ZaW (k:=2)
@[simp] theorem ZB0{α:Type}{x y z w:α}{l:List α}:atI (x::y::z::w::l) 3=Wn w:=ZaW (k:=3)
@[simp] theorem ZrL{xs l u}:Zp2 (.tup xs) l u h=.ok (.tup (cutD xs l u)) h:=rfl
@[simp] theorem Zys{x:D}{l:List D}:cutD (x::l) (Wn 1) Wo=l:=by simp[cutD,HT.sIx]
@[simp] theorem ZAB{b}:ZeY GD (.bl b) h=Wn b:=rfl
@[simp] theorem ZyL{i}:ZeY GD (.int i) h=Wn (i != 0):=rfl
@[simp] theorem ZyJ{xs}:ZeY GD (.tup xs) h=Wn (!xs.isEmpty):=rfl
@[simp] theorem ZyK:ZeY GD .non h=Wn Wq:=rfl
@[simp] theorem ZAE{i j}:opB .Add (.int i) (.int j) h=.ok (.int (i+j)) h:=rfl
@[simp] theorem ZAD{i j}:opB .Sub (.int i) (.int j) h=.ok (.int (i - j)) h:=rfl
def ZC(hj:0<j):opB .Mod (.int i) (.int j) h=.ok (.int (i % j)) h:=if_pos hj
def ZT(hj:0<j/\j<1073741824):opB .FloorDiv (.int i) (.int j) h=.ok (.int (i / j)) h:=if_pos hj
def Zcy(hj:i.natAbs<2 ^ 2000/\j.natAbs<2 ^ 2000):opB .Mult (.int i) (.int j) h=.ok (.int (i * j)) h:=if_pos hj
def ZoD(hl:xs.length+ys.length<=sizeLine):opB .Add (.tup xs) (.tup ys) h=.ok (.tup (xs++ys)) h:=if_pos hl
@[simp] theorem ZaE:Zcx n (.str x) (.str y) h=.ok (.bl (if n then !Wr (x=y)else Wr (x=y))) h:=by
 have e:YN (.str x) (.str y)=Wr (x=y):=by show(x==y)=_;rw[Bool.beq_eq_decide_eq]
 have q:Zcx n (.str x) (.str y) h=if min (PyData.str x).depth (PyData.str y).depth<=1100 then .ok (.bl (if n then !YN (.str x) (.str y)else YN (.str x) (.str y))) h else .bad:=rfl;rw[q,if_pos (by simp[PyData.depth]),e]
@[simp] theorem Zc7:Zcx n (.int x) (.int y) h=.ok (.bl (if n then !Wr (x=y)else Wr (x=y))) h:=by
 have e:YN (.int x) (.int y)=Wr (x=y):=by show(x==y)=_;rw[Bool.beq_eq_decide_eq]
 have q:Zcx n (.int x) (.int y) h=if min (PyData.int x).depth (PyData.int y).depth<=1100 then .ok (.bl (if n then !YN (.int x) (.int y)else YN (.int x) (.int y))) h else .bad:=rfl;rw[q,if_pos (by simp[PyData.depth]),e]
end
def Zg(e:P.tb.lookup f=Wn fd)(hl:ds.length=fd.ps.length):run P (n+1) f ds h=Ze (xs2 ⟨P.G,P.GD,run P n,P.L⟩ fd.body (Zbt fd.N ds) h):=by rw[run,show P.look f=Wn fd by unfold Pg.look;rw[e]];simp only;rw[if_pos hl]
def Zc5(hn:P.tb.lookup f=Wo)(e:P.ms.lookup f=Wn fd)(hl:ds.length=fd.ps.length):run P (n+1) f ds h=Ze (xs2 ⟨P.G,P.GD,run P n,P.L⟩ fd.body (Zbt fd.N ds) h):=by rw[run,show P.look f=Wn fd by unfold Pg.look;rw[hn];exact e];simp only;rw[if_pos hl]
section
variable {h:Hd}{x y z w:DO}{r:List DO}
@[simp] theorem Zjz:(h++x::r)[h.length]? = Wn x:=by simp
@[simp] theorem Zzl:(h++x::r).set h.length o=h++o::r:=by simp
end
@[simp] theorem Zug:Zbf o h=.ok (.ref h.length) (h++[o]):=rfl
section
variable {h:Hd}
def Zby(e:h[i]? = Wn (.lst ys))(hz:ys.length<sizeLine):Zbz .app (.ref i) [d] h=.ok .non (h.set i (.lst (ys++[d]))):=by simp only[Zbz,e,ZhJ,Zr5];rw[if_pos hz]
def Zr2(e:h[i]? = Wn (.lst (ys++[d]))):Zbz .pop (.ref i) [] h=.ok d (h.set i (.lst ys)):=by simp only[Zbz,e,ZhJ,Zum];simp
def ZkH(e:h[i]? = Wn (.lst ys)):ZfH (.ref i) h=Wp:=by simp[ZfH,e]
def Ztc(e:h[i]? = Wn (.lst ys)):ZeY GD (.ref i) h=Wn (!ys.isEmpty):=by simp[ZeY,e]
@[simp] theorem Zz7:ZH [] g body [] S h=.ok (.nx,S) h:=rfl
def ZdV:ZH [] g body (d::ds) S h=match Za4 g d S with
 |none=>.bad
 |some ρ1=>(body ρ1 h).bnd λp h2=>match p with
  |(.nx,ρ2)=>ZH [] g body ds ρ2 h2
  |(.ct,ρ2)=>ZH [] g body ds ρ2 h2
  |(.bk,ρ2)=>.ok (.nx,ρ2) h2
  |(.rt d,ρ2)=>.ok (.rt d,ρ2) h2:=rfl
def Z4:ZG src g test elt (d::ds) S acc h=if Wk.stays src h/\acc.length<sizeLine then match Za4 g d S with
 |none=>.bad
 |some ρ1=>(test ρ1 h).plain.bnd λb h1=>if b then(elt ρ1 h1).plain.bnd λx h2=>ZG src g test elt ds S (acc++[x]) h2 else ZG src g test elt ds S acc h1
 else .bad:=rfl
def ZbV:Zaw test body (n+1) S h=(test S h).bnd λb h1=>if b then(body S h1).bnd λp h2=>match p with
 |(.nx,ρ2)=>Zaw test body n ρ2 h2
 |(.ct,ρ2)=>Zaw test body n ρ2 h2
 |(.bk,ρ2)=>.ok (.nx,ρ2) h2
 |(.rt d,ρ2)=>.ok (.rt d,ρ2) h2
 else .ok (.nx,S) h1:=rfl
end
inductive Wd where
 |add|sub|mul|lt
 deriving DecidableEq
noncomputable def Wd.s:Wd->Str
 |.add=>O "+"
 |.sub=>O "-"
 |.mul=>O "*"
 |.lt=>O "<"
inductive T where
 |num (n:Int)|name (x:Str)|fn (x:Str) (e:T)|rcc (f x:Str) (e:T)|call (f a:T)|iff (c t e:T)|op (w:Wd) (a b:T)
noncomputable def T.d:T->D
 |.num n=>.tup [.str (O "num"),.int n]
 |.name x=>.tup [.str (O "name"),.str x]
 |.fn x e=>.tup [.str (O "fn"),.str x,e.d]
 |.rcc f x e=>.tup [.str (O "rec"),.str f,.str x,e.d]
 |.call f a=>.tup [.str (O "call"),f.d,a.d]
 |.iff c t e=>.tup [.str (O "if"),c.d,t.d,e.d]
 |.op w a b=>.tup [.str w.s,a.d,b.d]
noncomputable def T.parts:T->List T
 |.num _|.name _=>[]
 |.fn _ e|.rcc _ _ e=>[e]
 |.call f a=>[f,a]
 |.iff c t e=>[c,t,e]
 |.op _ a b=>[a,b]
noncomputable def T.places:T->List T
 |.num n=>[.num n]
 |.name x=>[.name x]
 |.fn x e=>.fn x e::e.places
 |.rcc f x e=>.rcc f x e::e.places
 |.call f a=>.call f a::(f.places++a.places)
 |.iff c t e=>.iff c t e::(c.places++(t.places++e.places))
 |.op w a b=>.op w a b::(a.places++b.places)
noncomputable def T.size(t:T):Nat:=t.places.length
def T.places_parts(t:T):t.places=t::t.parts.flatMap T.places:=by cases t<;>simp[T.places,T.parts]
set_option tactic.hygienic true
section
variable {U:Tb}{S:Ev}{h h1:Hd}{f:Str}{as:List D}{r:R D}
def Zt(e:tst U c S h=.ok Wp h1):xs1 U (.iff c a b) S h=xs2 U a S h1:=by rw[ZnY,e];rfl
def Zi(e:tst U c S h=.ok Wq h1):xs1 U (.iff c a b) S h=xs2 U b S h1:=by rw[ZnY,e];rfl
def Zh(q:ev U e S h=.ok d h1):xs1 U (.ret e) S h=.ok (.rt d,S) h1:=by rw[ZnX,q];rfl
def Zn(q:ev U e S h=.ok d h1):xs1 U (.set (.nm i) e) S h=.ok (.nx,S.set i (Wn d)) h1:=by rw[ZnW,q];rfl
def Zax(q:evi U it S h=.ok w h1):xs1 U (.forr g it b) S h=ZH w.src g (xs2 U b) w.xs S h1:=by rw[Zqw,q];rfl
def Zc(p:ev U a S h=.ok x h1)(q:ev U b S h1=.ok y h2):ev U (.bin op a b) S h=opB op x y h2:=by rw[ZxW,p];simp only[Zk,q]
def Zq(p:ev U a S h=.ok x h1)(q:ev U b S h1=.ok y h2):ev U (.cmp op a b) S h=opC U.GD op x y h2:=by rw[ZxU,p];simp only[Zk,q]
def Z7(q:ev U e S h=.ok (.bl b) h1):tst U (.ex e) S h=.ok b h1:=by rw[ZqL,q];rfl
def Zr{b c:Bool}{y:R Bool}(q:y=.ok b h1)(e:b=c):y=.ok c h1:=e ▸ q
noncomputable def tlS:Sxs->Sxs
 |.cons _ r=>r
 |.nil=>.nil
def Zd(p:ev U a S h=.ok x h1)(q:evs U es S h1=.ok xs h2):evs U (.cons a es) S h=.ok (x::xs) h2:=by rw[Zjd,p,Zk,q];rfl
def ZBG(p:evs U es S h=.ok xs h1):ev U (.call g es) S h=U.C g xs h1:=by rw[ZuL,p];rfl
def ZhA(a:atI xs z=Wn d)(p:evs U es S h=.ok xs h)(q:ev U e S (h++[.lst xs])=.ok (.int z) (h++[.lst xs]))(hz:xs.length<=1000):ev U (.ix (.lstl es) e) S h=.ok d (h++[.lst xs]):=by rw[Zpb,Zpa,p,Zk,if_pos (OE hz (by decide)),Zug,Zk,q,Zk,ZN (xs:=xs) (by simp),a];rfl
def Zj(e:U.C g xs h1=y)(p:evs U es S h=.ok xs h1):ev U (.call g es) S h=y:=(ZBG p).trans e
def Za1(p:evs U es S h=.ok xs h1)(hz:xs.length<=1000):ev U (.tupl es) S h=.ok (.tup xs) h1:=by rw[Zo8,p,Zk,if_pos (OE hz (by decide))]
def ZzX(p:ev U e S h=.ok x h1)(n:x≠.non):tst U (.ex (.cmp .Is e (.cst .non))) S h=.ok Wq h1:=Z7 ((Zq p rfl).trans (by rw[ZrO,decide_eq_false n]))
def ZzW(p:ev U e S h=.ok .non h1):tst U (.ex (.cmp .Is e (.cst .non))) S h=.ok Wp h1:=Z7 ((Zq p rfl).trans (by rw[ZrO,decide_eq_true rfl]))
def ZhU(p:ev U a S h=.ok (.str x) h1)(q:ev U b S h1=.ok (.str y) h2):tst U (.ex (.cmp .Eq a b)) S h=.ok (Wr (x=y)) h2:=Z7 ((Zq p q).trans (by rw[Zb7,ZaE];rfl))
def Ze2(p:ev U a S h=.ok (.int x) h1)(q:ev U b S h1=.ok (.int y) h2):tst U (.ex (.cmp .Eq a b)) S h=.ok (Wr (x=y)) h2:=Z7 ((Zq p q).trans (by rw[Zb7,Zc7];rfl))
def ZK(p:ev U a S h=.ok x h1)(q:ev U b S h1=.ok y h2):ev U (.ix a b) S h=Zfw U.GD x y h2:=by rw[Zpb,p,Zk,q,Zk]
def ZkW(p:tst U a S h=.ok Wp h1)(q:tst U b S h1=.ok c h2):tst U (.ands (.cons a (.one b))) S h=.ok c h2:=by rw[Zl2,Zhg,p];exact q
def Zm5(p:tst U a S h=.ok Wq h1):tst U (.ands (.cons a (.one b))) S h=.ok Wq h1:=by rw[Zl2,Zhg,p];rfl
def Zw8(p:tst U a S h=.ok Wp h1):tst U (.ors (.cons a (.one b))) S h=.ok Wp h1:=by rw[ZdQ,Z3,p];rfl
def Zmf(p:tst U a S h=.ok Wq h1)(q:tst U b S h1=.ok c h2):tst U (.ors (.cons a (.one b))) S h=.ok c h2:=by rw[ZdQ,Z3,p];exact q
end
end IV
namespace Gn
open PySem L2 IV
set_option tactic.hygienic false
def ZbO:Sxs:=(.c (.iff (.ex (.cmp .NotIn (.ix (.v 0) (.ci 0)) (.glo (O "FORMS")))) (.c (.ret (.tupl .n)) .n) .n) (.c (.ret (.sl (.v 0) (Wn (.bin .Add (.ci 1) (.ix (.ix (.glo (O "FORMS")) (.ix (.v 0) (.ci 0))) (.ci 0)))) Wo)) .n))
def Zi5:Fd:=⟨[(O "E")],[(O "E")],ZbO⟩
def ZmY:Sxs:=(.c (.set (.nm 1) (.lstl .n)) (.c (.set (.nm 2) (.lstl (.c (.v 0) .n))) (.c (.whl (.ex (.v 2)) (.c (.set (.nm 3) (.meth .pop (.v 2) .n)) (.c (.drp (.meth .app (.v 1) (.c (.v 3) .n))) (.c (.forr (.nm 4) (.rev (.call (O "parts_of") (.c (.v 3) .n))) (.c (.drp (.meth .app (.v 2) (.c (.v 4) .n))) .n)) .n)))) (.c (.ret (.v 1)) .n))))
def ZfM:Fd:=⟨[(O "E")],[(O "E"),(O "found"),(O "waiting"),(O "place"),(O "part")],ZmY⟩
noncomputable def Zbj:List (Key×D):=[(.inr (O "fn"),.tup [.int 1,.int 1]),(.inr (O "rec"),.tup [.int 2,.int 1]),(.inr (O "call"),.tup [.int 0,.int 2]),(.inr (O "if"),.tup [.int 0,.int 3]),(.inr (O "+"),.tup [.int 0,.int 2]),(.inr (O "-"),.tup [.int 0,.int 2]),(.inr (O "*"),.tup [.int 0,.int 2]),(.inr (O "<"),.tup [.int 0,.int 2])]
structure Tre(P:Pg):Prop where
 parts:P.tb.lookup (O "parts_of")=Wn Zi5
 g:P.G (O "FORMS")=Wn (.kd (O "FORMS"))
 gd:P.GD (O "FORMS")=Wn Zbj
 big:1000000<=P.L
def Zfz(H:Tre P)(hU:U.G=P.G/\U.GD=P.GD)(q:ev U e S h=.ok (.str w) h)(f:ZaL Zbj (.inr w)=x):tst U (.ex (.cmp .NotIn e (.glo (O "FORMS")))) S h=.ok (!x.isSome) h:=by
 have g:ev U (.glo (O "FORMS")) S h=.ok (.kd (O "FORMS")) h:=by rw[Zsy,hU.1,H.g];rfl
 refine Z7 ((Zq q g).trans ?_);rw[Zk6,hU.2,H.gd];simp only[f]
def Zo5(H:Tre P)(hU:U.G=P.G/\U.GD=P.GD)(q:ev U e S h=.ok (.str w) h)(f:ZaL Zbj (.inr w)=Wn x):ev U (.ix (.glo (O "FORMS")) e) S h=.ok x h:=by
 have g:ev U (.glo (O "FORMS")) S h=.ok (.kd (O "FORMS")) h:=by rw[Zsy,hU.1,H.g];rfl
 rw[Zpb,g,Zk,q,Zk,Zt5,hU.2,H.gd];simp only[f];rfl
def Zmv:ev U (.ix (.var 0) (.ci 0)) (Wn (.tup (.str w::ds))::S) h=.ok (.str w) h:=by show R.ofO (atI (D.str w::ds) 0) h=_;rw[ZpC];rfl
def Zsp(H:Tre P)(hU:U.G=P.G/\U.GD=P.GD)(e:ZaL Zbj (.inr w)=Wn (.tup [.int a,.int b])):ev U (.bin .Add (.ci 1) (.ix (.ix (.glo (O "FORMS")) (.ix (.var 0) (.ci 0))) (.ci 0))) [Wn (.tup (.str w::ds))] h=.ok (.int (1+a)) h:=by refine(Zc (x:=.int 1) (y:=.int a) rfl ?_).trans rfl;rw[Zpb,Zo5 H hU Zmv e];rfl
def Zlv(q:ev U e S h=.ok (.int l) h):evo U (Wn e) S h=.ok (Wn l) h:=by rw[Zst,q];rfl
def Zoe(p:ev U a S h=.ok x h)(q:evo U lo S h=.ok l h)(r:evo U hi S h=.ok u h):ev U (.sl a lo hi) S h=Zp2 x l u h:=by simp only[ZvY,p,Zk,q,r]
def Zme(H:Tre P)(n:Nat)(h:Hd)(w:Str)(ds:List D)(e:ZaL Zbj (.inr w)=Wo):run P (n+1) (O "parts_of") [.tup (.str w::ds)] h=.ok (.tup []) h:=by rw[Zg H.parts rfl];show Ze (xs2 (P.tbl n) ZbO [Wn (.tup (.str w::ds))] h)=_;rw[ZbO,Zb ((Zt (Zfz H ⟨rfl,rfl⟩ Zmv e)).trans (Zb (Zh (d:=.tup []) rfl)))];rfl
def Zck(H:Tre P)(n:Nat)(h:Hd)(w:Str)(ds:List D)(a b:Int)(e:ZaL Zbj (.inr w)=Wn (.tup [.int a,.int b])):run P (n+1) (O "parts_of") [.tup (.str w::ds)] h=.ok (.tup (cutD (.str w::ds) (Wn (1+a)) Wo)) h:=by
 rw[Zg H.parts rfl];show Ze (xs2 (P.tbl n) ZbO [Wn (.tup (.str w::ds))] h)=_;have q:=Zsp H (U:=P.tbl n) ⟨rfl,rfl⟩ (ds:=ds) (h:=h) e;have r:ev (P.tbl n) (.sl (.var 0) (Wn (.bin .Add (.ci 1) (.ix (.ix (.glo (O "FORMS")) (.ix (.var 0) (.ci 0))) (.ci 0)))) Wo) [Wn (.tup (.str w::ds))] h=.ok (.tup (cutD (.str w::ds) (Wn (1+a)) Wo)) h:=by exact(Zoe (a:=.var 0) (x:=.tup (.str w::ds)) rfl (Zlv q) rfl).trans rfl
 rw[ZbO,Za ((Zi (Zfz H ⟨rfl,rfl⟩ Zmv e)).trans rfl),Zb (Zh r)];rfl
def Zop(H:Tre P)(n:Nat)(t:T)(h:Hd):run P (n+1) (O "parts_of") [t.d] h=.ok (.tup (t.parts.map T.d)) h:=by
 cases t with
 |num z=>exact Zme H n h (O "num") _ rfl
 |name x=>exact Zme H n h (O "name") _ rfl
 |fn x e=>exact Zck H n h (O "fn") _ 1 1 rfl
 |rcc f x e=>exact Zck H n h (O "rec") _ 2 1 rfl
 |call f a=>exact Zck H n h (O "call") _ 0 2 rfl
 |iff c a b=>exact Zck H n h (O "if") _ 0 3 rfl
 |op w a b=>exact Zck H n h w.s _ 0 2 (by cases w<;>rfl)
theorem Zhk(p:Option D):∀(ps:List D) (W:List D) (q:Option D),W.length+ps.length<=1000000->∃q',
 ZH [] (.nm 4) (xs2 U (.cons (.drp (.meth .app (.var 2) (.cons (.var 4) .nil))) .nil)) ps [Wn E,Wn (.ref h.length),Wn (.ref (h.length+1)),p,q] (h++[.lst F,.lst W])
  = .ok (.nx,[Wn E,Wn (.ref h.length),Wn (.ref (h.length+1)),p,q']) (h++[.lst F,.lst (W++ps)])
 |[],W,q,hz=>⟨q,by simp⟩
 |d::ds,W,q,hz=>by
  obtain⟨q',e⟩:=Zhk (U:=U) (h:=h) (F:=F) (E:=E) p ds (W++[d]) (Wn d) (by simp at hz ⊢;lia);refine⟨q',?_⟩;have hz2:W.length<sizeLine:=by simp at hz;rw[YA];lia
  rw[ZdV];simp[ZfH,Zbz,ZhJ,Zr5,hz2,e]
def ZiF(t:T):1<=t.places.length:=by rw[T.places_parts];simp
theorem Zd8:∀W:List T,W.length<=(W.flatMap T.places).length
 |[]=>by simp
 |t::W=>by
  have:=ZiF t;have:=Zd8 W;rw[List.flatMap_cons,OA,Os]
  lia
theorem Zmm(H:Tre P)(n:Nat):∀(fuel:Nat) (W:List T) (F:List D) (p q:Option D),(W.flatMap T.places).length<fuel->F.length+(W.flatMap T.places).length<=900000->∃p' q',
 Zaw (tst ⟨P.G,P.GD,run P (n+1),P.L⟩ (.ex (.var 2))) (xs2 ⟨P.G,P.GD,run P (n+1),P.L⟩ (.cons (.set (.nm 3) (.meth .pop (.var 2) .nil)) (.cons (.drp (.meth .app (.var 1) (.cons (.var 3) .nil))) (.cons (.forr (.nm 4) (.rev (.call (O "parts_of") (.cons (.var 3) .nil))) (.cons (.drp (.meth .app (.var 2) (.cons (.var 4) .nil))) .nil)) .nil))))
  fuel [Wn E,Wn (.ref h.length),Wn (.ref (h.length+1)),p,q] (h++[.lst F,.lst (W.map T.d).reverse])
  = .ok (.nx,[Wn E,Wn (.ref h.length),Wn (.ref (h.length+1)),p',q']) (h++[.lst (F++(W.flatMap T.places).map T.d),.lst []])
 |0,W,F,p,q,h1,h2=>by lia
 |fuel+1,[],F,p,q,h1,h2=>⟨p,q,by rw[ZbV];simp[ZeY]⟩
 |fuel+1,t::W,F,p,q,h1,h2=>by
  have e0:((t::W).flatMap T.places)=t::((t.parts++W).flatMap T.places):=by rw[List.flatMap_cons,T.places_parts t,List.flatMap_append];simp
  rw[e0]at h1 h2 ⊢;have hp:t.parts.length<=3:=by cases t<;>simp[T.parts]
  simp only[Os]at h1 h2;have h3:=Zd8 (t.parts++W);rw[OA]at h3;obtain⟨q1,e1⟩:=Zhk (U:=⟨P.G,P.GD,run P (n+1),P.L⟩) (h:=h) (F:=F++[t.d]) (E:=E) (Wn t.d) (t.parts.map T.d).reverse (W.map T.d).reverse q (by simp;lia);obtain⟨p',q',e2⟩:=Zmm H (h:=h) (E:=E) n fuel (t.parts++W) (F++[t.d]) (Wn t.d) q1 (by lia) (by rw[OA,List.length_singleton];lia);refine⟨p',q',?_⟩;have hz2:F.length<sizeLine:=by rw[YA];lia
  rw[ZbV];simp[ZeY,ZfH,Zbz,ZhJ,Zr5,Zum,hz2,Zop H,Zl0,e1];simpa using e2
def ZiD(H:Tre P)(hp:P.tb.lookup (O "places")=Wn ZfM)(n:Nat)(t:T)(h:Hd)(hz:t.size<=800000):run P (n+2) (O "places") [t.d] h=.ok (.ref h.length) (h++[.lst (t.places.map T.d),.lst []]):=by rw[Zg hp (by rfl)];obtain⟨p',q',e⟩:=Zmm H (h:=h) (E:=t.d) n P.L [t] [] Wo Wo (by have:=H.big;unfold T.size at hz;simp;lia) (by unfold T.size at hz;simp;lia);simp at e;simp[ZfM,ZmY,Zbt,YA,e]
end Gn
namespace IV
open PySem L2
section
variable {U:Tb}{S:Ev}{h h1 h2 h3:Hd}
def Zj0(p:ev U o S h=.ok (.ref i) h1)(l:h1[i]? = Wn (.lst ys))(q:evs U es S h1=.ok xs h2)(e:Zbz m (.ref i) xs h2=r):ev U (.meth m o es) S h=r:=by rw[Zo9,p,Zk,ZkH l,if_pos rfl,q];exact e
def Zdk(q:ev U e S h=.ok d h1):xs1 U (.drp e) S h=.ok (.nx,S) h1:=by rw[ZnZ,q];rfl
def ZAe(p:ev U o S h=.ok (.ref i) h1)(l:h1[i]? = Wn (.ins C fs))(f:fs.lookup m=Wo)(q:evs U es S h1=.ok xs h2)(e:U.C (mnm C m) (.ref i::xs) h2=r):ev U (.mcl C m o es) S h=r:=by rw[ZxS,p,Zk,show Z8 (.ref i) h1=Wn (C,fs) by simp[Z8,l]];simp only[f,and_self,if_true,q];exact e
def ZfR(p:evi U it S h=.ok w h1)(q:ZG w.src g (tsto U c) (ev U e) w.xs (Zhy js S) [] h1=.ok xs h2):ev U (.comp NC js it g c e) S h=.ok (.ref h2.length) (h2++[.lst xs]):=by rw[ZuK,p,Zk,q];rfl
def Zje(p:ev U e S h=.ok (.tup xs) h1):evi U (.pl e) S h=.ok ⟨[],xs⟩ h1:=by rw[Zsu,p];rfl
def ZbU(p:evs U es S h=.ok xs h1)(hz:xs.length<=1000):ev U (.lstl es) S h=.ok (.ref h1.length) (h1++[.lst xs]):=by rw[Zpa,p,Zk,if_pos (OE hz (by decide))];rfl
def ZZ(p:evs U es S h=.ok xs h1)(q:ZbN U.GD f xs h1=r):ev U (.blt f es) S h=r:=by rw[ZxV,p];exact q
def ZcM(e:h[i]? = Wn (.lst ys)):ZbN GD .len [.ref i] h=.ok (.int ys.length) h:=by simp only[ZbN,Zva,seqOf,lstOf,e];rfl
def Zvk(e:h[i]? = Wn (.lst ys)):ZbN GD .tup [.ref i] h=.ok (.tup ys) h:=by simp only[ZbN,Zu7,lstOf,e];rfl
def Zn4(p:ev U e S h=.ok (.ref i) h1)(l:h1[i]? = Wn (.lst ys)):tst U (.ex e) S h=.ok (!ys.isEmpty) h1:=by rw[ZqL,p,Zk,Ztc l];rfl
def Zn1(e:test S h=.ok Wp h1)(q:body S h1=.ok (.nx,ρ1) h2):Zaw test body (n+1) S h=Zaw test body n ρ1 h2:=by rw[ZbV,e,Zk,if_pos rfl,q];rfl
def Zn2(e:test S h=.ok Wq h1):Zaw test body (n+1) S h=.ok (.nx,S) h1:=by rw[ZbV,e];rfl
def ZnI(p:ev U a S h=.ok (.int x) h1)(q:ev U b S h1=.ok (.int y) h2):tst U (.ex (.cmp .Gt a b)) S h=.ok (Wr (y<x)) h2:=Z7 (Zq p q)
def Zp7(p:ev U a S h=.ok (.int x) h1)(q:ev U b S h1=.ok (.int y) h2):tst U (.ex (.cmp .Lt a b)) S h=.ok (Wr (x<y)) h2:=Z7 (Zq p q)
def Zca(b:Za4 g d S=Wn ρ1)(q:body ρ1 h=.ok (.nx,ρ2) h2):ZH [] g body (d::ds) S h=ZH [] g body ds ρ2 h2:=by rw[ZdV,b];simp only;rw[q];rfl
def Zsq(b:Za4 g d S=Wn ρ1)(q:body ρ1 h=.ok (.rt x,ρ2) h2):ZH [] g body (d::ds) S h=.ok (.rt x,ρ2) h2:=by rw[ZdV,b];simp only;rw[q];rfl
variable {c:Str}
def ZR(q:xs1 U s S h=.exc c h1):xs2 U (.cons s r) S h=.exc c h1:=by rw[xs2,q];rfl
def Zpc(q:ev U e S h=.exc c h1):xs1 U (.drp e) S h=.exc c h1:=by rw[ZnZ,q];rfl
def Zq2(q:ev U e S h=.exc c h1):xs1 U (.set (.nm i) e) S h=.exc c h1:=by rw[ZnW,q];rfl
def Zvy(q:ev U e S h=.exc c h1):xs1 U (.ret e) S h=.exc c h1:=by rw[ZnX,q];rfl
def Zkw(q:ev U e S h=.ok d h1):xs1 U (.rai c e) S h=.exc c h1:=by rw[xs1,q];rfl
def ZvV(b:Za4 g d S=Wn ρ1)(q:body ρ1 h=.exc c h2):ZH [] g body (d::ds) S h=.exc c h2:=by rw[ZdV,b];simp only;rw[q];rfl
def Zss(p:ev U a S h=.exc c h1):evs U (.cons a es) S h=.exc c h1:=by rw[Zjd,p];rfl
def ZxP(p:ev U a S h=.ok x h1)(q:evs U es S h1=.exc c h2):evs U (.cons a es) S h=.exc c h2:=by rw[Zjd,p,Zk,q];rfl
def ZAc(p:evs U es S h=.exc c h1):ev U (.tupl es) S h=.exc c h1:=by rw[Zo8,p];rfl
end
end IV
section
set_option tactic.hygienic false
set_option exponentiation.threshold 3000
namespace Gn
open PySem L2 IV
def Up(i:Nat)(h h':Hd):Prop:=h.length<=h'.length/\∀m,m<h.length->m≠i->h'[m]? = h[m]?
def Up.refl:Up i h h:=⟨Oq _,λ_ _ _=>rfl⟩
theorem Up.trans(x:Up i a b)(y:Up i b c):Up i a c:=⟨OE x.1 y.1,λm h1 h2=>(y.2 m (Ot h1 x.1) h2).trans (x.2 m h1 h2)⟩
theorem Up.set:Up i h (h.set i o):=⟨by simp,λm _ h2=>by rw[Oc (YJ h2)]⟩
def Up.app:Up i h (h++g):=⟨by simp,λm h1 _=>Oe h1⟩
def Zs{h:Hd}(e:h[i]? = Wn o):i<h.length:=(Ob.mp e).1
def Up.at{i m:Nat}(u:Up i h h')(e:h[m]? = Wn o)(ne:m≠i):h'[m]? = Wn o:=(u.2 m (Zs e) ne).trans e
def Alk(P:Pg)(f:Str)(fd:Fd):Prop:=∃ps N,ps.length=fd.ps.length/\N.length=fd.N.length/\P.tb.lookup f=Wn ⟨ps,N,fd.body⟩
def Zto(e:Alk P f fd)(hl:ds.length=fd.ps.length):run P (n+1) f ds h=Ze (xs2 ⟨P.G,P.GD,run P n,P.L⟩ fd.body (Zbt fd.N ds) h):=by obtain⟨ps,N,h1,h2,e⟩:=e;rw[Zg e (hl.trans h1.symm)];unfold Zbt;rw[h2]
def ZJ(h:-(2 ^ 128)<i)(h2:i<2 ^ 128):i.natAbs<2 ^ 2000:=by
 have:i.natAbs<2 ^ 128:=by lia
 exact Ot this (Nat.pow_le_pow_right (by decide) (by decide))
def Wl(n:Nat)(x:Str):Prop:=Yo x=Wp/\x.length<=n
noncomputable def dep:T->Nat
 |.num _|.name _=>0
 |.fn _ e|.rcc _ _ e=>dep e+1
 |.call f a=>max (dep f) (dep a)+1
 |.iff c t e=>max (dep c) (max (dep t) (dep e))+1
 |.op _ a b=>max (dep a) (dep b)+1
def at4(k:Int)(h0:0<=k)(h4:k<4):∃v,atI [D.int a,.int b,.int c,.int d] k=Wn (.int v)/\(v=a\/v=b\/v=c\/v=d):=by
 have:k=0\/k=1\/k=2\/k=3:=by lia
 rcases this with rfl|rfl|rfl|rfl
 . exact⟨a,by simp,.inl rfl⟩
 . exact⟨b,by simp,.inr (.inl rfl)⟩
 . exact⟨c,by simp,.inr (.inr (.inl rfl))⟩
 . exact⟨d,by simp,.inr (.inr (.inr rfl))⟩
noncomputable def ZF:Str:=O "abcdefghijklmnopqrstuvwxyz"
def Zmk:ZF.length=26:=by decide +kernel
def ZnF:Yo ZF=Wp:=by decide +kernel
noncomputable def ltr(k:Int):Nat:=ZF.cps.toList.getD k.toNat 0
def lt1(k:Int):Str:=⟨#[ltr k]⟩
def Zxr(k:Int)(h0:0<=k)(h1:k<26):Zfw GD (.str ZF) (.int k) h=.ok (.str (lt1 k)) h/\Wl 1 (lt1 k):=by
 obtain⟨m,rfl⟩:∃m:Nat,k=m:=⟨k.toNat,by lia⟩
 have hl:ZF.cps.toList.length=26:=by decide +kernel
 have hm:m<ZF.cps.toList.length:=by lia
 have el:ltr m=ZF.cps.toList[m]:=by show ZF.cps.toList.getD (m:Int).toNat 0=_;rw[Int.toNat_natCast,List.getD_eq_getElem?_getD,Og hm];rfl
 have e:atI ZF.cps.toList (m:Int)=Wn ZF.cps.toList[m]:=by rw[IV.ZaW,Og hm]
 unfold lt1;rw[el];refine⟨?_,Znv ZnF (List.getElem_mem hm),by show(#[ZF.cps.toList[m]]:Array Nat).size<=1;simp⟩;have q:Zfw GD (.str ZF) (.int (m:Int)) h=if ZF.length<=sizeLine then R.ofO ((atI ZF.cps.toList (m:Int)).map λc=>.str ⟨#[c]⟩) h else .bad:=rfl;rw[q,if_pos (by rw[Zmk,YA];decide),e];rfl
def len_cat{x y:Str}:(x++y).length=x.length+y.length:=by show(x.cps++y.cps).size=_;rw[Array.size_append];rfl
def ZuT{x y:Str}(hx:Wl a x)(hy:Wl b y)(hz:a+b<=1000):opB .Add (.str x) (.str y) h=.ok (.str (x++y)) h/\Wl (a+b) (x++y):=by have hl:(x++y).length=x.length+y.length:=len_cat;refine⟨if_pos (by rw[YA];have:=hx.2;have:=hy.2;lia),Zky hx.1 hy.1,by rw[hl];have:=hx.2;have:=hy.2;lia⟩
def in4:opC GD .In (.str x) (.tup [.str (O "fn"),.str (O "rec"),.str (O "call"),.str (O "if")]) h=.ok (.bl (Wr (x∈[O "fn",O "rec",O "call",O "if"]))) h:=Zfx (ss:=[O "fn",O "rec",O "call",O "if"])
def Zvz(hx:Wl m x)(hm:m<=1000):opB .Mult (.str (O "q")) (.int x.length) h=.ok (.str (Zgu (O "q") x.length)) h/\Wl m (Zgu (O "q") x.length):=by
 have hq:(O "q").length=1:=by decide +kernel
 have:=hx.2;refine⟨if_pos ⟨by lia,by lia,by rw[hq];decide⟩,ZrQ (by decide +kernel) _,?_⟩;rw[Zfr,hq]
 lia
def nmQ(w:Str):Str:=if w∈[O "fn",O "rec",O "call",O "if"]then Zgu (O "q") w.length else w
def Zxv:∀k∈[[102,110],[114,101,99],[99,97,108,108],[105,102]],∀l∈[[102,110],[114,101,99],[99,97,108,108],[105,102],YI k.length 113],k=l\/k.length≠l.length\/∀i,i<4->∃j,j<4/\j≠i/\k[j]?≠l[j]? := by decide +kernel
def ZoT(ne:x≠y)(a:List Nat)(h:a++x::b∈[[102,110],[114,101,99],[99,97,108,108],[105,102]]):a++y::b ∉ [[102,110],[114,101,99],[99,97,108,108],[105,102]]/\a++y::b≠YI (a++x::b).length 113:=by
 have l4:(a++x::b).length<=4:=by
  have:∀k∈[[102,110],[114,101,99],[99,97,108,108],[105,102]],k.length<=4:=by decide
  exact this _ h
 have sl:(a++x::b).length=(a++y::b).length:=by simp
 have no:∀l∈[[102,110],[114,101,99],[99,97,108,108],[105,102],YI (a++x::b).length 113],a++y::b≠l:=λl hl e=>by
  rcases Zxv _ h l hl with q|q|q
  . rw[<- e]at q;exact ne (List.cons.inj (List.append_cancel_left q)).1
  . exact q (by rw[<- e];exact sl)
  . obtain⟨j,_,nj,d⟩:=q a.length (by simp at l4;lia);rw[<- e]at d;rcases Nat.lt_or_ge j a.length with z|z
    . exact d (by rw[Oe z,Oe z])
    . rw[Om z,Om z]at d;obtain⟨m,hm⟩:∃m,j - a.length=m+1:=⟨j - a.length - 1,by lia⟩
      rw[hm]at d;exact d rfl
 refine⟨λm=>no _ (Yq [YI (a++x::b).length 113] m) rfl,no _ (Ov [[102,110],[114,101,99],[99,97,108,108],[105,102]] (Ox.mpr rfl))⟩
def Zmq:w∈[O "fn",O "rec",O "call",O "if"]↔w.cps.toList∈[[102,110],[114,101,99],[99,97,108,108],[105,102]]:=by
 have e:[[102,110],[114,101,99],[99,97,108,108],[105,102]]=[O "fn",O "rec",O "call",O "if"].map (·.cps.toList):=by decide +kernel
 rw[e];refine⟨λh=>List.mem_map_of_mem h,λh=>?_⟩;obtain⟨v,hv,q⟩:=List.mem_map.mp h;have:v=w:=by obtain⟨⟨v⟩⟩:=v;obtain⟨⟨w⟩⟩:=w;cases q;rfl
 exact this ▸ hv
def Zfq:∀n,(Zgu (O "q") n).cps.toList=YI n 113
 |n=>by
  have:∀(n:Nat) (a:Array Nat),((YI n (O "q").cps).foldl (·++·) a).toList=a.toList++YI n 113:=by
   intro n;induction n with
   |zero=>intro a;simp
   |succ n ih=>intro a;rw[List.replicate_succ,Wi,ih,Array.toList_append,Oz,List.replicate_succ];rfl
  have q:=this n #[];simpa[Zgu]using q
def nq(hv:v.cps.toList=a++x::b)(hw:w.cps.toList=a++y::b)(ne:x≠y):nmQ v≠nmQ w:=by
 have hl:v.length=(a++x::b).length/\w.length=(a++y::b).length:=by rw[<- hv,<- hw];exact⟨by simp[Str.length],by simp[Str.length]⟩
 unfold nmQ;intro e;have e':=congrArg (·.cps.toList) e;simp only[Zmq]at e';split at e'
 . rename_i kv;rw[hv]at kv;obtain⟨k1,k2⟩:=ZoT ne a kv;rw[if_neg (by rw[hw];exact k1),Zfq,hw,hl.1]at e';exact k2 e'.symm
 . split at e'
   . rename_i kw;rw[hw]at kw;obtain⟨k1,k2⟩:=ZoT (YJ ne) a kw;rw[Zfq,hv,hl.2]at e';exact k2 e'
   . rw[hv,hw]at e';have:=List.append_cancel_left e';exact ne (List.cons.inj this).1
def ZoJ(w:Str):(nmQ w).length=w.length:=by
 unfold nmQ;split
 . rw[Zfr,show(O "q").length=1 by decide +kernel,Nat.mul_one]
 . rfl
def Zup:∀i j:Fin 26,ltr (i.val:Int)=ltr (j.val:Int)->i=j:=by decide +kernel
end Gn
end
namespace Gn
open PySem L2 IV
section
noncomputable def Zz5:T->List D
 |.num n=>[.str (O "num"),.int n]
 |.name x=>[.str (O "name"),.str x]
 |.fn x _=>[.str (O "fn"),.str x]
 |.rcc f x _=>[.str (O "rec"),.str f,.str x]
 |.call _ _=>[.str (O "call")]
 |.iff _ _ _=>[.str (O "if")]
 |.op w _ _=>[.str w.s]
def ZBI(t:T):t.d=.tup (Zz5 t++t.parts.map T.d):=by cases t<;>rfl
noncomputable def ZcD:D->Bool
 |.str _|.int _=>Wp
 |_=>Wq
def Zmy(hf:ZcD d=Wp):ZbN GD .isi [d,.ty "tuple"] h=.ok (.bl Wq) h:=by
 cases d with
 |str x=>rfl
 |int x=>rfl
 |_=>cases hf
def Zuz:ZbN GD .isi [.tup xs,.ty "tuple"] h=.ok (.bl Wp) h:=rfl
abbrev isT:Tx:=.ex (.blt .isi (.c (.v 0) (.c (.cst (.ty "tuple")) .n)))
theorem Ze4{U:Tb}{acc rest:List D}:∀ds:List D,(∀d∈ds,ZcD d=Wp)->acc.length<sizeLine->ZG [] (.nm 0) (tsto U (Wn isT)) (ev U e) (ds++rest) [Wo] acc h=ZG [] (.nm 0) (tsto U (Wn isT)) (ev U e) rest [Wo] acc h
 |[],_,_=>rfl
 |d::ds,hd,hz=>by have:=Zmy (GD:=U.GD) (h:=h) (hd d (by simp));rw[List.cons_append,Z4];simp[Wk.stays,hz,this];exact Ze4 ds (λx hx=>hd x (by simp[hx])) hz
theorem Ze3{U:Tb}{f:T->Int}:∀(ts:List T) (acc:List D) (h:Hd),(∀t∈ts,∀h,∃g,ev U e [Wn t.d] h=.ok (.int (f t)) (h++g))->acc.length+ts.length<=1000->∃g,ZG [] (.nm 0) (tsto U (Wn isT)) (ev U e) (ts.map T.d) [Wo] acc h=.ok (acc++ts.map λt=>.int (f t)) (h++g)
 |[],acc,h,_,_=>⟨[],by simp[ZG,Wk.stays]⟩
 |t::ts,acc,h,ht,hz=>by
  simp only[Os]at hz;obtain⟨g1,e1⟩:=ht t (by simp) h;obtain⟨g2,e2⟩:=Ze3 (U:=U) (e:=e) (f:=f) ts (acc++[.int (f t)]) (h++g1) (λx hx=>ht x (by simp[hx])) (by simp;lia);refine⟨g1++g2,?_⟩;have hz2:acc.length<sizeLine:=by rw[YA];lia
  have it:ZbN U.GD .isi [t.d,.ty "tuple"] h=.ok (.bl Wp) h:=by rw[ZBI];exact Zuz
  rw[Op,Z4];simp[Wk.stays,hz2,it,e1,e2]
theorem ints_map(f:T->Int):∀ts:List T,intsOf (ts.map λs=>D.int (f s))=Wn (ts.map f)
 |[]=>rfl
 |t::ts=>by rw[Op,intsOf,ints_map f ts];rfl
variable {P:Pg}
def Ztl(t:T):(t.size:Int)=1+(t.parts.map λs=>(s.size:Int)).sum:=by
 unfold T.size;rw[T.places_parts];have:∀ts:List T,((ts.flatMap T.places).length:Int)=(ts.map λs=>(s.places.length:Int)).sum:=by
  intro ts;induction ts with
  |nil=>rfl
  |cons t ts ih=>rw[List.flatMap_cons,OA,Op,OI,<- ih];lia
 rw[Os,<- this]
 lia
def Zf{t s:T}(hs:s∈t.parts):dep s<dep t:=by
 cases t<;>simp[T.parts]at hs<;>simp only[dep]
 . subst hs;lia
 . subst hs;lia
 . rcases hs with rfl|rfl<;>lia
 . rcases hs with rfl|rfl|rfl<;>lia
 . rcases hs with rfl|rfl<;>lia
end
section
variable {P:Pg}
def max2(x y:Nat):(if (1+(y:Int)) > 1+x then 1+(y:Int)else 1+x)=((max x y+1:Nat):Int):=by split<;>lia
def Zx5(t:T):Zda (t.parts.map λs=>1+(dep s:Int)) 0=dep t:=by
 cases t with
 |num n=>rfl
 |name x=>rfl
 |fn x e=>simp[T.parts,Zda,dep];lia
 |rcc f x e=>simp[T.parts,Zda,dep];lia
 |call f a=>simp only[T.parts,Zda,dep,Op,Oy,Wi,List.foldl_nil];rw[max2]
 |op w f a=>simp only[T.parts,Zda,dep,Op,Oy,Wi,List.foldl_nil];rw[max2]
 |iff c t e=>simp only[T.parts,Zda,dep,Op,Oy,Wi,List.foldl_nil];rw[max2];split<;>lia
end
end Gn
namespace IV
open PySem L2
mutual
def D.pure:D->Bool
 |.non|.bl _|.int _|.str _=>Wp
 |.tup xs=>D.pures xs
 |_=>Wq
def D.pures:List D->Bool
 |[]=>Wp
 |x::xs=>D.pure x&&D.pures xs
end
mutual
def D.dp:D->Nat
 |.tup xs=>D.dps xs+1
 |_=>0
def D.dps:List D->Nat
 |[]=>0
 |x::xs=>max (D.dp x) (D.dps xs)
end
mutual
theorem ZtA:∀d:D,d.pure=Wp->∃p,D.py rd d=Wn p/\p.depth<=d.dp/\YN p p=Wp
 |.non,_=>⟨.none,rfl,Oq _,rfl⟩
 |.bl b,_=>⟨.bool b,rfl,Oq _,by simp[YN]⟩
 |.int b,_=>⟨.int b,rfl,Oq _,by simp[YN]⟩
 |.str b,_=>⟨.str b,rfl,Oq _,by simp[YN]⟩
 |.tup xs,h=>by
  obtain⟨ps,e1,e2,e3⟩:=pys_same (rd:=rd) xs (by simpa[D.pure]using h);refine⟨.tuple ps,by simp[D.py,e1],?_,?_⟩
  . simp only[PyData.depth,D.dp];lia
  . simpa[YN]using e3
 |.ref _,h=>by cases h
 |.ty _,h=>by cases h
 |.ro _,h=>by cases h
 |.kd _,h=>by cases h
theorem pys_same:∀ds:List D,D.pures ds=Wp->∃ps,D.pys rd ds=Wn ps/\PyData.depthAll ps<=D.dps ds/\PyData.eqvAll ps ps=Wp
 |[],_=>⟨[],rfl,Oq _,by simp[PyData.eqvAll]⟩
 |x::xs,h=>by
  rw[D.pures,Oa]at h;obtain⟨p,a1,a2,a3⟩:=ZtA (rd:=rd) x h.1;obtain⟨ps,b1,b2,b3⟩:=pys_same (rd:=rd) xs h.2;refine⟨p::ps,by simp[D.pys,a1,b1],?_,?_⟩
  . simp only[PyData.depthAll,D.dps];lia
  . simp[PyData.eqvAll,a3,b3]
end
end IV
namespace Tm
open PySem L2 IV
def ZX:Sxs:=(.c (.iff (.ex (.cmp .NotIn (.ix (.v 0) (.ci 0)) (.glo (O "FORMS")))) (.c (.ret (.tupl .n)) .n) .n) (.c (.ret (.sl (.v 0) (Wn (.ci 1)) (Wn (.bin .Add (.ci 1) (.ix (.ix (.glo (O "FORMS")) (.ix (.v 0) (.ci 0))) (.ci 0)))))) .n))
def ZaU:Fd:=⟨[(O "E")],[(O "E")],ZX⟩
section
variable {P:Pg}{h:Hd}
section
variable {w:Wd}
@[simp] theorem ZAK:(w.s=O "num")↔False:=by cases w<;>simp[Wd.s]
@[simp] theorem ZAA:(w.s=O "name")↔False:=by cases w<;>simp[Wd.s]
@[simp] theorem ZAJ:(w.s=O "rec")↔False:=by cases w<;>simp[Wd.s]
@[simp] theorem ZqC:ZaL Gn.Zbj (.inr w.s)=Wn (.tup [.int 0,.int 2]):=by cases w<;>rfl
end
noncomputable def bnd:T->List Str
 |.fn x _=>[x]
 |.rcc f x _=>[f,x]
 |_=>[]
noncomputable def fr:T->List D
 |.num n=>[.str (O "num"),.int n]
 |.name x=>[.str (O "name"),.str x]
 |.fn x _=>[.str (O "fn"),.str x]
 |.rcc f x _=>[.str (O "rec"),.str f,.str x]
 |.call _ _=>[.str (O "call")]
 |.iff _ _ _=>[.str (O "if")]
 |.op w _ _=>[.str w.s]
def ZBH(t:T):t.d=.tup (fr t++t.parts.map T.d):=by cases t<;>rfl
def ZvC(H:Gn.Tre P)(hb:P.tb.lookup (O "bound_names")=Wn ZaU)(n:Nat)(t:T)(h:Hd):run P (n+1) (O "bound_names") [t.d] h=.ok (.tup ((bnd t).map .str)) h:=by
 have no:∀(w:Str) (ds:List D),ZaL Gn.Zbj (.inr w)=Wo->run P (n+1) (O "bound_names") [.tup (.str w::ds)] h=.ok (.tup []) h:=λw ds e=>by rw[Zg hb rfl];show Ze (xs2 (P.tbl n) ZX [Wn (.tup (.str w::ds))] h)=_;rw[ZX,Zb ((Zt (Gn.Zfz H ⟨rfl,rfl⟩ Gn.Zmv e)).trans (Zb (Zh (d:=.tup []) rfl)))];rfl
 have yes:∀(w:Str) (ds:List D) (a b:Int),ZaL Gn.Zbj (.inr w)=Wn (.tup [.int a,.int b])->run P (n+1) (O "bound_names") [.tup (.str w::ds)] h=.ok (.tup (cutD (.str w::ds) (Wn 1) (Wn (1+a)))) h:=λw ds a b e=>by rw[Zg hb rfl];show Ze (xs2 (P.tbl n) ZX [Wn (.tup (.str w::ds))] h)=_;have q:=Gn.Zsp H (U:=P.tbl n) ⟨rfl,rfl⟩ (ds:=ds) (h:=h) e;have r:ev (P.tbl n) (.sl (.var 0) (Wn (.ci 1)) (Wn (.bin .Add (.ci 1) (.ix (.ix (.glo (O "FORMS")) (.ix (.var 0) (.ci 0))) (.ci 0))))) [Wn (.tup (.str w::ds))] h=.ok (.tup (cutD (.str w::ds) (Wn 1) (Wn (1+a)))) h:=(Gn.Zoe (a:=.var 0) (x:=.tup (.str w::ds)) rfl rfl (Gn.Zlv q)).trans rfl;rw[ZX,Za ((Zi (Gn.Zfz H ⟨rfl,rfl⟩ Gn.Zmv e)).trans rfl),Zb (Zh r)];rfl
 cases t with
 |num z=>exact no (O "num") _ rfl
 |name x=>exact no (O "name") _ rfl
 |fn x e=>exact yes (O "fn") _ 1 1 rfl
 |rcc f x e=>exact yes (O "rec") _ 2 1 rfl
 |call f a=>exact yes (O "call") _ 0 2 rfl
 |iff c a b=>exact yes (O "if") _ 0 3 rfl
 |op w a b=>exact yes w.s _ 0 2 ZqC
end
end Tm
namespace Fr
open PySem L2 IV Tm
noncomputable def lf:T->List Str
 |.num _=>[]
 |.name x=>[x]
 |.fn x e=>(lf e).filter λy=>Wr (y≠x)
 |.rcc f x e=>(lf e).filter λy=>Wr (y≠f/\y≠x)
 |.call f a=>lf f++lf a
 |.iff c a b=>lf c++(lf a++lf b)
 |.op _ a b=>lf a++lf b
def Fp(p:T×List Str)(x:Str):Prop:=x∈lf p.1/\x ∉ p.2
def ben(p:T×List Str):List (T×List Str):=p.1.parts.map λs=>(s,p.2++bnd p.1)
noncomputable def own(p:T×List Str):Option Str:=match p.1 with
 |.name x=>if x∈p.2 then Wo else Wn x
 |_=>Wo
def Zlq(p:T×List Str)(x:Str):Fp p x↔own p=Wn x\/∃q∈ben p,Fp q x:=by
 obtain⟨t,b⟩:=p;cases t with
 |num n=>simp[Fp,lf,own,ben,T.parts]
 |name y=>
  by_cases h:y∈b
  . simp only[Fp,lf,own,ben,T.parts,if_pos h,Ox,Oy];exact⟨λ⟨e,n⟩=>absurd (e ▸ h) n,λz=>by rcases z with z|⟨q,hq,_⟩;cases z;cases hq⟩
  . simp only[Fp,lf,own,ben,T.parts,if_neg h,Ox,Oy];exact⟨λ⟨e,n⟩=>.inl (by rw[e]),λz=>by rcases z with z|⟨q,hq,_⟩;cases z;exact⟨rfl,h⟩;cases hq⟩
 |fn y e=>simp[Fp,lf,own,ben,T.parts,bnd];exact⟨λ⟨⟨a,b⟩,c⟩=>⟨a,c,b⟩,λ⟨a,c,b⟩=>⟨⟨a,b⟩,c⟩⟩
 |rcc f y e=>simp[Fp,lf,own,ben,T.parts,bnd];exact⟨λ⟨⟨a,b,c⟩,d⟩=>⟨a,d,b,c⟩,λ⟨a,d,b,c⟩=>⟨⟨a,b,c⟩,d⟩⟩
 |call f a=>simp[Fp,lf,own,ben,T.parts,bnd,or_and_right,exists_or,and_assoc]
 |iff c a d=>simp[Fp,lf,own,ben,T.parts,bnd,or_and_right,exists_or,and_assoc]
 |op w f a=>simp[Fp,lf,own,ben,T.parts,bnd,or_and_right,exists_or,and_assoc]
def ZnE(L:List (T×List Str))(x:Str):(∃p∈L,Fp p x)↔(∃p∈L,own p=Wn x)\/∃q∈L.flatMap ben,Fp q x:=by
 constructor
 . rintro ⟨p,hp,h⟩;rcases(Zlq p x).mp h with h|⟨q,hq,h⟩
   . exact .inl ⟨p,hp,h⟩
   . exact .inr ⟨q,List.mem_flatMap.mpr ⟨p,hp,hq⟩,h⟩
 . rintro (⟨p,hp,h⟩|⟨q,hq,h⟩)
   . exact⟨p,hp,(Zlq p x).mpr (.inl h)⟩
   . obtain⟨p,hp,hq⟩:=List.mem_flatMap.mp hq;exact⟨p,hp,(Zlq p x).mpr (.inr ⟨q,hq,h⟩)⟩
end Fr
namespace K02L
open PySem L2 IV
def ZhX:Tx:=(.ex (.cmp .NotIn (.ix (.v 0) (.ci 0)) (.glo (O "FORMS"))))
def Zfi:Sx:=(.ret (.tupl .n))
def ZhR:Sxs:=(.c Zfi .n)
def Zif:Sx:=.iff ZhX ZhR .n
def Zie:Sx:=(.ret (.sl (.v 0) (Wn (.ci 1)) (Wn (.bin .Add (.ci 1) (.ix (.ix (.glo (O "FORMS")) (.ix (.v 0) (.ci 0))) (.ci 0))))))
def ZX:Sxs:=(.c Zif (.c Zie .n))
def ZaU:Fd:=⟨[(O "E")],[(O "E")],ZX⟩
def ZdK:Sx:=(.set (.nm 1) (.dictl .n))
def ZdJ:Sx:=(.set (.nm 2) (.lstl (.c (.tupl (.c (.v 0) (.c (.tupl .n) .n))) .n)))
def Zdo:Tx:=(.ex (.v 2))
def Zcu:Sx:=(.set (.nm 3) (.lstl .n))
def ZgE:Ix:=(.pl (.v 2))
def ZbL:Tx:=(.ands (.c (.ex (.cmp .Eq (.ix (.v 4) (.ci 0)) (.Ci_ "name"))) (.one (.ex (.cmp .NotIn (.ix (.v 4) (.ci 1)) (.v 5))))))
def Zc3:Sx:=(.put (.v 1) (.ix (.v 4) (.ci 1)) (.cst (.bl Wp)))
def Ze0:Sxs:=(.c Zc3 .n)
def Zay:Sx:=.iff ZbL Ze0 .n
def ZbR:Sx:=(.set (.nm 6) (.bin .Add (.v 5) (.call (O "bound_names") (.c (.v 4) .n))))
def ZbQ:Sx:=(.drp (.meth .ext (.v 3) (.c (.comp [(O "part"),(O "inner")] [Wo,Wn 6] (.pl (.call (O "parts_of") (.c (.v 4) .n))) (.nm 0) Wo (.tupl (.c (.v 0) (.c (.v 1) .n)))) .n)))
def ZaN:Sxs:=(.c Zay (.c ZbR (.c ZbQ .n)))
def Zhd:Sx:=.forr (.two 4 5) ZgE ZaN
def Zhc:Sx:=(.set (.nm 2) (.v 3))
def Zde:Sxs:=(.c Zcu (.c Zhd (.c Zhc .n)))
def ZdI:Sx:=.whl Zdo Zde
def Zjy:Sx:=(.ret (.blt .srt (.c (.v 1) .n)))
def Zgk:Sxs:=(.c ZdK (.c ZdJ (.c ZdI (.c Zjy .n))))
def ZfP:Fd:=⟨[(O "E")],[(O "E"),(O "found"),(O "level"),(O "beneath"),(O "place"),(O "bound"),(O "inner")],Zgk⟩
def ZeF:Sx:=(.set (.nm 2) (.bin .Mod (.bin .Mult (.bin .Add (.bin .Mod (.v 0) (.ci 1000003)) (.ci 1)) (.bin .Add (.ci 48271) (.bin .Mult (.bin .Mult (.ci 2) (.v 1)) (.v 1)))) (.ci 2147483647)))
def Zkm:Sx:=(.ret (.bin .Mod (.bin .Mult (.v 2) (.bin .Add (.bin .Mod (.v 2) (.ci 65537)) (.v 1))) (.ci 2147483629)))
def ZhF:Sxs:=(.c ZeF (.c Zkm .n))
def Zhs:Fd:=⟨[(O "_law_cell"),(O "_law_k")],[(O "_law_cell"),(O "_law_k"),(O "_law_one")],ZhF⟩
def Zga:Sx:=(.set (.nm 1) (.ix (.v 0) (.ci 1)))
def Zf9:Sx:=(.put (.v 0) (.ci 1) (.bin .Add (.v 1) (.ci 1)))
def ZfW:Tx:=(.ex (.cmp .Lt (.v 1) (.blt .len (.c (.ix (.v 0) (.ci 0)) .n))))
def Zh4:Sx:=(.ret (.ix (.ix (.v 0) (.ci 0)) (.v 1)))
def Zlj:Sxs:=(.c Zh4 .n)
def ZlR:Sx:=.iff ZfW Zlj .n
def ZlQ:Sx:=(.ret (.ci 0))
def Ze9:Sxs:=(.c Zga (.c Zf9 (.c ZlR (.c ZlQ .n))))
def Zi9:Fd:=⟨[(O "_law_state")],[(O "_law_state"),(O "_law_at")],Ze9⟩
def Zkl:Sx:=(.set (.nm 1) (.Ci_ "abcdefghijklmnopqrstuvwxyz"))
def ZeE:Sx:=(.set (.nm 2) (.bin .Add (.ci 1) (.bin .Mod (.v 0) (.ci 8))))
def ZeD:Sx:=(.set (.nm 3) (.bin .Mod (.bin .FloorDiv (.v 0) (.ci 8)) (.v 2)))
def ZeC:Sx:=(.set (.nm 4) (.lstl .n))
def ZjX:Ix:=(.rng (.ci 5))
def Zh6:Sx:=(.set (.nm 6) (.Ci_ ""))
def ZcP:Ix:=(.rng (.v 2))
def Zgb:Sx:=(.set (.nm 6) (.bin .Add (.v 6) (.ix (.v 1) (.bin .Mod (.bin .Add (.call (O "_law_mixed") (.c (.v 0) (.c (.v 7) .n))) (.bin .Mult (.bin .Mult (.v 5) (.ci 4)) (.blt .int (.c (.cmp .Eq (.v 7) (.v 3)) .n)))) (.ci 26)))))
def ZcN:Sxs:=(.c Zgb .n)
def ZcZ:Sx:=.forr (.nm 7) ZcP ZcN
def ZcU:Tx:=(.ex (.cmp .In (.v 6) (.tupl (.c (.Ci_ "fn") (.c (.Ci_ "rec") (.c (.Ci_ "call") (.c (.Ci_ "if") .n)))))))
def Zfa:Sx:=(.set (.nm 6) (.bin .Mult (.Ci_ "q") (.v 2)))
def ZhN:Sxs:=(.c Zfa .n)
def ZcY:Sx:=.iff ZcU ZhN .n
def Zh5:Sx:=(.drp (.meth .app (.v 4) (.c (.v 6) .n)))
def Zd9:Sxs:=(.c Zh6 (.c ZcZ (.c ZcY (.c Zh5 .n))))
def ZeB:Sx:=.forr (.nm 5) ZjX Zd9
def Zkk:Sx:=(.ret (.v 4))
def ZdB:Sxs:=(.c Zkl (.c ZeE (.c ZeD (.c ZeC (.c ZeB (.c Zkk .n))))))
def Za0:Fd:=⟨[(O "_law_cell")],[(O "_law_cell"),(O "_law_letters"),(O "_law_size"),(O "_law_at"),(O "_law_found"),(O "_law_k"),(O "_law_text"),(O "_law_j")],ZdB⟩
def ZeN:Sx:=(.set (.nm 3) (.call (O "_law_next") (.c (.v 0) .n)))
def ZeM:Sx:=(.set (.nm 4) (.bin .FloorDiv (.v 3) (.ci 11)))
def Zen:Tx:=(.ors (.c (.ex (.cmp .Lt (.bin .Mod (.v 3) (.ci 11)) (.ci 2))) (.c (.ex (.cmp .Eq (.v 2) (.ci 0))) (.one (.ex (.cmp .Gt (.ix (.v 0) (.ci 1)) (.blt .len (.c (.ix (.v 0) (.ci 0)) .n))))))))
def Zcp:Tx:=(.ex (.cmp .Eq (.bin .Mod (.v 4) (.ci 3)) (.ci 0)))
def Zd1:Sx:=(.ret (.tupl (.c (.Ci_ "num") (.c (.ix (.lstl (.c (.ci 0) (.c (.ci 999999) (.c (.bin .Mod (.bin .FloorDiv (.v 4) (.ci 12)) (.ci 1000000)) (.c (.bin .Mod (.bin .FloorDiv (.v 4) (.ci 12)) (.ci 10)) .n))))) (.bin .Mod (.bin .FloorDiv (.v 4) (.ci 3)) (.ci 4))) .n))))
def Zgz:Sxs:=(.c Zd1 .n)
def Zg3:Sx:=.iff Zcp Zgz .n
def Zg2:Sx:=(.ret (.tupl (.c (.Ci_ "name") (.c (.ix (.v 1) (.bin .Mod (.bin .FloorDiv (.v 4) (.ci 3)) (.ci 5))) .n))))
def ZjP:Sxs:=(.c Zg3 (.c Zg2 .n))
def ZeL:Sx:=.iff Zen ZjP .n
def ZeK:Sx:=(.set (.nm 5) (.call (O "_law_drawn") (.c (.v 0) (.c (.v 1) (.c (.bin .Sub (.v 2) (.ci 1)) .n)))))
def Zem:Tx:=(.ors (.c (.ex (.cmp .Eq (.bin .Mod (.v 3) (.ci 11)) (.ci 2))) (.one (.ex (.cmp .Eq (.bin .Mod (.v 3) (.ci 11)) (.ci 3))))))
def Zg1:Sx:=(.ret (.tupl (.c (.Ci_ "fn") (.c (.ix (.v 1) (.bin .Mod (.v 4) (.ci 5))) (.c (.v 5) .n)))))
def ZjO:Sxs:=(.c Zg1 .n)
def ZeJ:Sx:=.iff Zem ZjO .n
def Zel:Tx:=(.ex (.cmp .Eq (.bin .Mod (.v 3) (.ci 11)) (.ci 4)))
def Zg0:Sx:=(.ret (.tupl (.c (.Ci_ "rec") (.c (.ix (.v 1) (.bin .Mod (.v 4) (.ci 5))) (.c (.ix (.v 1) (.bin .Mod (.bin .FloorDiv (.v 4) (.ci 5)) (.ci 5))) (.c (.v 5) .n))))))
def ZjN:Sxs:=(.c Zg0 .n)
def ZeI:Sx:=.iff Zel ZjN .n
def ZeH:Sx:=(.set (.nm 6) (.call (O "_law_drawn") (.c (.v 0) (.c (.v 1) (.c (.bin .Sub (.v 2) (.ci 1)) .n)))))
def Zek:Tx:=(.ex (.cmp .Eq (.bin .Mod (.v 3) (.ci 11)) (.ci 5)))
def ZgZ:Sx:=(.ret (.tupl (.c (.Ci_ "if") (.c (.v 5) (.c (.v 6) (.c (.call (O "_law_drawn") (.c (.v 0) (.c (.v 1) (.c (.bin .Sub (.v 2) (.ci 1)) .n)))) .n))))))
def ZjM:Sxs:=(.c ZgZ .n)
def ZeG:Sx:=.iff Zek ZjM .n
def Zkn:Sx:=(.ret (.tupl (.c (.ix (.lstl (.c (.Ci_ "+") (.c (.Ci_ "-") (.c (.Ci_ "*") (.c (.Ci_ "<") (.c (.Ci_ "call") .n)))))) (.bin .Sub (.bin .Mod (.v 3) (.ci 11)) (.ci 6))) (.c (.v 5) (.c (.v 6) .n)))))
def Zaf:Sxs:=(.c ZeN (.c ZeM (.c ZeL (.c ZeK (.c ZeJ (.c ZeI (.c ZeH (.c ZeG (.c Zkn .n)))))))))
def Zht:Fd:=⟨[(O "_law_state"),(O "_law_names_here"),(O "_law_room")],[(O "_law_state"),(O "_law_names_here"),(O "_law_room"),(O "_law_cell"),(O "_law_rest"),(O "_law_one"),(O "_law_other")],Zaf⟩
structure Mak0(P:Pg):Prop where
 law_mixed:P.tb.lookup (O "_law_mixed")=Wn Zhs
 law_next:P.tb.lookup (O "_law_next")=Wn Zi9
 law_names:Gn.Alk P (O "_law_names") Za0
 law_drawn:P.tb.lookup (O "_law_drawn")=Wn Zht
end K02L
namespace Fr
open PySem L2 IV Tm K02L
open Gn (dep Zf)
section
variable {P:Pg}
structure Fre(P:Pg):Prop where
 t:Gn.Tre P
 bound_names:P.tb.lookup (O "bound_names")=Wn Tm.ZaU
 free_names:P.tb.lookup (O "free_names")=Wn ZfP
noncomputable def pd(p:T×List Str):D:=.tup [p.1.d,.tup (p.2.map .str)]
noncomputable def kd(ks:List Str):List (Key×D):=ks.map λx=>(.inr x,.bl Wp)
def ad(ks:List Str)(x:Str):List Str:=if x∈ks then ks else ks++[x]
def add(ks:List Str)(p:T×List Str):List Str:=match own p with
 |some x=>ad ks x
 |none=>ks
def ZxB(ks:List Str)(x:Str):putD (kd ks) (.inr x) (.bl Wp)=kd (ad ks x):=by
 have a:((kd ks).any λkv=>Wr (kv.1=.inr x))=Wr (x∈ks):=by
  rw[Bool.eq_iff_iff];simp only[kd,List.any_eq_true,List.mem_map,decide_eq_true_eq];constructor
  . rintro ⟨_,⟨y,hy,rfl⟩,e⟩;cases e;exact hy
  . intro hx;exact⟨_,⟨x,hx,rfl⟩,rfl⟩
 unfold putD ad;rw[a];by_cases hx:x∈ks
 . rw[if_pos (decide_eq_true hx),if_pos hx];unfold kd;rw[List.map_map];refine List.map_congr_left λy _=>?_;show(if (YC y:Key)=.inr x then((YC y:Key),D.bl Wp)else(.inr y,.bl Wp))=_;split<;>rfl
 . rw[if_neg (by simpa using hx),if_neg hx];simp[kd]
theorem ZoV:∀ks:List Str,ZcC (kd ks)=Wn ks
 |[]=>rfl
 |x::r=>by show(ZcC (kd r)).map _=_;rw[ZoV r];rfl
def Zyk:y∈ad ks x↔y∈ks\/x=y:=by
 unfold ad;split
 . rename_i hx;exact⟨.inl,λz=>by rcases z with z|rfl;exact z;exact hx⟩
 . simp[eq_comm]
def ZAv(n:ks.Nodup):(ad ks x).Nodup:=by
 unfold ad;split
 . exact n
 . rename_i hx;exact List.nodup_append.mpr ⟨n,by simp,λa ha b hb=>by rw[Ox.mp hb];exact λe=>hx (e ▸ ha)⟩
def Zvd:y∈add ks p↔y∈ks\/own p=Wn y:=by
 unfold add;split
 . rename_i x e;rw[Zyk,e,Option.some.injEq]
 . rename_i e;rw[e];simp
def Zyj(n:ks.Nodup):(add ks p).Nodup:=by
 unfold add;split
 . exact ZAv n
 . exact n
def ZpG:(add ks p).length<=ks.length+1:=by
 unfold add ad;split
 . split
   . lia
   . simp
 . lia
theorem Zm6:∀(L:List (T×List Str)) (ks:List Str),y∈L.foldl add ks↔y∈ks\/∃p∈L,own p=Wn y
 |[],ks=>by simp
 |p::L,ks=>by rw[Wi,Zm6 L,Zvd,or_assoc];simp
theorem ZpE:∀(L:List (T×List Str)) {ks:List Str},ks.Nodup->(L.foldl add ks).Nodup
 |[],ks,n=>n
 |p::L,ks,n=>ZpE L (Zyj n)
theorem Zm7:∀(L:List (T×List Str)) (ks:List Str),(L.foldl add ks).length<=ks.length+L.length
 |[],ks=>by simp
 |p::L,ks=>by
  have:=Zm7 L (add ks p);have:=ZpG (ks:=ks) (p:=p);rw[Wi,Os]
  lia
def Ok2(i b:Nat)(h h':Hd):Prop:=h.length<=h'.length/\∀m,m<h.length->m≠i->m≠b->h'[m]? = h[m]?
theorem Ok2.trans(x:Ok2 i b h h')(y:Ok2 i b h' h''):Ok2 i b h h'':=⟨OE x.1 y.1,λm a c d=>(y.2 m (Ot a x.1) c d).trans (x.2 m a c d)⟩
def ZvD{o i e:Ex}(p:ev U e S h=.ok x h1)(q:ev U o S h1=.ok y h2)(r:ev U i S h2=.ok z h3)(s:Zfu y z x h3=.ok () h4):xs1 U (.put o i e) S h=.ok (.nx,S) h4:=by rw[Zs7,p,Zk,q,Zk,r,Zk,s];rfl
def Zzk(e:h[i]? = Wn (.dic kvs))(hz:kvs.length<sizeLine):Zfu (.ref i) (.str x) v h=.ok () (h.set i (.dic (putD kvs (.inr x) v))):=by simp only[Zfu,e,keyOf];exact if_pos hz
def ZAa(e:h[i]? = Wn (.lst ys))(l:h[j]? = Wn (.lst zs))(hz:ys.length+zs.length<=sizeLine):Zbz .ext (.ref i) [.ref j] h=.ok .non (h.set i (.lst (ys++zs))):=by simp only[Zbz,e,ZhJ,Zun,l];exact if_pos hz
noncomputable def vf(E:Option D)(i j:Nat)(b x y z:Option D):Ev:=[E,Wn (.ref i),Wn (.ref j),b,x,y,z]
def Zqd:Zfw GD (.tup (x::xs)) (.int 0) h=.ok x h:=by simp
def fn1{U:Tb}{p:T×List Str}(hi:h[i]? = Wn (.dic (kd ks)))(hk:ks.length<1000000):∃h1,xs1 U Zay (vf E i j b (Wn p.1.d) (Wn (.tup (p.2.map .str))) z) h=.ok (.nx,vf E i j b (Wn p.1.d) (Wn (.tup (p.2.map .str))) z) h1/\h1.length=h.length/\(∀m,m≠i->h1[m]? = h[m]?)/\h1[i]? = Wn (.dic (kd (add ks p))):=by
 obtain⟨t,bs⟩:=p;have no:∀w ds,t.d=.tup (.str w::ds)->w≠O "name" -> own (t,bs)=Wo->∃h1,xs1 U Zay (vf E i j b (Wn t.d) (Wn (.tup (bs.map .str))) z) h=.ok (.nx,vf E i j b (Wn t.d) (Wn (.tup (bs.map .str))) z) h1/\h1.length=h.length/\(∀m,m≠i->h1[m]? = h[m]?)/\h1[i]? = Wn (.dic (kd (add ks (t,bs)))):=λw ds e ne o=>by refine⟨h,(Zi (Zm5 (Zr (ZhU ((ZK rfl rfl).trans (by rw[e];exact Zqd)) rfl) (decide_eq_false ne)))).trans rfl,rfl,λ_ _=>rfl,?_⟩;rw[hi,add,o]
 cases t with
 |name x=>
  have t1:tst U ZbL (vf E i j b (Wn (T.name x).d) (Wn (.tup (bs.map .str))) z) h=.ok (!Wr (x∈bs)) h:=ZkW (Zr (ZhU (x:=O "name") rfl rfl) (decide_eq_true rfl)) (Z7 ((Zq (x:=.str x) (y:=.tup (bs.map .str)) rfl rfl).trans ZcL));by_cases hx:x∈bs
  . refine⟨h,(Zi (Zr t1 (by simp[hx]))).trans rfl,rfl,λ_ _=>rfl,?_⟩;rw[hi];simp[add,own,hx]
  . refine⟨h.set i (.dic (kd (ad ks x))),(Zt (Zr t1 (by simp[hx]))).trans ((Za (ZvD (x:=.bl Wp) (y:=.ref i) (z:=.str x) rfl rfl rfl ((Zzk hi (by rw[YA];simp[kd];lia)).trans (by rw[ZxB])))).trans rfl),by simp,λm hm=>by rw[Oc (YJ hm)],?_⟩;rw[Ol (Gn.Zs hi)];simp[add,own,hx]
 |num n=>exact no _ _ rfl (by simp) rfl
 |fn x e=>exact no _ _ rfl (by simp) rfl
 |rcc f x e=>exact no _ _ rfl (by simp) rfl
 |call f a=>exact no _ _ rfl (by simp) rfl
 |iff c a d=>exact no _ _ rfl (by simp) rfl
 |op w a d=>exact no _ _ rfl (by simp) rfl
theorem Zv5{U:Tb}{inn:List D}:∀(ts:List T) (acc:List D),acc.length+ts.length<=1000->ZG [] (.nm 0) (tsto U Wo) (ev U (.tupl (.cons (.var 0) (.cons (.var 1) .nil)))) (ts.map T.d) [Wo,Wn (.tup inn)] acc h=.ok (acc++(ts.map λs=>D.tup [s.d,.tup inn])) h
 |[],acc,_=>by simp[ZG,Wk.stays]
 |x::xs,acc,hz=>by
  have ih:=Zv5 (U:=U) (h:=h) (inn:=inn) xs (acc++[.tup [x.d,.tup inn]]) (by simp at hz ⊢;lia);have hl:acc.length<16777216:=by simp at hz;lia
  rw[Op,Z4];simp[Wk.stays,hl,YA];simpa using ih
def Zjp(t:T):(bnd t).length<=2/\t.parts.length<=3:=by cases t<;>simp[bnd,T.parts]
def fn3(H:Fre P)(n:Nat){p:T×List Str}{h:Hd}{B_:List D}(hi:h[i]? = Wn (.dic (kd ks)))(hb:h[b]? = Wn (.lst B_))(ne:i≠b)(hk:ks.length<1000000)(hB:B_.length<=9000000)(hp:p.2.length<=10000):∃h',xs2 (P.tbl (n+1)) ZaN (vf E i j (Wn (.ref b)) (Wn p.1.d) (Wn (.tup (p.2.map .str))) z) h=.ok (.nx,vf E i j (Wn (.ref b)) (Wn p.1.d) (Wn (.tup (p.2.map .str))) (Wn (.tup ((p.2++bnd p.1).map .str)))) h'/\Ok2 i b h h'/\h'[i]? = Wn (.dic (kd (add ks p)))/\h'[b]? = Wn (.lst (B_++(ben p).map pd)):=by
 obtain⟨h1,e1,l1,s1,d1⟩:=fn1 (U:=P.tbl (n+1)) (E:=E) (j:=j) (b:=Wn (.ref b)) (z:=z) (p:=p) hi hk;have e2:=Tm.ZvC H.t H.bound_names n p.1 h1;have e3:=Gn.Zop H.t n p.1 h1;have hl:=Zjp p.1;have b1:h1[b]? = Wn (.lst B_):=(s1 b (YJ ne)).trans hb;have lb:=Gn.Zs b1;have li:=Gn.Zs d1;have x2:xs1 (P.tbl (n+1)) ZbR (vf E i j (Wn (.ref b)) (Wn p.1.d) (Wn (.tup (p.2.map .str))) z) h1=.ok (.nx,vf E i j (Wn (.ref b)) (Wn p.1.d) (Wn (.tup (p.2.map .str))) (Wn (.tup ((p.2++bnd p.1).map .str)))) h1:=by refine Zn (i:=6) ((Zc (x:=.tup (p.2.map .str)) rfl (Zj e2 rfl)).trans ?_);rw[ZoD (by rw[YA];simp;lia),List.map_append]
 have c:ZG [] (.nm 0) (tsto (P.tbl (n+1)) Wo) (ev (P.tbl (n+1)) (.tupl (.cons (.var 0) (.cons (.var 1) .nil)))) (p.1.parts.map T.d) [Wo,Wn (.tup ((p.2++bnd p.1).map .str))] [] h1=.ok ((ben p).map pd) h1:=by rw[Zv5 _ _ (by simp;lia)];simp[ben,pd,Function.comp_def]
 have x3:xs1 (P.tbl (n+1)) ZbQ (vf E i j (Wn (.ref b)) (Wn p.1.d) (Wn (.tup (p.2.map .str))) (Wn (.tup ((p.2++bnd p.1).map .str)))) h1=.ok (.nx,vf E i j (Wn (.ref b)) (Wn p.1.d) (Wn (.tup (p.2.map .str))) (Wn (.tup ((p.2++bnd p.1).map .str)))) ((h1++[DO.lst ((ben p).map pd)]).set b (DO.lst (B_++(ben p).map pd))):=Zdk (Zj0 (i:=b) rfl b1 (Zd (ZfR (Zje (Zj e3 rfl)) c) rfl) (ZAa (by rw[Oe lb];exact b1) (by simp) (by rw[YA];simp[ben];lia)))
 refine⟨_,(Za e1).trans ((Za x2).trans ((Za x3).trans rfl)),⟨by simp;lia,λm a c d=>?_⟩,?_,?_⟩
 . rw[Oc (YJ d),Oe (by lia)];exact s1 m c
 . rw[Oc (YJ ne),Oe li];exact d1
 . rw[Ol (by simp;lia)]
def ZgG(e:h[j]? = Wn (.lst L))(b:Za4 g d S=Wn ρ1)(q:body ρ1 h=.ok (.nx,ρ2) h2):ZH [(j,L)] g body (d::ds) S h=ZH [(j,L)] g body ds ρ2 h2:=by
 have:Wk.stays [(j,L)] h=Wp:=by simp[Wk.stays,e]
 rw[ZH,if_pos this,b];simp only;rw[q];rfl
def ZfL{g:Tg}{body:Ev->Hd->R (Fl×Ev)}(e:h[j]? = Wn (.lst L)):ZH [(j,L)] g body [] S h=.ok (.nx,S) h:=by
 have:Wk.stays [(j,L)] h=Wp:=by simp[Wk.stays,e]
 rw[ZH,if_pos this]
def Zjf{U:Tb}(p:ev U e S h=.ok (.ref i) h1)(l:h1[i]? = Wn (.lst ys)):evi U (.pl e) S h=.ok ⟨[(i,ys)],ys⟩ h1:=by rw[Zsu,p,Zk];simp only[Zio,l];rfl
theorem ZvX(H:Fre P)(n:Nat)(ij:j≠i)(jb:j≠b)(ib:i≠b):∀(xs:List (T×List Str)) (ks:List Str) (B_:List D) (h:Hd) (x y z:Option D),(∀p∈xs,p.2.length<=10000)->h[i]? = Wn (.dic (kd ks))->h[b]? = Wn (.lst B_)->h[j]? = Wn (.lst Ld)->ks.length+xs.length<1000000->B_.length+3 * xs.length<=9000000 ->
 ∃h' x' y' z',ZH [(j,Ld)] (.two 4 5) (xs2 (P.tbl (n+1)) ZaN) (xs.map pd) (vf E i j (Wn (.ref b)) x y z) h=.ok (.nx,vf E i j (Wn (.ref b)) x' y' z') h'/\Ok2 i b h h'/\h'[i]? = Wn (.dic (kd (xs.foldl add ks)))/\h'[b]? = Wn (.lst (B_++(xs.flatMap ben).map pd))
 |[],ks,B_,h,x,y,z,_,hi,hb,hj,_,_=>⟨h,x,y,z,ZfL hj,⟨Oq _,λ_ _ _ _=>rfl⟩,hi,by simpa using hb⟩
 |p::xs,ks,B_,h,x,y,z,hp,hi,hb,hj,hk,hB=>by
  rw[Os]at hk hB;obtain⟨h1,e1,o1,d1,b1⟩:=fn3 H n (E:=E) (j:=j) (z:=z) (p:=p) hi hb ib (by lia) (by lia) (hp p (.head _));have hl:(ben p).length<=3:=by simp[ben];exact(Zjp p.1).2
  have al:=ZpG (ks:=ks) (p:=p);obtain⟨h2,x',y',z',e2,o2,d2,b2⟩:=ZvX H n (E:=E) (Ld:=Ld) ij jb ib xs (add ks p) (B_++(ben p).map pd) h1 (Wn p.1.d) (Wn (.tup (p.2.map .str))) (Wn (.tup ((p.2++bnd p.1).map .str))) (λq hq=>hp q (.tail _ hq)) d1 b1 ((o1.2 j (Gn.Zs hj) ij jb).trans hj) (by lia) (by simp;lia);exact⟨h2,x',y',z',(ZgG hj rfl e1).trans e2,o1.trans o2,d2,by rw[b2];simp⟩
noncomputable def pls(L:List (T×List Str)):Nat:=(L.flatMap λp=>p.1.places).length
def Zrw(p:T×List Str)(L:List (T×List Str)):pls (p::L)=p.1.places.length+pls L:=by simp[pls]
def ZtL(L M:List (T×List Str)):pls (L++M)=pls L+pls M:=by simp[pls]
def ZtK(p:T×List Str):pls (ben p)+1=p.1.places.length:=by rw[T.places_parts p.1];simp[pls,ben,List.flatMap_map]
theorem Zmc:∀L:List (T×List Str),pls (L.flatMap ben)+L.length=pls L
 |[]=>rfl
 |p::L=>by
  have:=Zmc L;have:=ZtK p;rw[List.flatMap_cons,ZtL,Zrw,Os]
  lia
theorem ZvW(H:Fre P)(n:Nat):∀ (f F:Nat) (L:List (T×List Str)) (ks:List Str) (h:Hd) (j:Nat) (b x y z:Option D),f<F->(∀ p∈L,dep p.1<f/\p.2.length+2 * dep p.1<=9000)->ks.length+pls L<=900000->ks.Nodup->h[i]? = Wn (.dic (kd ks))->h[j]? = Wn (.lst (L.map pd)) ->
   ∃ h' ks' j' b' x' y' z',Zaw (tst (P.tbl (n+1)) Zdo) (xs2 (P.tbl (n+1)) Zde) F (vf E i j b x y z) h=.ok (.nx,vf E i j' b' x' y' z') h'/\Gn.Up i h h'/\h'[i]? = Wn (.dic (kd ks'))/\ks'.Nodup/\∀ v,v∈ks'↔v∈ks\/∃ p∈L,Fp p v
 | f,0,L,ks,h,j,b,x,y,z,hf,_,_,_,_,_=>by lia
 | f,F+1,[],ks,h,j,b,x,y,z,hf,hp,hs,nd,hi,hj=>⟨h,ks,j,b,x,y,z,Zn2 (Zn4 rfl hj),Gn.Up.refl,hi,nd,by simp⟩
 | 0,F+1,p::L,ks,h,j,b,x,y,z,hf,hp,hs,nd,hi,hj=>by have:=(hp p (.head _)).1;lia
 | f+1,F+1,p::L,ks,h,j,b,x,y,z,hf,hp,hs,nd,hi,hj=>by
   have ij:j≠i:=fun e=>by rw [e,hi] at hj;cases hj
   have li:=Gn.Zs hi;have lj:=Gn.Zs hj;have hn:=Zmc (p::L);have x1:xs1 (P.tbl (n+1)) Zcu (vf E i j b x y z) h=.ok (.nx,vf E i j (Wn (.ref h.length)) x y z) (h++[.lst []]):=Zn (i:=3) (ZbU (xs:=[]) rfl (Yv _));obtain ⟨h1,x1',y1,z1,e1,o1,d1,b1⟩:=ZvX H n (E:=E) (i:=i) (j:=j) (b:=h.length) (Ld:=(p::L).map pd) ij (by lia) (by lia) (p::L) ks [] (h++[.lst []]) x y z (fun q hq=>by have:=(hp q hq).2;lia) (by rw [Oe li];exact hi) (by simp) (by rw [Oe lj];exact hj) (by lia) (by rw [List.length_nil];lia);have al:=Zm7 (p::L) ks;obtain ⟨h2,ks',j',b',x',y',z',e2,o2,d2,nd2,m2⟩:=ZvW H n (E:=E) (i:=i) f F ((p::L).flatMap ben) ((p::L).foldl add ks) h1 h.length (Wn (.ref h.length)) x1' y1 z1 (by lia) (fun q hq=>by
     obtain ⟨r,hr,hq⟩:=List.mem_flatMap.mp hq;obtain ⟨s,hs,rfl⟩:=List.mem_map.mp hq;have:=Zf hs;have:=hp r hr;have:=Zjp r.1;simp
     lia) (by lia) (ZpE _ nd) d1 (by rw [b1];rfl)
   refine ⟨h2,ks',j',b',x',y',z',(Zn1 (Zn4 rfl hj) ((Za x1).trans ((Za ((Zax (Zjf rfl (by rw [Oe lj];exact hj))).trans e1)).trans ((Za (Zn (i:=2) (d:=.ref h.length) rfl)).trans rfl)))).trans e2,?_,d2,nd2,fun v=>?_⟩
   . refine Gn.Up.trans ⟨?_,fun m hm hi=>?_⟩ o2
     . have:=o1.1;simp at this;lia
     . rw [o1.2 m (by simp;lia) hi (by lia),Oe hm]
   . rw [m2,Zm6,or_assoc,<- ZnE]
def ZpN{a b:List Str}(p:a.Perm b):ZaB a=ZaB b:=((Zbr a).trans (p.trans (Zbr b).symm)).eq_of_pairwise (λ_ _ _ _ h q=>Zml h q) (ZdR a) (ZdR b)
def kept{h h':Hd}(u:h.length<=h'.length)(s:∀m,m<h.length->h'[m]? = h[m]?):∃g,h'=h++g:=by
 refine⟨h'.drop h.length,?_⟩;refine List.ext_getElem? λm=>?_;rcases Nat.lt_or_ge m h.length with q|q
 . rw[Oe q,s m q]
 . rw[Om q,List.getElem?_drop];congr 1;lia
def ZwI(H:Fre P)(n:Nat)(t:T)(h:Hd)(hs:t.size<=800000)(hd:dep t<=900)(hk:∀x∈lf t,Yo x=Wp)(hl:(ddS (lf t)).length<64):∃g,run P (n+2) (O "free_names") [t.d] h=.ok (.ref (h++g).length) (h++g++[.lst ((ZaB (ddS (lf t))).map .str)]):=by
 rw[Zg H.free_names rfl];have x1:xs1 (P.tbl (n+1)) ZdK [Wn t.d,Wo,Wo,Wo,Wo,Wo,Wo] h=.ok (.nx,[Wn t.d,Wn (.ref h.length),Wo,Wo,Wo,Wo,Wo]) (h++[.dic []]):=Zn (i:=1) rfl;have x2:xs1 (P.tbl (n+1)) ZdJ [Wn t.d,Wn (.ref h.length),Wo,Wo,Wo,Wo,Wo] (h++[.dic []])=.ok (.nx,vf (Wn t.d) h.length (h++[DO.dic []]).length Wo Wo Wo Wo) (h++[DO.dic []]++[DO.lst ([(t,[])].map pd)]):=Zn (i:=2) (ZbU (xs:=[_]) rfl (show 1<=1000 by decide));obtain⟨h',ks,j',b',x',y',z',e3,u,d,nd,mm⟩:=ZvW H n (E:=Wn t.d) (i:=h.length) (dep t+1) P.L [(t,[])] [] (h++[DO.dic []]++[DO.lst ([(t,[])].map pd)]) (h++[DO.dic []]).length Wo Wo Wo Wo (by have:=H.t.big;lia) (by simp;lia) (by simp[pls];exact OE hs (by decide)) List.nodup_nil (by simp[kd]) (by simp);have m2:∀v,v∈ks↔v∈lf t:=λv=>by rw[mm];simp[Fp]
 have pm:=ZuO nd m2;have hlen:ks.length<64:=by rw[pm.length_eq];exact hl
 obtain⟨g,eg⟩:=kept (h:=h) (h':=h') (by have:=u.1;simp at this;lia) (λm hm=>(u.2 m (by simp;lia) (by lia)).trans (by rw[Oe (by simp;lia),Oe hm]));refine⟨g,?_⟩;have x4:ev (P.tbl (n+1)) (.blt .srt (.cons (.var 1) .nil)) (vf (Wn t.d) h.length j' b' x' y' z') h'=.ok (.ref h'.length) (h'++[.lst ((ZaB (ddS (lf t))).map .str)]):=by refine ZZ (xs:=[.ref h.length]) rfl ?_;show Zgm P.GD [.ref h.length] h'=_;simp only[Zgm,dicOf,d,Yw,ZoV];rw[if_pos ⟨hlen,OC.mpr λx hx=>hk x ((m2 x).mp hx)⟩,ZpN pm];rfl
 rw[eg]at x4;rw[<- eg]at x4;have e3:xs1 (P.tbl (n+1)) ZdI (vf (Wn t.d) h.length (h++[DO.dic []]).length Wo Wo Wo Wo) (h++[DO.dic []]++[DO.lst ([(t,[])].map pd)])=.ok (.nx,vf (Wn t.d) h.length j' b' x' y' z') h':=e3;have w:xs2 (P.tbl (n+1)) Zgk [Wn t.d,Wo,Wo,Wo,Wo,Wo,Wo] h=.ok (.rt (.ref h'.length),vf (Wn t.d) h.length j' b' x' y' z') (h'++[.lst ((ZaB (ddS (lf t))).map .str)]):=(Za x1).trans ((Za x2).trans ((Za e3).trans (Zb (Zh x4))));rw[<- eg];exact congrArg Ze w
def tl(t:T):List D:=(fr t).tail++t.parts.map T.d
def ZAj(t:T):∃w,t.d=.tup (.str w::tl t):=by cases t<;>exact⟨_,rfl⟩
def ZkY(t:T):∀d∈(fr t).tail,Gn.ZcD d=Wp:=by cases t<;>simp[fr,Gn.ZcD]
def ZqZ{U:Tb}{a:Ex}(p:ev U a S h=.ok (T.d t) h1):ev U (.sl a (Wn (.ci 1)) Wo) S h=.ok (.tup (tl t)) h1:=by obtain⟨w,e⟩:=ZAj t;rw[ZvY,p,e];simp
def Zo0{U:Tb}{e:Ex}(t:T)(p:ev U e S h=.ok t.d h):tst U (.ex (.blt .isi (.cons e (.cons (.cst (.ty "tuple")) .nil)))) S h=.ok Wp h:=by obtain⟨w,q⟩:=ZAj t;exact Z7 (ZZ (Zd p (Zd rfl rfl)) (by rw[q];rfl))
def ZvS{U:Tb}{e:Ex}(f:Gn.ZcD d=Wp)(p:ev U e S h=.ok d h):tst U (.ex (.blt .isi (.cons e (.cons (.cst (.ty "tuple")) .nil)))) S h=.ok Wq h:=Z7 (ZZ (Zd p (Zd rfl rfl)) (Gn.Zmy f))
def Zld{U:Tb}{a:Tx}{b:Bool}(p:tst U a S h=.ok b h1):tst U (.nt a) S h=.ok (!b) h1:=by rw[Zwl,p];rfl
def add_l(e:h[i]? = Wn (.lst xs))(e':h[j]? = Wn (.lst ys))(hz:xs.length+ys.length<=10000000):opB .Add (.ref i) (.ref j) h=.ok (.ref h.length) (h++[.lst (xs++ys)]):=by show Zs5 (.ref i) (.ref j) h=_;simp only[Zs5,e,e'];rw[if_pos (by rw[YA];lia)];rfl
def Zxl{U:Tb}{a b:Ex}{x y:Str}(p:ev U a S h=.ok (.str x) h1)(q:ev U b S h1=.ok (.str y) h2):tst U (.ex (.cmp .NotEq a b)) S h=.ok (!Wr (x=y)) h2:=Z7 ((Zq p q).trans (by rw[Zk7,ZaE];rfl))
def Ztk{t s:T}(hs:s∈t.parts):s.size<=t.size:=by
 cases t<;>simp[T.parts]at hs
 . subst hs;simp[T.size,T.places]
 . subst hs;simp[T.size,T.places]
 . rcases hs with rfl|rfl<;>simp[T.size,T.places]<;>lia
 . rcases hs with rfl|rfl|rfl<;>simp[T.size,T.places]<;>lia
 . rcases hs with rfl|rfl<;>simp[T.size,T.places]<;>lia
theorem Zoa:∀ss:List Str,strsOf (ss.map .str)=Wn ss
 |[]=>rfl
 |x::r=>by show(strsOf (r.map .str)).map _=_;rw[Zoa r];rfl
end
end Fr
section
set_option exponentiation.threshold 3000
namespace Fr
open PySem L2 IV Tm K02L
open Gn (dep Zf Wl lt1 ltr ZF nmQ Up)
variable {P:Pg}
noncomputable def mi(c k:Int):Int:=(c % 1000003+1) * (48271+2 * k * k) % 2147483647
def mix(c k:Int):Int:=mi c k * (mi c k % 65537+k) % 2147483629
def Zij(H:Mak0 P)(n:Nat)(c k:Int)(h:Hd)(hk:0<=k/\k<1000):run P (n+1) (O "_law_mixed") [.int c,.int k] h=.ok (.int (mix c k)) h:=by
 rw[Zg H.law_mixed rfl];have b1:2 * k * k<=2000 * 1000:=Int.mul_le_mul (by lia) (by lia) (by lia) (by lia);have b2:0<=2 * k * k:=Int.mul_nonneg (by lia) (by lia);have b3:0<=mi c k/\mi c k<2147483647:=⟨Int.emod_nonneg _ (by decide),Int.emod_lt_of_pos _ (by decide)⟩
 have e1:opB .Mod (.int c) (.int 1000003) h=.ok (.int (c % 1000003)) h:=ZC (by decide);have e2:opB .Mult (.int 2) (.int k) h=.ok (.int (2 * k)) h:=Zcy ⟨Gn.ZJ (by decide) (by decide),Gn.ZJ (by lia) (by lia)⟩;have e3:opB .Mult (.int (2 * k)) (.int k) h=.ok (.int (2 * k * k)) h:=Zcy ⟨Gn.ZJ (by lia) (by lia),Gn.ZJ (by lia) (by lia)⟩;have e4:opB .Mult (.int (c % 1000003+1)) (.int (48271+2 * k * k)) h=.ok (.int ((c % 1000003+1) * (48271+2 * k * k))) h:=Zcy ⟨Gn.ZJ (by lia) (by lia),Gn.ZJ (by lia) (by lia)⟩;have e5:opB .Mod (.int ((c % 1000003+1) * (48271+2 * k * k))) (.int 2147483647) h=.ok (.int (mi c k)) h:=ZC (by decide);have e6:opB .Mod (.int (mi c k)) (.int 65537) h=.ok (.int (mi c k % 65537)) h:=ZC (by decide);have e7:opB .Mult (.int (mi c k)) (.int (mi c k % 65537+k)) h=.ok (.int (mi c k * (mi c k % 65537+k))) h:=Zcy ⟨Gn.ZJ (by lia) (by lia),Gn.ZJ (by lia) (by lia)⟩;have e8:opB .Mod (.int (mi c k * (mi c k % 65537+k))) (.int 2147483629) h=.ok (.int (mix c k)) h:=ZC (by decide);have x1:xs1 (P.tbl n) ZeF [Wn (.int c),Wn (.int k),Wo] h=.ok (.nx,[Wn (.int c),Wn (.int k),Wn (.int (mi c k))]) h:=Zn (i:=2) ((Zc ((Zc ((Zc ((Zc rfl rfl).trans e1) rfl).trans rfl) ((Zc rfl ((Zc ((Zc rfl rfl).trans e2) rfl).trans e3)).trans rfl)).trans e4) rfl).trans e5);have w:xs2 (P.tbl n) ZhF [Wn (.int c),Wn (.int k),Wo] h=.ok (.rt (.int (mix c k)),[Wn (.int c),Wn (.int k),Wn (.int (mi c k))]) h:=(Za x1).trans (Zb (Zh ((Zc ((Zc rfl ((Zc ((Zc rfl rfl).trans e6) rfl).trans rfl)).trans e7) rfl).trans e8)));exact congrArg Ze w
def St2(h:Hd)(i j:Nat)(cs:List Int)(a:Nat):Prop:=h[i]? = Wn (.lst [.ref j,.int (a:Int)])/\h[j]? = Wn (.lst (cs.map .int))/\i≠j
def St2.app(s:St2 h i j cs a):St2 (h++g) i j cs a:=⟨by rw[Oe (Gn.Zs s.1)];exact s.1,by rw[Oe (Gn.Zs s.2.1)];exact s.2.1,s.2.2⟩
def Zzj(e:h[i]? = Wn (.lst [x,y])):Zfu (.ref i) (.int 1) v h=.ok () (h.set i (.lst [x,v])):=by simp only[Zfu,e];rfl
def Zrg(H:Mak0 P)(n:Nat){h:Hd}(st:St2 h i j cs a):∃v,run P (n+1) (O "_law_next") [.ref i] h=.ok (.int v) (h.set i (.lst [.ref j,.int ((a+1:Nat):Int)]))/\St2 (h.set i (.lst [.ref j,.int ((a+1:Nat):Int)])) i j cs (a+1):=by
 obtain⟨h1,h2,ne⟩:=st;rw[Zg H.law_next rfl];have i1:=Gn.Zs h1;have i2:(h.set i (.lst [.ref j,.int ((a+1:Nat):Int)]))[i]? = Wn (.lst [.ref j,.int ((a+1:Nat):Int)]):=by rw[Ol i1]
 have i3:(h.set i (.lst [.ref j,.int ((a+1:Nat):Int)]))[j]? = Wn (.lst (cs.map .int)):=by rw[Oc ne];exact h2
 have x1:xs1 (P.tbl n) Zga [Wn (.ref i),Wo] h=.ok (.nx,[Wn (.ref i),Wn (.int a)]) h:=Zn (i:=1) ((ZK rfl rfl).trans ((ZN h1).trans rfl));have x2:xs1 (P.tbl n) Zf9 [Wn (.ref i),Wn (.int a)] h=.ok (.nx,[Wn (.ref i),Wn (.int a)]) (h.set i (.lst [.ref j,.int ((a+1:Nat):Int)])):=ZvD (x:=.int ((a+1:Nat):Int)) rfl rfl rfl (Zzj h1);generalize h.set i (.lst [.ref j,.int ((a+1:Nat):Int)])=h' at *;have e0:ev (P.tbl n) (.ix (.var 0) (.ci 0)) [Wn (.ref i),Wn (.int a)] h'=.ok (.ref j) h':=(ZK rfl rfl).trans ((ZN i2).trans rfl);have tt:tst (P.tbl n) ZfW [Wn (.ref i),Wn (.int a)] h'=.ok (Wr ((a:Int)<(cs.map D.int).length)) h':=Zp7 rfl (ZZ (Zd e0 rfl) (ZcM i3));rw[Ys]at tt;by_cases hc:a<cs.length
 . have hat:atI (cs.map D.int) (a:Int)=Wn (.int cs[a]):=by rw[IV.ZaW,On,Og hc];rfl
   refine⟨cs[a],?_,i2,i3,ne⟩;have w:xs2 (P.tbl n) Ze9 [Wn (.ref i),Wo] h=.ok (.rt (.int cs[a]),[Wn (.ref i),Wn (.int a)]) h':=(Za x1).trans ((Za x2).trans (Zb ((Zt (Zr tt (decide_eq_true (by lia)))).trans (Zb (Zh ((ZK e0 rfl).trans ((ZN i3).trans (by rw[hat];rfl))))))));exact congrArg Ze w
 . refine⟨0,?_,i2,i3,ne⟩;have w:xs2 (P.tbl n) Ze9 [Wn (.ref i),Wo] h=.ok (.rt (.int 0),[Wn (.ref i),Wn (.int a)]) h':=(Za x1).trans ((Za x2).trans ((Za ((Zi (Zr tt (decide_eq_false (by lia)))).trans rfl)).trans (Zb (Zh rfl))));exact congrArg Ze w
def raw(c p k:Int)(js:List Int):List Nat:=js.map λj=>ltr ((mix c j+k * 4 * (if j=p then 1 else 0)) % 26)
noncomputable def Sl(l:List Nat):Str:=⟨l.toArray⟩
def vn(c sz p:Int)(q:Nat)(k tx j:Option D):Ev:=[Wn (.int c),Wn (.str ZF),Wn (.int sz),Wn (.int p),Wn (.ref q),k,tx,j]
def Zti(l:List Nat)(k:Int):Sl l++lt1 k=Sl (l++[ltr k]):=by
 show(⟨l.toArray++#[ltr k]⟩:Str)=⟨(l++[ltr k]).toArray⟩
 simp
def Zih(l:List Nat):(Sl l).length=l.length:=by simp[Sl,Str.length]
theorem Zr8(H:Mak0 P)(n:Nat)(hk:0<=k/\k<100):∀(js:List Int) (acc:List Nat) (o:Option D),Yo (Sl acc)=Wp->acc.length+js.length<=100->(∀j∈js,0<=j/\j<1000) ->
 ∃o',ZH [] (.nm 7) (xs2 (P.tbl (n+1)) ZcN) (js.map .int) (vn c sz p q (Wn (.int k)) (Wn (.str (Sl acc))) o) h=.ok (.nx,vn c sz p q (Wn (.int k)) (Wn (.str (Sl (acc++raw c p k js)))) o') h/\Yo (Sl (acc++raw c p k js))=Wp
 |[],acc,o,w,_,_=>⟨o,by simp[raw],by simpa[raw]using w⟩
 |j::js,acc,o,w,hz,hj=>by
  rw[Os]at hz;have e1:=Zij H n c j h (hj j (.head _));have m1:opB .Mult (.int k) (.int 4) h=.ok (.int (k * 4)) h:=Zcy ⟨Gn.ZJ (by lia) (by lia),Gn.ZJ (by decide) (by decide)⟩;have m2:opB .Mult (.int (k * 4)) (.int (if j=p then 1 else 0)) h=.ok (.int (k * 4 * (if j=p then 1 else 0))) h:=Zcy ⟨Gn.ZJ (by lia) (by lia),Gn.ZJ (by split<;>decide) (by split<;>decide)⟩;obtain⟨lt,lw⟩:=Gn.Zxr (GD:=P.GD) (h:=h) ((mix c j+k * 4 * (if j=p then 1 else 0)) % 26) (by lia) (by lia);obtain⟨ct,cw⟩:=Gn.ZuT (h:=h) (x:=Sl acc) (a:=acc.length) ⟨w,by rw[Zih];exact Oq _⟩ lw (by lia);rw[Zti]at ct cw;obtain⟨o',e2,w2⟩:=Zr8 H n (c:=c) (sz:=sz) (p:=p) (q:=q) (h:=h) hk js (acc++[ltr ((mix c j+k * 4 * (if j=p then 1 else 0)) % 26)]) (Wn (.int j)) cw.1 (by simp;lia) (λx hx=>hj x (.tail _ hx));have el:acc++raw c p k (j::js)=acc++[ltr ((mix c j+k * 4 * (if j=p then 1 else 0)) % 26)]++raw c p k js:=by simp[raw]
  rw[el];refine⟨o',(Zca (ρ1:=vn c sz p q (Wn (.int k)) (Wn (.str (Sl acc))) (Wn (.int j))) rfl ?_).trans e2,w2⟩;have eq:ev (P.tbl (n+1)) (.cmp .Eq (.var 7) (.var 3)) (vn c sz p q (Wn (.int k)) (Wn (.str (Sl acc))) (Wn (.int j))) h=.ok (.bl (Wr (j=p))) h:=(Zq rfl rfl).trans (by rw[Zb7,Zc7];rfl);have ei:ev (P.tbl (n+1)) (.blt .int (.cons (.cmp .Eq (.var 7) (.var 3)) .nil)) (vn c sz p q (Wn (.int k)) (Wn (.str (Sl acc))) (Wn (.int j))) h=.ok (.int (if j=p then 1 else 0)) h:=ZZ (Zd eq rfl) (by show R.ok (D.int (if Wr (j=p)=Wp then 1 else 0)) h=_;simp);exact(Za (Zn (i:=6) ((Zc rfl ((ZK (x:=.str ZF) rfl ((Zc ((Zc (Zj e1 rfl) ((Zc ((Zc rfl rfl).trans m1) ei).trans m2)).trans rfl) rfl).trans (ZC (by decide)))).trans lt)).trans ct))).trans rfl
def nm(c p k:Int)(js:List Int):Str:=nmQ (Sl (raw c p k js))
theorem ZvO(H:Mak0 P)(n:Nat){js:List Int}(hsz:Zau sz=Wp)(hj:ZM 0 sz.toNat=js.map .int)(hs:(js.length:Int)=sz)(h8:js.length<=20)(hb:∀ j∈js,0<=j/\j<1000):∀ (ks:List Int) (fo:List Str) (k tx o:Option D),fo.length+ks.length<=100->(∀ k∈ks,0<=k/\k<100) ->
   ∃ k' tx' o',ZH [] (.nm 5) (xs2 (P.tbl (n+1)) Zd9) (ks.map .int) (vn c sz p h.length k tx o) (h++[.lst (fo.map .str)])=.ok (.nx,vn c sz p h.length k' tx' o') (h++[.lst ((fo++ks.map fun k=>nm c p k js).map .str)])/\∀ k∈ks,Wl 20 (nm c p k js)
 | [],fo,k,tx,o,_,_=>⟨k,tx,o,by simp,by simp⟩
 | k::ks,fo,k0,tx,o,hz,hk=>by
   rw [Os] at hz;obtain ⟨o1,e1,w1⟩:=Zr8 H n (c:=c) (sz:=sz) (p:=p) (q:=h.length) (h:=h++[.lst (fo.map .str)]) (hk k (.head _)) js [] o (by decide +kernel) (by simp;lia) hb;rw [OB] at e1 w1;have wl:Wl 20 (Sl (raw c p k js)):=⟨w1,by rw [Zih,raw,Ys];exact h8⟩
   have rl:(Sl (raw c p k js)).length=sz:=by rw [Zih,raw,Ys];exact hs
   obtain ⟨k',tx',o',e2,w2⟩:=ZvO H n (c:=c) (sz:=sz) (p:=p) (h:=h) hsz hj hs h8 hb ks (fo++[nm c p k js]) (Wn (.int k)) (Wn (.str (nm c p k js))) o1 (by simp;lia) (fun x hx=>hk x (.tail _ hx));have wn:Wl 20 (nm c p k js):=by
     unfold nm nmQ;split
     . exact (Gn.Zvz (h:=[]) wl (by decide)).2
     . exact wl
   refine ⟨k',tx',o',(Zca (ρ1:=vn c sz p h.length (Wn (.int k)) tx o) rfl (ρ2:=vn c sz p h.length (Wn (.int k)) (Wn (.str (nm c p k js))) o1) (h2:=h++[.lst ((fo++[nm c p k js]).map .str)]) ?_).trans (e2.trans (by simp)),fun x hx=>by
     rcases O2.mp hx with rfl|hx
     . exact wn
     . exact w2 x hx⟩
   have y2:xs1 (P.tbl (n+1)) ZcZ (vn c sz p h.length (Wn (.int k)) (Wn (.str (Sl []))) o) (h++[.lst (fo.map .str)])=.ok (.nx,vn c sz p h.length (Wn (.int k)) (Wn (.str (Sl (raw c p k js)))) o1) (h++[.lst (fo.map .str)]):=by
     have ei:evi (P.tbl (n+1)) ZcP (vn c sz p h.length (Wn (.int k)) (Wn (.str (Sl []))) o) (h++[.lst (fo.map .str)])=.ok ⟨[],js.map .int⟩ (h++[.lst (fo.map .str)]):=by
       show (if Zau sz=Wp then R.ok (⟨[],ZM 0 sz.toNat⟩:Wk) (h++[.lst (fo.map .str)]) else .bad)=_;rw [if_pos hsz,hj]
     exact (Zax ei).trans e1
   have i4:tst (P.tbl (n+1)) ZcU (vn c sz p h.length (Wn (.int k)) (Wn (.str (Sl (raw c p k js)))) o1) (h++[.lst (fo.map .str)])=.ok (Wr (Sl (raw c p k js)∈[O "fn",O "rec",O "call",O "if"])) (h++[.lst (fo.map .str)]):=Z7 ((Zq (x:=.str (Sl (raw c p k js))) rfl (Za1 (xs:=[.str (O "fn"),.str (O "rec"),.str (O "call"),.str (O "if")]) rfl (by decide))).trans Gn.in4);have y3:xs1 (P.tbl (n+1)) ZcY (vn c sz p h.length (Wn (.int k)) (Wn (.str (Sl (raw c p k js)))) o1) (h++[.lst (fo.map .str)])=.ok (.nx,vn c sz p h.length (Wn (.int k)) (Wn (.str (nm c p k js))) o1) (h++[.lst (fo.map .str)]):=by
     unfold nm nmQ;by_cases hin:Sl (raw c p k js)∈[O "fn",O "rec",O "call",O "if"]
     . rw [if_pos hin];have rq:=(Gn.Zvz (h:=h++[.lst (fo.map .str)]) wl (by decide)).1;rw [rl] at rq;exact (Zt (Zr i4 (decide_eq_true hin))).trans ((Za (Zn (i:=6) ((Zc rfl rfl).trans rq))).trans rfl)
     . rw [if_neg hin];exact (Zi (Zr i4 (decide_eq_false hin))).trans rfl
   have y4:=Zdk (Zj0 (U:=P.tbl (n+1)) (S:=vn c sz p h.length (Wn (.int k)) (Wn (.str (nm c p k js))) o1) (o:=.var 4) (es:=.cons (.var 6) .nil) rfl Zjz rfl (Zby (d:=.str (nm c p k js)) (Zjz (h:=h) (x:=.lst (fo.map .str)) (r:=[])) (by rw [YA,Ys];lia)));rw [show (h++[DO.lst (fo.map .str)]).set h.length (.lst (fo.map .str++[.str (nm c p k js)]))=h++[.lst ((fo++[nm c p k js]).map .str)] by simp] at y4;exact (Za (Zn (i:=6) (d:=.str (Sl [])) rfl)).trans ((Za y2).trans ((Za y3).trans ((Za y4).trans rfl)))
def ZpR(hs:p ∉ s)(ht:p ∉ t):raw c p k (s++p::t)=(s.map λj=>ltr (mix c j % 26))++ltr ((mix c p+k * 4) % 26)::(t.map λj=>ltr (mix c j % 26)):=by
 have z:∀l:List Int,p ∉ l->(l.map λj=>ltr ((mix c j+k * 4 * (if j=p then 1 else 0)) % 26))=l.map λj=>ltr (mix c j % 26):=λl hl=>List.map_congr_left λj hj=>by have:¬ j=p:=λe=>hl (e ▸ hj);rw[if_neg this];simp
 unfold raw;rw[List.map_append,Op,z s hs,z t ht,if_pos rfl,Int.mul_one]
theorem ZzG{js:List Int}(hp:p∈js)(nd:js.Nodup):nm c p 0 js≠nm c p 1 js:=by
 obtain ⟨s,t,rfl⟩:=List.append_of_mem hp;have nd:=List.nodup_append.mp nd;have h1:p ∉ s:=fun q=>nd.2.2 p q p (.head _) rfl;have h2:p ∉ t:=(List.nodup_cons.mp nd.2.1).1;have e:∀ k,(Sl (raw c p k (s++p::t))).cps.toList=(s.map fun j=>ltr (mix c j % 26))++ltr ((mix c p+k * 4) % 26)::(t.map fun j=>ltr (mix c j % 26)):=fun k=>by rw [ZpR h1 h2];simp [Sl]
 refine Gn.nq (e 0) (e 1) fun q=>?_;have q:=Gn.Zup ⟨((mix c p+0 * 4) % 26).toNat,by lia⟩ ⟨((mix c p+1 * 4) % 26).toNat,by lia⟩ (by
   show ltr (((mix c p+0 * 4) % 26).toNat:Int)=ltr (((mix c p+1 * 4) % 26).toNat:Int);rw [Int.toNat_of_nonneg (by lia),Int.toNat_of_nonneg (by lia)];exact q)
 have q:=Fin.mk.inj q
 lia
def NmW(x:Str):Prop:=(∀c∈x.cps.toList,97<=c/\c<=122)/\1<=x.length/\x.length<=8/\x ∉ [O "fn",O "rec",O "call",O "if"]
def Zuo:∀i:Fin 26,97<=ltr (i.val:Int)/\ltr (i.val:Int)<=122:=by decide +kernel
def ZBm:∀n:Fin 9,YI n.val 113 ∉ [[102,110],[114,101,99],[99,97,108,108],[105,102]]:=by decide +kernel
def Zuf{js:List Int}(h1:1<=js.length)(h8:js.length<=8):NmW (nm c p k js):=by
 have hl:(Sl (raw c p k js)).length=js.length:=by rw[Zih,raw,Ys]
 unfold nm;refine⟨λd hd=>?_,by rw[Gn.ZoJ,hl];exact h1,by rw[Gn.ZoJ,hl];exact h8,λhk=>?_⟩
 . unfold nmQ at hd;split at hd
   . rw[Gn.Zfq]at hd;rw[(List.mem_replicate.mp hd).2];decide
   . have:(Sl (raw c p k js)).cps.toList=raw c p k js:=by simp[Sl]
     rw[this]at hd;obtain⟨j,_,rfl⟩:=List.mem_map.mp hd;have:=Zuo ⟨((mix c j+k * 4 * (if j=p then 1 else 0)) % 26).toNat,by lia⟩;rw[Int.toNat_of_nonneg (by lia)]at this;exact this
 . unfold nmQ at hk;split at hk
   . rw[Gn.Zmq,Gn.Zfq,hl]at hk;exact ZBm ⟨js.length,by lia⟩ hk
   . rename_i h;exact h hk
def Ztu(H:Mak0 P)(n:Nat)(c:Int)(h:Hd):∃ns:List Str,ns.length=5/\(∀x∈ns,Wl 20 x/\NmW x)/\(∃a∈ns,∃b∈ns,a≠b)/\run P (n+2) (O "_law_names") [.int c] h=.ok (.ref h.length) (h++[.lst (ns.map .str)]):=by
 rw[Gn.Zto H.law_names rfl];have m8:opB .Mod (.int c) (.int 8) h=.ok (.int (c % 8)) h:=ZC (by decide);have d8:opB .FloorDiv (.int c) (.int 8) h=.ok (.int (c / 8)) h:=ZT (by decide);have mp:opB .Mod (.int (c / 8)) (.int (1+c % 8)) h=.ok (.int (c / 8 % (1+c % 8))) h:=ZC (by lia);have b1:0<=c % 8/\c % 8<8:=by lia
 have b2:0<=c / 8 % (1+c % 8)/\c / 8 % (1+c % 8)<1+c % 8:=⟨Int.emod_nonneg _ (by lia),Int.emod_lt_of_pos _ (by lia)⟩
 generalize esz:1+c % 8=sz at *;generalize epp:c / 8 % sz=p at *;have hj:ZM 0 sz.toNat=((List.range sz.toNat).map λ(m:Nat)=>(m:Int)).map .int:=by simp[ZM]
 obtain⟨k',tx',o',e2,w2⟩:=ZvO H n (c:=c) (sz:=sz) (p:=p) (h:=h) (js:=(List.range sz.toNat).map λ(m:Nat)=>(m:Int)) (by simp[Zau];lia) hj (by simp;lia) (by simp;lia) (λj hj=>by simp at hj;lia) [0,1,2,3,4] [] Wo Wo Wo (by decide) (by decide);refine⟨[0,1,2,3,4].map λk=>nm c p k ((List.range sz.toNat).map λ(m:Nat)=>(m:Int)),rfl,?_,⟨nm c p 0 ((List.range sz.toNat).map λ(m:Nat)=>(m:Int)),by simp,nm c p 1 ((List.range sz.toNat).map λ(m:Nat)=>(m:Int)),by simp,ZzG (List.mem_map.mpr ⟨p.toNat,by simp;lia,by lia⟩) (List.pairwise_map.mpr (List.nodup_range.imp λne e=>ne (by lia)))⟩,?_⟩
 . intro x hx;obtain⟨k,hk,rfl⟩:=List.mem_map.mp hx;exact⟨w2 k hk,Zuf (by simp;lia) (by simp;lia)⟩
 . have x2:xs1 (P.tbl (n+1)) ZeE [Wn (.int c),Wn (.str ZF),Wo,Wo,Wo,Wo,Wo,Wo] h=.ok (.nx,[Wn (.int c),Wn (.str ZF),Wn (.int sz),Wo,Wo,Wo,Wo,Wo]) h:=Zn (i:=2) ((Zc rfl ((Zc rfl rfl).trans m8)).trans (by rw[<- esz];rfl));have x3:xs1 (P.tbl (n+1)) ZeD [Wn (.int c),Wn (.str ZF),Wn (.int sz),Wo,Wo,Wo,Wo,Wo] h=.ok (.nx,[Wn (.int c),Wn (.str ZF),Wn (.int sz),Wn (.int p),Wo,Wo,Wo,Wo]) h:=Zn (i:=3) ((Zc ((Zc rfl rfl).trans d8) rfl).trans mp);have x4:xs1 (P.tbl (n+1)) ZeC [Wn (.int c),Wn (.str ZF),Wn (.int sz),Wn (.int p),Wo,Wo,Wo,Wo] h=.ok (.nx,vn c sz p h.length Wo Wo Wo) (h++[.lst []]):=Zn (i:=4) (ZbU (xs:=[]) rfl (Yv _));have x5:xs1 (P.tbl (n+1)) ZeB (vn c sz p h.length Wo Wo Wo) (h++[.lst []])=_:=(Zax (w:=⟨[],[0,1,2,3,4].map .int⟩) rfl).trans e2;rw[OB]at x5;have w:xs2 (P.tbl (n+1)) ZdB [Wn (.int c),Wo,Wo,Wo,Wo,Wo,Wo,Wo] h=_:=(Za (Zn (i:=1) (d:=.str ZF) rfl)).trans ((Za x2).trans ((Za x3).trans ((Za x4).trans ((Za x5).trans (Zb (Zh rfl))))));exact congrArg Ze w
end Fr
end
namespace Fr
open PySem L2 IV Tm K02L
open Gn (dep Zf Wl Up)
section
variable {P:Pg}
def Nm(ns:List Str):T->Prop
 |.num n=>0<=n/\n<1000000
 |.name x=>x∈ns
 |.fn x e=>x∈ns/\Nm ns e
 |.rcc f x e=>f∈ns/\x∈ns/\Nm ns e
 |.call f a=>Nm ns f/\Nm ns a
 |.iff c a b=>Nm ns c/\Nm ns a/\Nm ns b
 |.op _ a b=>Nm ns a/\Nm ns b
theorem ZrY{α:Type}:∀(l m:List α),l.Nodup->(∀x∈l,x∈m)->l.length<=m.length
 |[],m,_,_=>Yv _
 |x::l,m,nd,s=>by
  obtain⟨a,b,rfl⟩:=List.append_of_mem (s x (.head _));obtain⟨n1,n2⟩:=List.nodup_cons.mp nd;have:=ZrY l (a++b) n2 λy hy=>by
   rcases OD.mp (s y (.tail _ hy))with q|q
   . exact Yq _ q
   . rcases O2.mp q with q|q
     . exact absurd (q ▸ hy) n1
     . exact Ov _ q
  simp at this ⊢
  lia
def at5{ns:List Str}(h5:ns.length=5)(z:Int)(h0:0<=z/\z<5):∃x∈ns,atI (ns.map D.str) z=Wn (.str x):=by
 obtain⟨k,rfl⟩:∃k:Nat,z=k:=⟨z.toNat,by lia⟩
 have hk:k<ns.length:=by lia
 exact⟨ns[k],List.getElem_mem hk,by rw[IV.ZaW,On,Og hk];rfl⟩
def ZoI{U:Tb}{e:Ex}{ns:List Str}(h5:ns.length=5)(hm:h[m]? = Wn (.lst (ns.map .str)))(p:ev U a S h=.ok (.ref m) h)(q:ev U e S h=.ok (.int z) h):∃x∈ns,ev U (.ix a (.bin .Mod e (.ci 5))) S h=.ok (.str x) h:=by obtain⟨x,hx,e1⟩:=at5 h5 (z % 5) (by lia);exact⟨x,hx,(ZK p ((Zc q rfl).trans (ZC (by decide)))).trans ((ZN hm).trans (by rw[e1];rfl))⟩
def or3{U:Tb}{a b c:Tx}{x y z:Bool}(p:tst U a S h=.ok x h)(q:tst U b S h=.ok y h)(r:tst U c S h=.ok z h):tst U (.ors (.cons a (.cons b (.one c)))) S h=.ok (x || y || z) h:=by
 rw[ZdQ,Z3,p,Zk];cases x
 . simp only[OG,if_false,Bool.false_or];rw[Z3,q,Zk];cases y
   . simp only[OG,if_false,Bool.false_or];exact r
   . rfl
 . rfl
def or2{U:Tb}{a b:Tx}{x y:Bool}(p:tst U a S h=.ok x h)(q:tst U b S h=.ok y h):tst U (.ors (.cons a (.one b))) S h=.ok (x || y) h:=by
 cases x
 . exact(Zmf p q).trans (by simp)
 . exact(Zw8 p).trans (by simp)
noncomputable def vd(i m:Nat)(room c s:Int)(o p:Option D):Ev:=[Wn (.ref i),Wn (.ref m),Wn (.int room),Wn (.int c),Wn (.int s),o,p]
inductive Dr(ns:List Str)(cs:List Int)(i j:Nat)(h:Hd)(a r:Nat)(x:R D):Prop
 |mk (t:T) (h':Hd) (a':Nat) (e:x=.ok t.d h') (u:Up i h h') (s:St2 h' i j cs a') (l:a<a') (n:Nm ns t) (d:dep t<=r)
def DrA(P:Pg)(ns:List Str)(cs:List Int)(i j m r:Nat):Prop:=∀(n:Nat) (h:Hd) (a:Nat) (room:Int),room=r->St2 h i j cs a->h[m]? = Wn (.lst (ns.map .str))->Dr ns cs i j h a r (run P (n+r+2) (O "_law_drawn") [.ref i,.ref m,.int room] h)
def wd5(z:Int)(h0:0<=z/\z<5):∃w:Str,atI [D.str (O "+"),.str (O "-"),.str (O "*"),.str (O "<"),.str (O "call")] z=Wn (.str w)/\(w=O "call" \/ ∃v:Wd,w=v.s):=by
 have:z=0\/z=1\/z=2\/z=3\/z=4:=by lia
 rcases this with rfl|rfl|rfl|rfl|rfl
 . exact⟨_,rfl,.inr ⟨.add,rfl⟩⟩
 . exact⟨_,rfl,.inr ⟨.sub,rfl⟩⟩
 . exact⟨_,rfl,.inr ⟨.mul,rfl⟩⟩
 . exact⟨_,rfl,.inr ⟨.lt,rfl⟩⟩
 . exact⟨_,rfl,.inl rfl⟩
def ZsJ(H:Mak0 P){ns:List Str}(h5:ns.length=5)(im:m≠i){r:Nat}(ih:∀r',r=r'+1->DrA P ns cs i j m r'):DrA P ns cs i j m r:=by
 intro n h a room hr st hm;rw[Zg H.law_drawn rfl];obtain⟨c,e1,s1⟩:=Zrg H (n+r) st;have u1:Up i h (h.set i (.lst [.ref j,.int ((a+1:Nat):Int)])):=Up.set;generalize h.set i (.lst [.ref j,.int ((a+1:Nat):Int)])=h1 at *;have m1:=u1.at hm im;have x1:xs1 (P.tbl (n+r+1)) ZeN [Wn (.ref i),Wn (.ref m),Wn (.int room),Wo,Wo,Wo,Wo] h=.ok (.nx,[Wn (.ref i),Wn (.ref m),Wn (.int room),Wn (.int c),Wo,Wo,Wo]) h1:=Zn (i:=3) (Zj e1 rfl);have x2:xs1 (P.tbl (n+r+1)) ZeM [Wn (.ref i),Wn (.ref m),Wn (.int room),Wn (.int c),Wo,Wo,Wo] h1=.ok (.nx,vd i m room c (c / 11) Wo Wo) h1:=Zn (i:=4) ((Zc rfl rfl).trans (ZT (by decide)));generalize c / 11=s at *;have y12:xs2 (P.tbl (n+r+1)) Zaf [Wn (.ref i),Wn (.ref m),Wn (.int room),Wo,Wo,Wo,Wo] h=xs2 (P.tbl (n+r+1)) (tlS (tlS Zaf)) (vd i m room c s Wo Wo) h1:=(Za x1).trans (Za x2);have c11:∀(o p:Option D) (hh:Hd),ev (P.tbl (n+r+1)) (.bin .Mod (.var 3) (.ci 11)) (vd i m room c s o p) hh=.ok (.int (c % 11)) hh:=λo p hh=>(Zc rfl rfl).trans (ZC (by decide));have t3:tst (P.tbl (n+r+1)) Zen (vd i m room c s Wo Wo) h1=.ok (Wr (c % 11<2) || Wr (room=0) || Wr ((cs.map D.int).length<((a+1:Nat):Int))) h1:=or3 (Zp7 (c11 _ _ _) rfl) (Ze2 rfl rfl) (ZnI ((ZK rfl rfl).trans ((ZN s1.1).trans rfl)) (ZZ (Zd ((ZK rfl rfl).trans ((ZN s1.1).trans rfl)) rfl) (ZcM s1.2.1)))
 cases hb:(Wr (c % 11<2) || Wr (room=0) || Wr ((cs.map D.int).length<((a+1:Nat):Int)))with
 |true=>
  rw[hb]at t3;have q3:tst (P.tbl (n+r+1)) Zcp (vd i m room c s Wo Wo) h1=.ok (Wr (s % 3=0)) h1:=Ze2 ((Zc rfl rfl).trans (ZC (by decide))) rfl;by_cases hs:s % 3=0
  . obtain⟨v,ev4,v4⟩:=Gn.at4 (a:=0) (b:=999999) (c:=s / 12 % 1000000) (d:=s / 12 % 10) (s / 3 % 4) (by lia) (by lia);have d12:∀hh,ev (P.tbl (n+r+1)) (.bin .FloorDiv (.var 4) (.ci 12)) (vd i m room c s Wo Wo) hh=.ok (.int (s / 12)) hh:=λhh=>(Zc rfl rfl).trans (ZT (by decide));have z:=ZhA (U:=P.tbl (n+r+1)) (S:=vd i m room c s Wo Wo) (h:=h1) (es:=.cons (.ci 0) (.cons (.ci 999999) (.cons (.bin .Mod (.bin .FloorDiv (.var 4) (.ci 12)) (.ci 1000000)) (.cons (.bin .Mod (.bin .FloorDiv (.var 4) (.ci 12)) (.ci 10)) .nil)))) (e:=.bin .Mod (.bin .FloorDiv (.var 4) (.ci 3)) (.ci 4)) ev4 (Zd rfl (Zd rfl (Zd ((Zc (d12 _) rfl).trans (ZC (by decide))) (Zd ((Zc (d12 _) rfl).trans (ZC (by decide))) rfl)))) ((Zc ((Zc rfl rfl).trans (ZT (by decide))) rfl).trans (ZC (by decide))) (by simp);have fin:=(congrArg Ze y12).trans (congrArg Ze (Zb ((Zt t3).trans (Zb ((Zt (Zr q3 (decide_eq_true hs))).trans (Zb (Zh (Za1 (xs:=[_,_]) (Zd rfl (Zd z rfl)) (show 2<=1000 by decide)))))))));exact⟨.num v,_,a+1,fin,u1.trans Up.app,s1.app,by lia,(by show 0<=v/\v<1000000;lia),Yv _⟩
  . obtain⟨x,hx,z⟩:=ZoI (U:=P.tbl (n+r+1)) (S:=vd i m room c s Wo Wo) (h:=h1) (a:=.var 1) (e:=.bin .FloorDiv (.var 4) (.ci 3)) h5 m1 rfl ((Zc rfl rfl).trans (ZT (by decide)));refine⟨.name x,h1,a+1,?_,u1,s1,by lia,hx,Yv _⟩;exact(congrArg Ze y12).trans (congrArg Ze (Zb ((Zt t3).trans ((Za ((Zi (Zr q3 (decide_eq_false hs))).trans rfl)).trans (Zb (Zh (Za1 (xs:=[_,_]) (Zd rfl (Zd z rfl)) (show 2<=1000 by decide))))))))
 |false=>
  rw[hb]at t3;have hc2:¬ c % 11<2/\room≠0:=by simp only[Bool.or_eq_false_iff,decide_eq_false_iff_not]at hb;exact⟨hb.1.1,hb.1.2⟩
  obtain⟨r',rfl⟩:∃r',r=r'+1:=⟨r - 1,by lia⟩
  have ih:=ih r' rfl;have y3:xs1 (P.tbl (n+(r'+1)+1)) ZeL (vd i m room c s Wo Wo) h1=.ok (.nx,vd i m room c s Wo Wo) h1:=(Zi t3).trans rfl;obtain⟨t1,g1,a1,e2,v1,s2,l1,n1,d1⟩:=ih n h1 (a+1) (room - 1) (by lia) s1 m1;have m2:=v1.at m1 im;have y4:xs1 (P.tbl (n+(r'+1)+1)) ZeK (vd i m room c s Wo Wo) h1=.ok (.nx,vd i m room c s (Wn t1.d) Wo) g1:=Zn (i:=5) (Zj e2 rfl);have y34:xs2 (P.tbl (n+(r'+1)+1)) (tlS (tlS Zaf)) (vd i m room c s Wo Wo) h1=xs2 (P.tbl (n+(r'+1)+1)) (tlS (tlS (tlS (tlS Zaf)))) (vd i m room c s (Wn t1.d) Wo) g1:=(Za y3).trans (Za y4);have t5:tst (P.tbl (n+(r'+1)+1)) Zem (vd i m room c s (Wn t1.d) Wo) g1=.ok (Wr (c % 11=2) || Wr (c % 11=3)) g1:=or2 (Ze2 (c11 _ _ _) rfl) (Ze2 (c11 _ _ _) rfl);obtain⟨x,hx,zx⟩:=ZoI (U:=P.tbl (n+(r'+1)+1)) (S:=vd i m room c s (Wn t1.d) Wo) (h:=g1) (a:=.var 1) (e:=.var 4) h5 m2 rfl rfl;by_cases h23:c % 11=2\/c % 11=3
  . refine⟨.fn x t1,g1,a1,?_,u1.trans v1,s2,by lia,⟨hx,n1⟩,by simp only[dep];lia⟩;exact(congrArg Ze (y12.trans y34)).trans (congrArg Ze (Zb ((Zt (Zr t5 (by simpa using h23))).trans (Zb (Zh (Za1 (xs:=[_,_,_]) (Zd rfl (Zd zx (Zd rfl rfl))) (show 3<=1000 by decide)))))))
  have y5:xs1 (P.tbl (n+(r'+1)+1)) ZeJ (vd i m room c s (Wn t1.d) Wo) g1=.ok (.nx,vd i m room c s (Wn t1.d) Wo) g1:=(Zi (Zr t5 (by simpa using h23))).trans rfl;have t6:tst (P.tbl (n+(r'+1)+1)) Zel (vd i m room c s (Wn t1.d) Wo) g1=.ok (Wr (c % 11=4)) g1:=Ze2 (c11 _ _ _) rfl;obtain⟨y,hy,zy⟩:=ZoI (U:=P.tbl (n+(r'+1)+1)) (S:=vd i m room c s (Wn t1.d) Wo) (h:=g1) (a:=.var 1) (e:=.bin .FloorDiv (.var 4) (.ci 5)) h5 m2 rfl ((Zc rfl rfl).trans (ZT (by decide)));by_cases h4:c % 11=4
  . refine⟨.rcc x y t1,g1,a1,?_,u1.trans v1,s2,by lia,⟨hx,hy,n1⟩,by simp only[dep];lia⟩;exact(congrArg Ze (y12.trans y34)).trans (congrArg Ze ((Za y5).trans (Zb ((Zt (Zr t6 (decide_eq_true h4))).trans (Zb (Zh (Za1 (xs:=[_,_,_,_]) (Zd rfl (Zd zx (Zd zy (Zd rfl rfl)))) (show 4<=1000 by decide))))))))
  have y6:xs1 (P.tbl (n+(r'+1)+1)) ZeI (vd i m room c s (Wn t1.d) Wo) g1=.ok (.nx,vd i m room c s (Wn t1.d) Wo) g1:=(Zi (Zr t6 (decide_eq_false h4))).trans rfl;obtain⟨t2,g2,a2,e3,v2,s3,l2,n2,d2⟩:=ih n g1 a1 (room - 1) (by lia) s2 m2;have m3:=v2.at m2 im;have y7:xs1 (P.tbl (n+(r'+1)+1)) ZeH (vd i m room c s (Wn t1.d) Wo) g1=.ok (.nx,vd i m room c s (Wn t1.d) (Wn t2.d)) g2:=Zn (i:=6) (Zj e3 rfl);have y57:xs2 (P.tbl (n+(r'+1)+1)) (tlS (tlS (tlS (tlS Zaf)))) (vd i m room c s (Wn t1.d) Wo) g1=xs2 (P.tbl (n+(r'+1)+1)) (tlS (tlS (tlS (tlS (tlS (tlS (tlS Zaf))))))) (vd i m room c s (Wn t1.d) (Wn t2.d)) g2:=(Za y5).trans ((Za y6).trans (Za y7));have t8:tst (P.tbl (n+(r'+1)+1)) Zek (vd i m room c s (Wn t1.d) (Wn t2.d)) g2=.ok (Wr (c % 11=5)) g2:=Ze2 (c11 _ _ _) rfl;by_cases h5':c % 11=5
  . obtain⟨t3',g3,a3,e4,v3,s4,l3,n3,d3⟩:=ih n g2 a2 (room - 1) (by lia) s3 m3;refine⟨.iff t1 t2 t3',g3,a3,?_,u1.trans (v1.trans (v2.trans v3)),s4,by lia,⟨n1,n2,n3⟩,by simp only[dep];lia⟩;exact(congrArg Ze (y12.trans (y34.trans y57))).trans (congrArg Ze (Zb ((Zt (Zr t8 (decide_eq_true h5'))).trans (Zb (Zh (Za1 (xs:=[_,_,_,_]) (Zd rfl (Zd rfl (Zd rfl (Zd (Zj e4 rfl) rfl)))) (show 4<=1000 by decide)))))))
  have y8:xs1 (P.tbl (n+(r'+1)+1)) ZeG (vd i m room c s (Wn t1.d) (Wn t2.d)) g2=.ok (.nx,vd i m room c s (Wn t1.d) (Wn t2.d)) g2:=(Zi (Zr t8 (decide_eq_false h5'))).trans rfl;obtain⟨w,zw,hw⟩:=wd5 (c % 11 - 6) (by lia);have z:=ZhA (U:=P.tbl (n+(r'+1)+1)) (S:=vd i m room c s (Wn t1.d) (Wn t2.d)) (h:=g2) (es:=.cons (.Ci_ "+") (.cons (.Ci_ "-") (.cons (.Ci_ "*") (.cons (.Ci_ "<") (.cons (.Ci_ "call") .nil))))) (e:=.bin .Sub (.bin .Mod (.var 3) (.ci 11)) (.ci 6)) zw rfl ((Zc (c11 _ _ _) rfl).trans rfl) (by simp);have fin:=(congrArg Ze (y12.trans (y34.trans y57))).trans (congrArg Ze ((Za y8).trans (Zb (Zh (Za1 (xs:=[_,_,_]) (Zd z (Zd rfl (Zd rfl rfl))) (show 3<=1000 by decide))))));rcases hw with rfl|⟨v,rfl⟩
  . exact⟨.call t1 t2,_,a2,fin,u1.trans (v1.trans (v2.trans Up.app)),s3.app,by lia,⟨n1,n2⟩,by simp only[dep];lia⟩
  . exact⟨.op v t1 t2,_,a2,fin,u1.trans (v1.trans (v2.trans Up.app)),s3.app,by lia,⟨n1,n2⟩,by simp only[dep];lia⟩
theorem Zot(H:Mak0 P){ns:List Str}(h5:ns.length=5)(im:m≠i):∀r,DrA P ns cs i j m r
 |0=>ZsJ H h5 im λr' e=>by lia
 |r+1=>ZsJ H h5 im λr' e=>by cases e;exact Zot H h5 im r
def ZsP{U:Tb}{e:Ex}{acc:List D}(hz:acc.length<=100000)(q:ev U e (Wn d::S) h=.ok x h1):ZG [] (.nm 0) (tsto U Wo) (ev U e) (d::ds) (Wo::S) acc h=ZG [] (.nm 0) (tsto U Wo) (ev U e) ds (Wo::S) (acc++[x]) h1:=by rw[Z4,if_pos ⟨rfl,by rw[YA];lia⟩];show(ev U e (Wn d::S) h).plain.bnd _=_;rw[q];rfl
def ZBt{U:Tb}{a b:Ex}(p:ev U a S h=.ok (.int x) h1)(q:ev U b S h1=.ok (.int y) h2):tst U (.ex (.cmp .LtE a b)) S h=.ok (Wr (x<=y)) h2:=Z7 (Zq p q)
noncomputable def vl(s:D)(i m:Nat):Ev:=[Wn s,Wn (.ref i),Wn (.ref m)]
theorem Zjj(H:Mak0 P)(hk:h[k]? = Wn (.lst xs0)):∀(xs:List Int) (j:Nat) (acc:List Int),acc.length+xs.length<=1000->j+xs.length<=900->∃cs:List Int,cs.length=acc.length+xs.length /\
 ZG [(k,xs0)] (.two 0 1) (tsto (P.tbl (n+1)) Wo) (ev (P.tbl (n+1)) (.call (O "_law_mixed") (.cons (.var 1) (.cons (.var 0) .nil)))) (xs.mapIdx λq x=>D.tup [.int ((q+j:Nat):Int),.int x]) [Wo,Wo] (acc.map .int) h
  = .ok (cs.map .int) h
 |[],j,acc,_,_=>⟨acc,by simp,by simp[ZG,Wk.stays,hk]⟩
 |x::xs,j,acc,h1,h2=>by
  simp only[Os]at h1 h2;obtain⟨cs,q1,q2⟩:=Zjj H (n:=n) hk xs (j+1) (acc++[mix x (j:Int)]) (by simp;lia) (by lia);refine⟨cs,by simp at q1;simp;lia,?_⟩;have e1:=Zij H n x (j:Int) h ⟨by lia,by lia⟩;have hz:acc.length<sizeLine:=by rw[YA];lia
  have ei:(λ(q:Nat) (x:Int)=>D.tup [.int ((q+1+j:Nat):Int),.int x])=λq x=>D.tup [.int ((q+(j+1):Nat):Int),.int x]:=by funext q x;rw[show q+1+j=q+(j+1) by lia]
  have st:Wk.stays [(k,xs0)] h=Wp:=by simp[Wk.stays,hk]
  have z:ev (P.tbl (n+1)) (.call (O "_law_mixed") (.cons (.var 1) (.cons (.var 0) .nil))) [Wn (.int ((0+j:Nat):Int)),Wn (.int x)] h=.ok (.int (mix x (j:Int))) h:=by rw[Nat.zero_add];exact Zj e1 rfl
  rw[List.mapIdx_cons,Z4,if_pos ⟨st,by rw[Ys];exact hz⟩];show(ev (P.tbl (n+1)) (.call (O "_law_mixed") (.cons (.var 1) (.cons (.var 0) .nil))) [Wn (.int ((0+j:Nat):Int)),Wn (.int x)] h).plain.bnd _=_;rw[z];show ZG [(k,xs0)] (.two 0 1) (tsto (P.tbl (n+1)) Wo) (ev (P.tbl (n+1)) (.call (O "_law_mixed") (.cons (.var 1) (.cons (.var 0) .nil)))) _ [Wo,Wo] (acc.map .int++[.int (mix x (j:Int))]) h=_;rw[ei];rw[List.map_append]at q2;exact q2
end
end Fr
namespace K03L
open PySem L2 IV
def ZmR:Tx:=(.ex (.call (O "is_name") (.c (.v 0) .n)))
def Zjq:Sx:=(.ret (.tupl (.c (.Ci_ "name") (.c (.v 0) .n))))
def Zmn:Sxs:=(.c Zjq .n)
def ZhB:Sx:=.iff ZmR Zmn .n
def ZmZ:Sx:=(.ret (.tupl (.c (.Ci_ "num") (.c (.call (O "read_number") (.c (.v 0) .n)) .n))))
def ZdY:Sxs:=(.c ZhB (.c ZmZ .n))
def ZkI:Fd:=⟨[(O "word")],[(O "word")],ZdY⟩
def Zbm:Sx:=(.seta [(O "Reader")] (.v 0) (O "words") (.v 1))
def Zbl:Sx:=(.seta [(O "Reader")] (.v 0) (O "at") (.ci 0))
def Zb3:Sxs:=(.c Zbm (.c Zbl .n))
def Z9:Fd:=⟨[(O "self"),(O "words")],[(O "self"),(O "words")],Zb3⟩
def Zfg:Sx:=(.ret (.ands (.c (.cmp .Eq (.ix (.v 0) (.ci 0)) (.Ci_ "rec")) (.c (.cmp .Eq (.ix (.v 0) (.ci 1)) (.ix (.v 0) (.ci 2))) .n))))
def Zap:Sxs:=(.c Zfg .n)
def Zcn:Fd:=⟨[(O "E")],[(O "E")],Zap⟩
def Zj4:Tx:=(.ex (.cmp .Eq (.ix (.v 0) (.ci 0)) (.Ci_ "num")))
def ZgP:Sx:=(.ret (.tupl (.c (.blt .sto (.c (.ix (.v 0) (.ci 1)) .n)) .n)))
def ZjE:Sxs:=(.c ZgP .n)
def Zkd:Sx:=.iff Zj4 ZjE .n
def Zj3:Tx:=(.ex (.cmp .Eq (.ix (.v 0) (.ci 0)) (.Ci_ "name")))
def ZgO:Sx:=(.ret (.tupl (.c (.ix (.v 0) (.ci 1)) .n)))
def ZjD:Sxs:=(.c ZgO .n)
def Zkc:Sx:=.iff Zj3 ZjD .n
def Zkb:Sx:=(.ret (.bin .Add (.tupl (.c (.ix (.v 0) (.ci 0)) .n)) (.call (O "bound_names") (.c (.v 0) .n))))
def Za5:Sxs:=(.c Zkd (.c Zkc (.c Zkb .n)))
def Zhn:Fd:=⟨[(O "place")],[(O "place")],Za5⟩
def Zqr:Sx:=(.set (.nm 1) (.lstl .n))
def Zqg:Ix:=(.pl (.call (O "places") (.c (.v 0) .n)))
def ZmS:Sx:=(.drp (.meth .ext (.v 1) (.c (.call (O "own_words") (.c (.v 2) .n)) .n)))
def ZkD:Sxs:=(.c ZmS .n)
def Zqq:Sx:=.forr (.nm 2) Zqg ZkD
def Zqp:Sx:=(.ret (.tmt .joi (.Ci_ " ") (.v 1)))
def Zpw:Sxs:=(.c Zqr (.c Zqq (.c Zqp .n)))
def Zo6:Fd:=⟨[(O "E")],[(O "E"),(O "words"),(O "place")],Zpw⟩
def Zjx:Sx:=(.ret (.ands (.c (.cmp2 .LtE .LtE (.ci 1) (.blt .len (.c (.v 0) .n)) (.v 2)) (.c (.blt .all (.c (.comp [(O "sign"),(O "signs")] [Wo,Wn 1] (.tw (.v 0)) (.nm 0) Wo (.sin (.v 0) (.v 1))) .n)) .n))))
def ZcI:Sxs:=(.c Zjx .n)
def ZfO:Fd:=⟨[(O "text"),(O "signs"),(O "most")],[(O "text"),(O "signs"),(O "most")],ZcI⟩
def Zm3:Sx:=(.ret (.ands (.c (.call (O "is_made_of") (.c (.v 0) (.c (.glo (O "LETTERS")) (.c (.glo (O "MOST_LETTERS")) .n)))) (.c (.cmp .NotIn (.v 0) (.glo (O "KEPT_WORDS"))) .n))))
def ZkV:Sxs:=(.c Zm3 .n)
def ZkL:Fd:=⟨[(O "text")],[(O "text")],ZkV⟩
def Zkr:Sx:=(.ret (.ands (.c (.call (O "is_made_of") (.c (.v 0) (.c (.glo (O "FIGURES")) (.c (.glo (O "MOST_FIGURES")) .n)))) (.c (.ors (.c (.cmp .Eq (.v 0) (.Ci_ "0")) (.c (.cmp .NotEq (.ix (.v 0) (.ci 0)) (.Ci_ "0")) .n))) .n))))
def ZhI:Sxs:=(.c Zkr .n)
def Zhw:Fd:=⟨[(O "text")],[(O "text")],ZhI⟩
def Zkh:Sx:=(.ret (.ands (.c (.blt .isi (.c (.v 0) (.c (.cst (.ty "int")) .n))) (.c (.nt (.blt .isi (.c (.v 0) (.c (.cst (.ty "bool")) .n)))) .n))))
def Zm0:Sxs:=(.c Zkh .n)
def Zhp:Fd:=⟨[(O "_law_found")],[(O "_law_found")],Zm0⟩
def Zkg:Sx:=(.set (.nm 1) (.lstl .n))
def Zb9:Ix:=(.pl (.sl (.v 0) (Wn (.blt .int (.c (.cmp .In (.ix (.v 0) (.ci 0)) (.tupl (.c (.Ci_ "num") (.c (.Ci_ "name") .n)))) .n))) Wo))
def ZhW:Tx:=(.ex (.blt .isi (.c (.v 2) (.c (.cst (.ty "tuple")) .n))))
def Ze6:Sx:=(.set (.nm 1) (.bin .Add (.v 1) (.call (O "_law_words") (.c (.v 2) .n))))
def Ze7:Sx:=(.drp (.meth .app (.v 1) (.c (.blt .sto (.c (.v 2) .n)) .n)))
def ZhM:Sxs:=(.c Ze6 .n)
def ZhV:Sxs:=(.c Ze7 .n)
def Zh0:Sx:=.iff ZhW ZhM ZhV
def ZaS:Sxs:=(.c Zh0 .n)
def Zkf:Sx:=.forr (.nm 2) Zb9 ZaS
def Zke:Sx:=(.ret (.v 1))
def ZhC:Sxs:=(.c Zkg (.c Zkf (.c Zke .n)))
def Zho:Fd:=⟨[(O "_law_told")],[(O "_law_told"),(O "_law_words_here"),(O "_law_part")],ZhC⟩
def ZlO:Sx:=(.ret (.bin .Add (.ci 1) (.blt .sum (.c (.comp [(O "_law_part")] [Wo] (.pl (.sl (.v 0) (Wn (.ci 1)) Wo)) (.nm 0) (Wn (.ex (.blt .isi (.c (.v 0) (.c (.cst (.ty "tuple")) .n))))) (.call (O "_law_size") (.c (.v 0) .n))) .n))))
def Zjr:Sxs:=(.c ZlO .n)
def Zi7:Fd:=⟨[(O "_law_told")],[(O "_law_told")],Zjr⟩
def Zka:Tx:=(.ex (.blt .isi (.c (.v 1) (.c (.cst (.ty "tuple")) .n))))
def ZgM:Tx:=(.ors (.c (.nt (.ex (.blt .isi (.c (.v 0) (.c (.cst (.ty "tuple")) .n))))) (.one (.ex (.cmp .NotEq (.blt .len (.c (.v 0) .n)) (.blt .len (.c (.v 1) .n)))))))
def Zd2:Sx:=(.ret (.cst (.bl Wq)))
def ZgA:Sxs:=(.c Zd2 .n)
def Zhb:Sx:=.iff ZgM ZgA .n
def Zha:Sx:=(.ret (.blt .all (.c (.comp [(O "_law_one"),(O "_law_other")] [Wo,Wo] (.zp (.v 0) (.v 1)) (.two 0 1) Wo (.call (O "_law_alike") (.c (.v 0) (.c (.v 1) .n)))) .n)))
def ZjW:Sxs:=(.c Zhb (.c Zha .n))
def Zkq:Sx:=.iff Zka ZjW .n
def Zj9:Tx:=(.ex (.blt .isi (.c (.v 1) (.c (.cst (.ty "str")) .n))))
def Zg9:Sx:=(.ret (.ands (.c (.blt .isi (.c (.v 0) (.c (.cst (.ty "str")) .n))) (.c (.cmp .Eq (.v 0) (.v 1)) .n))))
def ZjV:Sxs:=(.c Zg9 .n)
def Zkp:Sx:=.iff Zj9 ZjV .n
def Zko:Sx:=(.ret (.ands (.c (.call (O "_law_whole") (.c (.v 0) .n)) (.c (.cmp .Eq (.v 0) (.v 1)) .n))))
def Zb2:Sxs:=(.c Zkq (.c Zkp (.c Zko .n)))
def Zhv:Fd:=⟨[(O "_law_found"),(O "_law_due")],[(O "_law_found"),(O "_law_due")],Zb2⟩
structure Wds(P:Pg):Prop where
 f:Fr.Fre P
 pl:P.tb.lookup (O "places")=Wn Gn.ZfM
 gl:P.G (O "LETTERS")=Wn (.str (O "abcdefghijklmnopqrstuvwxyz"))
 gf:P.G (O "FIGURES")=Wn (.str (O "0123456789"))
 gml:P.G (O "MOST_LETTERS")=Wn (.int 8)
 gmf:P.G (O "MOST_FIGURES")=Wn (.int 6)
 gk:P.G (O "KEPT_WORDS")=Wn (.tup [.str (O "fn"),.str (O "rec"),.str (O "call"),.str (O "if")])
 n_Reader___init__:P.tb.lookup (mnm (O "Reader") (O "__init__"))=Wo
 Reader___init__:P.ms.lookup (mnm (O "Reader") (O "__init__"))=Wn Z9
 own_words:P.tb.lookup (O "own_words")=Wn Zhn
 shown:P.tb.lookup (O "shown")=Wn Zo6
 is_made_of:P.tb.lookup (O "is_made_of")=Wn ZfO
 is_name:P.tb.lookup (O "is_name")=Wn ZkL
 is_number:P.tb.lookup (O "is_number")=Wn Zhw
 law_whole:P.tb.lookup (O "_law_whole")=Wn Zhp
 law_words:P.tb.lookup (O "_law_words")=Wn Zho
 law_size:P.tb.lookup (O "_law_size")=Wn Zi7
 law_alike:P.tb.lookup (O "_law_alike")=Wn Zhv
end K03L
namespace K03L
open PySem L2 IV Tm Fr
open Gn (dep Zf)
section
variable {P:Pg}
def ZL{x:Str}:Yo x=Wp↔∀c∈x.cps.toList,c<1114112:=by unfold Yo;rw[Array.all_eq_true'];simp
def Zv(x:Str):x.length=x.cps.toList.length:=by simp[Str.length]
def Wd8(x:Str):Prop:=(∀c∈x.cps.toList,c<1114112/\c≠32)/\x.length<=8
def Wdb(x:Str):Prop:=(∀c∈x.cps.toList,c<1114112)/\x.length<=9
def Zyz(h:Wd8 x):Wdb x:=⟨λc hc=>(h.1 c hc).1,OE h.2 (by decide)⟩
def ZoG(h:NmW x):Wd8 x:=⟨λc hc=>by have:=h.1 c hc;lia,h.2.2.1⟩
noncomputable def dg(n:Int):Str:=Str.ofString (toString n)
def ZgJ(m:Nat):(dg (m:Int)).cps.toList=(Nat.toDigits 10 m).map Char.toNat:=PySem.W.KIN.signs_num m
def Zdl(m:Nat):∀c∈(dg (m:Int)).cps.toList,48<=c/\c<=57:=λc hc=>by rw[ZgJ]at hc;obtain⟨ch,h1,rfl⟩:=List.mem_map.mp hc;exact PyProof.Rows.digit_range (Nat.isDigit_of_mem_toDigits (by decide) (by decide) h1)
def ZbH(m:Nat)(h:m<1000000):1<=(dg (m:Int)).length/\(dg (m:Int)).length<=6:=by
 rw[Zv,ZgJ,Ys];refine⟨?_,(Nat.length_toDigits_le_iff (by decide) (by decide)).mpr (by exact h)⟩;rcases Nat.lt_or_ge 0 (Nat.toDigits 10 m).length with q|q
 . exact q
 . have:=(Nat.length_toDigits_le_iff (b:=10) (n:=m) (k:=1) (by decide) (by decide)).mp (by lia);rw[Nat.toDigits_of_lt_base this]at q;simp at q
def ZvT:∀m:Nat,m≠0->∃c r,Nat.toDigits 10 m=c::r/\c≠'0':=λm=>by
 induction m using Nat.strongRecOn with
 |_ m ih=>
  intro h0;by_cases h:m<10
  . rw[Nat.toDigits_of_lt_base h];refine⟨_,_,rfl,?_⟩;have:∀d:Fin 10,d.val≠0->Nat.digitChar d.val≠'0':=by decide
    exact this ⟨m,h⟩ h0
  . have hm:m % 10<10:=Nat.mod_lt m (by decide);have t:Nat.toDigits 10 (m / 10)++Nat.toDigits 10 (m % 10)=Nat.toDigits 10 (10 * (m / 10)+m % 10):=Nat.toDigits_append_toDigits (by decide) (by lia) hm;rw[Nat.div_add_mod]at t;obtain⟨c,r,e,n⟩:=ih (m / 10) (by lia) (by lia);exact⟨c,r++Nat.toDigits 10 (m % 10),by rw[<- t,e];rfl,n⟩
def Zpg:dg 0=O "0" := by decide +kernel
def Zv2{n:Int}(h0:0<=n)(h1:n<1000000):Wd8 (dg n):=by
 obtain⟨m,rfl⟩:∃m:Nat,n=m:=⟨n.toNat,by lia⟩
 exact⟨λc hc=>by have:=Zdl m c hc;lia,by have:=(ZbH m (by lia)).2;lia⟩
def ZAh{n:Int}(h0:0<=n)(h1:n<1000000):Yo (dg n)=Wp:=ZL.mpr λc hc=>((Zv2 h0 h1).1 c hc).1
def Zx2{n:Int}(h0:0<=n)(h1:n<1000000):n.natAbs.log2<1920:=by
 have:n.natAbs<2 ^ 20:=by lia
 rcases Nat.eq_zero_or_pos n.natAbs with q|q
 . rw[q];decide
 . exact Ot ((Nat.log2_lt (by lia)).mpr this) (by decide)
def Zog(sg:Str)(c:Nat):Zs0 (.str ⟨#[c]⟩) (.str sg) h=.ok (.bl (Wr (c∈sg.cps.toList))) h:=by show R.ok (D.bl (!(Builtin.Str.occurrences sg ⟨#[c]⟩ 0 sg.length 1).isEmpty)) h=_;rw[StrLaws.found_one]
theorem ZnQ{U:Tb}{sg:Str}:∀(cs:List Nat) (acc:List D),acc.length+cs.length<=1000->ZG [] (.nm 0) (tsto U Wo) (ev U (.sin (.var 0) (.var 1))) (cs.map λc=>.str ⟨#[c]⟩) [Wo,Wn (.str sg)] acc h=.ok (acc++cs.map λc=>D.bl (Wr (c∈sg.cps.toList))) h
 |[],acc,_=>by simp[ZG,Wk.stays]
 |c::cs,acc,hz=>by
  rw[Os]at hz;have z:ev U (.sin (.var 0) (.var 1)) [Wn (.str ⟨#[c]⟩),Wn (.str sg)] h=.ok (.bl (Wr (c∈sg.cps.toList))) h:=by rw[Zsw];exact Zog sg c
  exact(ZsP (by lia) z).trans ((ZnQ (U:=U) (sg:=sg) cs (acc++[.bl (Wr (c∈sg.cps.toList))]) (by simp;lia)).trans (by simp))
theorem ZcE:∀bs:List Bool,Zdp (bs.map .bl)=Wn bs
 |[]=>rfl
 |b::r=>by show(Zdp (r.map .bl)).map _=_;rw[ZcE r];rfl
def Zim{U:Tb}{a b c:Ex}{x y z:Int}(p:ev U a S h=.ok (.int x) h)(q:ev U b S h=.ok (.int y) h)(r:ev U c S h=.ok (.int z) h):ev U (.cmp2 .LtE .LtE a b c) S h=.ok (.bl (Wr (x<=y)&&Wr (y<=z))) h:=by
 rw[ev,p,R.bind_ok,q,R.bind_ok];show((R.ok (D.bl (Wr (x<=y))) h).bind _)=_;rw[R.bind_ok];by_cases e:x<=y
 . rw[decide_eq_true e];simp only[r,R.bind_ok];rfl
 . rw[decide_eq_false e];rfl
def Zrh(H:Wds P)(n:Nat)(y sg:Str)(most:Int)(h:Hd)(hz:y.length<=1000000)(hm:most<=1000):∃g,run P (n+1) (O "is_made_of") [.str y,.str sg,.int most] h=.ok (.bl (Wr (1<=(y.length:Int))&&Wr ((y.length:Int)<=most)&&y.cps.toList.all λc=>Wr (c∈sg.cps.toList))) (h++g):=by
 rw[Zg H.is_made_of rfl];have el:ev (P.tbl n) (.blt .len (.cons (.var 0) .nil)) [Wn (.str y),Wn (.str sg),Wn (.int most)] h=.ok (.int y.length) h:=ZZ (Zd rfl rfl) (if_pos (by rw[YA];lia));have e1:=Zim (U:=P.tbl n) (S:=[Wn (.str y),Wn (.str sg),Wn (.int most)]) (h:=h) (a:=.ci 1) (c:=.var 2) rfl el rfl;have lz:=Zv y;have e2:y.length<=1000->ev (P.tbl n) (.blt .all (.cons (.comp [(O "sign"),(O "signs")] [Wo,Wn 1] (.tw (.var 0)) (.nm 0) Wo (.sin (.var 0) (.var 1))) .nil)) [Wn (.str y),Wn (.str sg),Wn (.int most)] h=.ok (.bl (y.cps.toList.all λc=>Wr (c∈sg.cps.toList))) (h++[.lst (y.cps.toList.map λc=>D.bl (Wr (c∈sg.cps.toList)))]):=λhy=>by
  refine ZZ (Zd (ZfR (w:=⟨[],y.cps.toList.map λc=>.str ⟨#[c]⟩⟩) rfl (ZnQ y.cps.toList [] (by simp at lz ⊢;lia))) rfl) ?_;show Zhe [.ref h.length] _=_;have eb:Zdp ([]++y.cps.toList.map λc=>D.bl (Wr (c∈sg.cps.toList)))=Wn (y.cps.toList.map λc=>Wr (c∈sg.cps.toList)):=by rw[OB,<- ZcE,List.map_map];rfl
  simp only[Zhe,lstOf,Zjz,Yw,eb,Yt];show R.ok (D.bl ((y.cps.toList.map λc=>Wr (c∈sg.cps.toList)).all id)) _=_;rw[List.all_map];rfl
 by_cases hb:(Wr (1<=(y.length:Int))&&Wr ((y.length:Int)<=most))=Wp
 . refine⟨[.lst (y.cps.toList.map λc=>D.bl (Wr (c∈sg.cps.toList)))],?_⟩;have hb0:=hb;rw[hb]at e1 ⊢;have w:xs2 (P.tbl n) ZcI [Wn (.str y),Wn (.str sg),Wn (.int most)] h=.ok (.rt (.bl (y.cps.toList.all λc=>Wr (c∈sg.cps.toList))),[Wn (.str y),Wn (.str sg),Wn (.int most)]) (h++[.lst (y.cps.toList.map λc=>D.bl (Wr (c∈sg.cps.toList)))]):=Zb (Zh (by rw[ZbX,ZaC,e1,Zk,Zco];exact e2 (by rw[Oa,decide_eq_true_eq,decide_eq_true_eq]at hb0;lia)));exact congrArg Ze w
 . refine⟨[],?_⟩;have hb:=Bool.eq_false_iff.mpr hb;rw[hb]at e1 ⊢;rw[Yr];have w:xs2 (P.tbl n) ZcI [Wn (.str y),Wn (.str sg),Wn (.int most)] h=.ok (.rt (.bl Wq),[Wn (.str y),Wn (.str sg),Wn (.int most)]) h:=Zb (Zh (by rw[ZbX,ZaC,e1,Zk]));exact congrArg Ze w
theorem Zrj (H:Wds P) (n:Nat) (y:Str) (h:Hd) (hz:y.length<=1000000):∃ g,run P (n+2) (O "is_name") [.str y] h=.ok (.bl (Wr (1<=(y.length:Int))&&Wr ((y.length:Int)<=8)&&(y.cps.toList.all fun c=>Wr (c∈(O "abcdefghijklmnopqrstuvwxyz").cps.toList))&&!Wr (y∈[O "fn",O "rec",O "call",O "if"]))) (h++g):=by
 rw [Zg H.is_name rfl];obtain ⟨g,e⟩:=Zrh H n y (O "abcdefghijklmnopqrstuvwxyz") 8 h hz (by decide);refine ⟨g,?_⟩;have e1:ev (P.tbl (n+1)) (.call (O "is_made_of") (.cons (.var 0) (.cons (.glo (O "LETTERS")) (.cons (.glo (O "MOST_LETTERS")) .nil)))) [Wn (.str y)] h=_:=Zj e (Zd rfl (Zd (congrArg (fun o=>R.ofO o h) H.gl) (Zd (congrArg (fun o=>R.ofO o h) H.gml) rfl)));have e2:ev (P.tbl (n+1)) (.cmp .NotIn (.var 0) (.glo (O "KEPT_WORDS"))) [Wn (.str y)] (h++g)=.ok (.bl (!Wr (y∈[O "fn",O "rec",O "call",O "if"]))) (h++g):=(Zq (x:=.str y) (b:=.glo (O "KEPT_WORDS")) rfl (show ev (P.tbl (n+1)) (.glo (O "KEPT_WORDS")) [Wn (.str y)] (h++g)=_ from congrArg (fun o=>R.ofO o (h++g)) H.gk)).trans (ZcL (ss:=[O "fn",O "rec",O "call",O "if"]));generalize (Wr (1<=(y.length:Int))&&Wr ((y.length:Int)<=8)&&y.cps.toList.all fun c=>Wr (c∈(O "abcdefghijklmnopqrstuvwxyz").cps.toList))=b at e1;have w:xs2 (P.tbl (n+1)) ZkV [Wn (.str y)] h=.ok (.rt (.bl (b&&!Wr (y∈[O "fn",O "rec",O "call",O "if"]))),[Wn (.str y)]) (h++g):=Zb (Zh (by
   rw [ZbX,ZaC,e1,Zk];cases b
   . rfl
   . rw [Zco];exact e2))
 exact congrArg Ze w
def Zur:∀c:Nat,97<=c->c<=122->c∈(O "abcdefghijklmnopqrstuvwxyz").cps.toList:=λc h1 h2=>by
 have:∀d:Fin 26,d.val+97∈(O "abcdefghijklmnopqrstuvwxyz").cps.toList:=by decide +kernel
 have:=this ⟨c - 97,by lia⟩;simp only at this
 rwa [show c - 97+97=c by lia]at this
def ZuF:∀c:Nat,48<=c->c<=57->c∈(O "0123456789").cps.toList:=λc h1 h2=>by
 have:∀d:Fin 10,d.val+48∈(O "0123456789").cps.toList:=by decide +kernel
 have:=this ⟨c - 48,by lia⟩;simp only at this
 rwa [show c - 48+48=c by lia]at this
end
end K03L
namespace K03L
open PySem L2 IV Tm Fr
open Gn (dep Zf Up)
section
variable {P:Pg}
def ow:T->List Str
 |.num n=>[dg n]
 |.name x=>[x]
 |.fn x _=>[O "fn",x]
 |.rcc f x _=>[O "rec",f,x]
 |.call _ _=>[O "call"]
 |.iff _ _ _=>[O "if"]
 |.op w _ _=>[w.s]
def ws(t:T):List Str:=t.places.flatMap ow
def Zz(t:T):ws t=ow t++t.parts.flatMap ws:=by unfold ws;rw[T.places_parts,List.flatMap_cons,List.flatMap_assoc]
def Ok4:T->Prop
 |.num n=>0<=n/\n<1000000
 |.name x=>NmW x
 |.fn x e=>NmW x/\Ok4 e
 |.rcc f x e=>NmW f/\NmW x/\Ok4 e
 |.call f a=>Ok4 f/\Ok4 a
 |.iff c a b=>Ok4 c/\Ok4 a/\Ok4 b
 |.op _ a b=>Ok4 a/\Ok4 b
def ZrR{t s:T}(n:Ok4 t)(hs:s∈t.parts):Ok4 s:=by
 cases t<;>simp[T.parts]at hs
 . subst hs;exact n.2
 . subst hs;exact n.2.2
 . rcases hs with rfl|rfl;exact n.1;exact n.2
 . rcases hs with rfl|rfl|rfl;exact n.1;exact n.2.1;exact n.2.2
 . rcases hs with rfl|rfl;exact n.1;exact n.2
noncomputable def rdo(wl:Nat)(a:Int):DO:=.ins (O "Reader") [(O "words",.ref wl),(O "at",.int a)]
def Zgn{U:Tb}{e:Ex}(p:ev U e S h=.ok (.ref o) h)(q:h[o]? = Wn (rdo wl a)):ev U (.att [(O "Reader")] e (O "words")) S h=.ok (.ref wl) h:=by rw[ZsA,p,Zk];simp only[ZgF,Z8,q,rdo];rw[if_pos (by simp)];simp[We]
def Zgo{U:Tb}{e:Ex}(p:ev U e S h=.ok (.ref o) h)(q:h[o]? = Wn (rdo wl a)):ev U (.att [(O "Reader")] e (O "at")) S h=.ok (.int a) h:=by rw[ZsA,p,Zk];simp only[ZgF,Z8,q,rdo];rw[if_pos (by simp)];simp[We]
structure Rdr(h0 h:Hd)(o wl:Nat)(ss:List Str)(a:Nat):Prop where
 ob:h[o]? = Wn (rdo wl (a:Int))
 wd:h[wl]? = Wn (.lst (ss.map .str))
 up:Up o h0 h
def Zzv{h:Hd}(q:h[o]? = Wn (rdo wl a))(w:h[wl]? = Wn (.lst xs)):wl≠o:=λe=>by rw[e,q]at w;cases w
theorem Rdr.app(r:Rdr h0 h o wl ss a):Rdr h0 (h++g) o wl ss a:=⟨by rw[Oe (Gn.Zs r.ob)];exact r.ob,by rw[Oe (Gn.Zs r.wd)];exact r.wd,r.up.trans Up.app⟩
theorem Rdr.set{b:Nat}(r:Rdr h0 h o wl ss a):Rdr h0 (h.set o (rdo wl (b:Int))) o wl ss b:=⟨by rw[Ol (Gn.Zs r.ob)],by rw[Oc (YJ (Zzv r.ob r.wd))];exact r.wd,r.up.trans Up.set⟩
def Zc9{U:Tb}{es:Exs}{m:Str}(p:ev U e S h=.ok (.ref o) h)(q:h[o]? = Wn (rdo wl a))(nm:([(O "words",D.ref wl),(O "at",D.int a)]:List (Str×D)).lookup m=Wo)(r:evs U es S h=.ok xs h)(c:U.C (mnm (O "Reader") m) (.ref o::xs) h=y):ev U (.mcl (O "Reader") m e es) S h=y:=ZAe p q nm r c
noncomputable def ve3(o:Nat)(l:Int)(w:Str)(f:Nat)(k:Option D):Ev:=[Wn (.ref o),Wn (.int l),Wn (.str w),Wn (.ref f),k]
def Rdr.setf(r:Rdr hs h o wl ss a)(hf:hs.length<=f)(ho:o<hs.length)(hw:wl<hs.length):Rdr hs (h.set f x) o wl ss a:=⟨by rw[Oc (by lia)];exact r.ob,by rw[Oc (by lia)];exact r.wd,⟨by have:=r.up.1;simp;exact this,λm hm hn=>by rw[Oc (by lia)];exact r.up.2 m hm hn⟩⟩
def ZiN{x:Str}(h:∀k∈["fn", "rec", "call", "if", "+", "-", "*", "<"],x≠Str.ofString k):ZaL Gn.Zbj (.inr x)=Wo:=by have e:∀k∈["fn", "rec", "call", "if", "+", "-", "*", "<"],¬ (YC (Str.ofString k):Key)=.inr x:=λk hk q=>h k hk (Sum.inr.inj q).symm;simp only[O2,List.not_mem_nil,or_false,forall_eq_or_imp,forall_eq]at e;obtain⟨e1,e2,e3,e4,e5,e6,e7,e8⟩:=e;unfold ZaL Gn.Zbj;simp only[Wj,decide_eq_false e1,decide_eq_false e2,decide_eq_false e3,decide_eq_false e4,decide_eq_false e5,decide_eq_false e6,decide_eq_false e7,decide_eq_false e8,List.find?_nil];rfl
def Zoh{x:Str}{k:String}{c:Nat}(hk:(Str.ofString k).cps.toList=[c])(hx:c ∉ x.cps.toList):x≠Str.ofString k:=λe=>hx (by rw[e,hk];exact .head _)
def ZrW(w:NmW x):ZaL Gn.Zbj (.inr x)=Wo:=ZiN λk hk=>by
 have hn:∀c,c<97->c ∉ x.cps.toList:=λc hc m=>by have:=(w.1 c m).1;lia
 have kw:=w.2.2.2;simp only[O2,List.not_mem_nil,or_false,not_or]at kw hk;rcases hk with rfl|rfl|rfl|rfl|rfl|rfl|rfl|rfl
 . exact kw.1
 . exact kw.2.1
 . exact kw.2.2.1
 . exact kw.2.2.2
 . exact Zoh (c:=43) (by decide +kernel) (hn _ (by decide))
 . exact Zoh (c:=45) (by decide +kernel) (hn _ (by decide))
 . exact Zoh (c:=42) (by decide +kernel) (hn _ (by decide))
 . exact Zoh (c:=60) (by decide +kernel) (hn _ (by decide))
def ZsL(m:Nat)(hm:m<1000000):ZaL Gn.Zbj (.inr (dg (m:Int)))=Wo:=ZiN λk hk e=>by
 have f:=Zdl m;have dl:=ZbH m hm;have:∀k∈["fn", "rec", "call", "if", "+", "-", "*", "<"],∃c∈(Str.ofString k).cps.toList,c<48\/57<c:=by decide +kernel
 obtain⟨c,hc,q⟩:=this k hk;have:=f c (by rw[e];exact hc)
 lia
def Ziq(n:Nat):(ZM 0 n).length=n:=by simp[ZM]
def Rdr.own(r:Rdr h0 h o wl ss a):Rdr h h o wl ss a:=⟨r.ob,r.wd,Up.refl⟩
def Rdr.ext(r:Rdr h0 h o wl ss a)(q:Rdr h h' o wl ss b):Rdr h0 h' o wl ss b:=⟨q.ob,q.wd,r.up.trans q.up⟩
def ZB{h g:Hd}{k:Nat}(e:h[k]? = Wn o):(h++g)[k]? = Wn o:=by rw[Oe (Gn.Zs e)];exact e
def Zmr:∀k∈["fn", "rec", "call", "if", "+", "-", "*", "<"],(∀c∈(Str.ofString k).cps.toList,c<1114112/\c≠32)/\(Str.ofString k).length<=8:=by decide +kernel
theorem ZP:∀{t:T},Ok4 t->∀s∈t.places,Ok4 s
 |.num _,n,s,h=>by rw[Ox.mp h];exact n
 |.name _,n,s,h=>by rw[Ox.mp h];exact n
 |.fn x e,n,s,h=>by rcases O2.mp h with rfl|h;exact n;exact ZP n.2 s h
 |.rcc f x e,n,s,h=>by rcases O2.mp h with rfl|h;exact n;exact ZP n.2.2 s h
 |.call f a,n,s,h=>by
  rcases O2.mp h with rfl|h
  . exact n
  . rcases OD.mp h with h|h;exact ZP n.1 s h;exact ZP n.2 s h
 |.iff c a b,n,s,h=>by
  rcases O2.mp h with rfl|h
  . exact n
  . rcases OD.mp h with h|h
    . exact ZP n.1 s h
    . rcases OD.mp h with h|h;exact ZP n.2.1 s h;exact ZP n.2.2 s h
 |.op w f a,n,s,h=>by
  rcases O2.mp h with rfl|h
  . exact n
  . rcases OD.mp h with h|h;exact ZP n.1 s h;exact ZP n.2 s h
def Zzt{t:T}(ok:Ok4 t):∀w∈ow t,Wd8 w:=by
 cases t with
 |num n=>intro w hw;rw[Ox.mp hw];exact Zv2 ok.1 ok.2
 |name x=>intro w hw;rw[Ox.mp hw];exact ZoG ok
 |fn x e=>intro w hw;simp[ow]at hw;rcases hw with rfl|rfl;exact Zmr _ (by simp);exact ZoG ok.1
 |rcc f x e=>intro w hw;simp[ow]at hw;rcases hw with rfl|rfl|rfl;exact Zmr _ (by simp);exact ZoG ok.1;exact ZoG ok.2.1
 |call f e=>intro w hw;simp[ow]at hw;rw[hw];exact Zmr _ (by simp)
 |iff c f e=>intro w hw;simp[ow]at hw;rw[hw];exact Zmr _ (by simp)
 |op v f e=>intro w hw;simp[ow]at hw;rw[hw];cases v<;>exact Zmr _ (by simp)
def Zvi{t:T}(ok:Ok4 t):∀w∈ws t,Wd8 w:=λw hw=>by obtain⟨s,hs,hw⟩:=List.mem_flatMap.mp hw;exact Zzt (ZP ok s hs) w hw
def Zyw{t:T}(ok:Ok4 t):∀w∈ws t,Wdb w:=λw hw=>Zyz (Zvi ok w hw)
def Zns(t:T):1<=(ow t).length/\(ow t).length<=3:=by cases t<;>simp[ow]
theorem Zls:∀ps:List T,ps.length<=(ps.flatMap ow).length/\(ps.flatMap ow).length<=3 * ps.length
 |[]=>by simp
 |s::ps=>by have:=Zls ps;have:=Zns s;rw[List.flatMap_cons,OA,Os];lia
def Zqy(t:T):1<=(ws t).length/\(ws t).length<=3 * t.size:=by
 have:=Zls t.places;have:=Gn.ZiF t;unfold ws T.size
 lia
theorem Zcd{ss:List Str}(ne:ss≠[])(h:∀ w∈ss,32 ∉ w.cps.toList):ZO (ZE ss)=ss:=by
 unfold ZO ZE;rw [ZbI,Zfp (by simpa using ne) (fun w hw=>by
   obtain ⟨p,hp,rfl⟩:=List.mem_map.mp hw;exact h p hp),List.map_map]
 refine Eq.trans (List.map_congr_left (g:=fun p=>p) fun p _=>Zgr p) ?_;simp
theorem ZoW:∀(A:List (List Nat)) (c:Nat),c∈Zb8 A->c=32\/∃w∈A,c∈w
 |[],c,h=>by cases h
 |[w],c,h=>.inr ⟨w,.head _,h⟩
 |w::v::r,c,h=>by
  rcases OD.mp (show c∈w++32::Zb8 (v::r)from h)with q|q
  . exact .inr ⟨w,.head _,q⟩
  . rcases O2.mp q with q|q
    . exact .inl q
    . rcases ZoW (v::r) c q with e|⟨u,hu,e⟩
      . exact .inl e
      . exact .inr ⟨u,.tail _ hu,e⟩
theorem ZoX:∀(A:List (List Nat)),(∀w∈A,w.length<=9)->(Zb8 A).length<=10 * A.length
 |[],_=>by simp[Zb8]
 |[w],h=>by have:=h w (.head _);simp[Zb8];lia
 |w::v::r,h=>by
  have:=h w (.head _);have:=ZoX (v::r) λx hx=>h x (.tail _ hx);show(w++32::Zb8 (v::r)).length<=_;rw[OA,Os];simp only[Os]at *
  lia
def Zbq{ss:List Str}(h:∀w∈ss,Wdb w):Yo (ZE ss)=Wp:=ZL.mpr λc hc=>by
 unfold ZE at hc;rw[ZbI]at hc;rcases ZoW _ c hc with e|⟨w,hw,e⟩
 . lia
 . obtain⟨p,hp,rfl⟩:=List.mem_map.mp hw;exact(h p hp).1 c e
def ZaZ{ss:List Str}(h:∀w∈ss,Wdb w):(ZE ss).length<=10 * ss.length:=by
 rw[Zv];unfold ZE;rw[ZbI];have:=ZoX (ss.map (·.cps.toList)) λw hw=>by obtain⟨p,hp,rfl⟩:=List.mem_map.mp hw;rw[<- Zv];exact(h p hp).2
 rwa [Ys]at this
def Zuv{ss:List Str}(h:∀w∈ss,Wdb w)(hl:ss.length<=100000):JoinOk blk ss=Wp:=by
 have gen:∀(ss:List Str) (z:Nat),(∀w∈ss,Wdb w)->ss.foldl (·+·.length+blk.length) z<=z+10 * ss.length:=by
  intro ss;induction ss with
  |nil=>intro z _;simp
  |cons w r ih=>
   intro z hw;have l1:blk.length=1:=by decide +kernel
   have:=(hw w (.head _)).2;have:=ih (z+w.length+blk.length) λx hx=>hw x (.tail _ hx);rw[Wi,Os]
   lia
 have:=gen ss 0 h;unfold JoinOk Builtin.Str.tooLong;rw[<- Array.foldl_toList];show(!Wr (ss.toArray.toList.foldl (·+·.length+blk.length) 0 > sizeLine))=Wp;rw[decide_eq_false (by rw[YA];show ¬ (ss.foldl (·+·.length+blk.length) 0 > _);lia)];rfl
def ZfQ{U:Tb}{e:Ex}{ss:List Str}(p:ev U e S h=.ok (.ref r) h1)(l:h1[r]? = Wn (.lst (ss.map .str)))(h8:∀w∈ss,Wdb w)(hl:ss.length<=100000):ev U (.tmt .joi (.Ci_ " ") e) S h=.ok (.str (ZE ss)) h1:=by rw[Zsv,Zsz,Zk];show(ev U e S h).bnd _=_;rw[p,Zk];simp only[txm,lstOf,l,Yw,Fr.Zoa];exact if_pos ⟨rfl,Zuv h8 hl,Zbq h8⟩
def ZvB(H:Wds P)(n:Nat)(wl:Nat)(h:Hd):ZrX (run P (n+1)) (O "Reader") [.ref wl] h=.ok (.ref h.length) (h++[rdo wl 0]):=by unfold ZrX;rw[Zc5 H.n_Reader___init__ H.Reader___init__ (by rfl)];simp[Z9,Zb3,Zbm,Zbl,Zbt,ZiB,ZpT,YA,rdo]
def Zvr{n:Int}(h0:0<=n)(h1:n<1000000):ZbN GD .sto [.int n] h=.ok (.str (dg n)) h:=if_pos ⟨Zx2 h0 h1,ZAh h0 h1⟩
def Zy7(H:Wds P)(n:Nat)(t:T)(h:Hd)(ok:Ok4 t):run P (n+2) (O "own_words") [t.d] h=.ok (.tup ((ow t).map .str)) h:=by
 rw[Zg H.own_words rfl];have eb:=ZvC H.f.t H.f.bound_names n t h;have hl:=(Zjp t).1;have oth:∀(w:Str) (ds:List D),t.d=.tup (.str w::ds)->w≠O "num" -> w≠O "name" -> ow t=w::bnd t->Ze (xs2 (P.tbl (n+1)) Za5 [Wn t.d] h)=.ok (.tup ((ow t).map .str)) h:=λw ds e n1 n2 eo=>by have h0:ev (P.tbl (n+1)) (.ix (.var 0) (.ci 0)) [Wn t.d] h=.ok (.str w) h:=(ZK rfl rfl).trans (by rw[e];exact Zqd);have w:xs2 (P.tbl (n+1)) Za5 [Wn t.d] h=.ok (.rt (.tup ((ow t).map .str)),[Wn t.d]) h:=(Za ((Zi (Zr (ZhU h0 rfl) (decide_eq_false n1))).trans rfl)).trans ((Za ((Zi (Zr (ZhU h0 rfl) (decide_eq_false n2))).trans rfl)).trans (Zb (Zh ((Zc (Za1 (xs:=[_]) (Zd h0 rfl) (show 1<=1000 by decide)) (Zj eb rfl)).trans ((ZoD (by rw[YA];simp;lia)).trans (by rw[eo];rfl))))));exact congrArg Ze w
 cases t with
 |num z=>have w:xs2 (P.tbl (n+1)) Za5 [Wn (T.num z).d] h=.ok (.rt (.tup [.str (dg z)]),[Wn (T.num z).d]) h:=Zb ((Zt (Zr (ZhU (x:=O "num") rfl rfl) (decide_eq_true rfl))).trans (Zb (Zh (Za1 (xs:=[_]) (Zd (ZZ (xs:=[.int z]) rfl (Zvr ok.1 ok.2)) rfl) (show 1<=1000 by decide)))));exact congrArg Ze w
 |name x=>have w:xs2 (P.tbl (n+1)) Za5 [Wn (T.name x).d] h=.ok (.rt (.tup [.str x]),[Wn (T.name x).d]) h:=(Za ((Zi (Zr (ZhU (x:=O "name") rfl rfl) (decide_eq_false (by simp)))).trans rfl)).trans (Zb ((Zt (Zr (ZhU (x:=O "name") rfl rfl) (decide_eq_true rfl))).trans (Zb (Zh (Za1 (xs:=[_]) rfl (show 1<=1000 by decide))))));exact congrArg Ze w
 |fn x e=>exact oth _ _ rfl (by simp) (by simp) rfl
 |rcc f x e=>exact oth _ _ rfl (by simp) (by simp) rfl
 |call f e=>exact oth _ _ rfl (by simp) (by simp) rfl
 |iff c f e=>exact oth _ _ rfl (by simp) (by simp) rfl
 |op w f e=>exact oth _ _ rfl (by simp) (by simp) rfl
def Zq5{h:Hd}{w:Nat}(e:h[w]? = Wn x):h.set w x=h:=by
 refine List.ext_getElem? λi=>?_;by_cases q:w=i
 . subst q;rw[Ol (Gn.Zs e),e]
 . rw[Oc q]
def Zz9(e:h[i]? = Wn (.lst ys))(hz:ys.length+zs.length<=sizeLine):Zbz .ext (.ref i) [.tup zs] h=.ok .non (h.set i (.lst (ys++zs))):=by simp only[Zbz,e,ZhJ,Zun];exact if_pos hz
theorem ZoR(H:Wds P)(n:Nat)(jw:j≠w):∀(ps:List T) (acc:List Str) (h:Hd) (o:Option D),(∀s∈ps,Ok4 s)->h[j]? = Wn (.lst L)->h[w]? = Wn (.lst (acc.map .str))->acc.length+3 * ps.length<=100000 ->
 ∃o',ZH [(j,L)] (.nm 2) (xs2 (P.tbl (n+2)) ZkD) (ps.map T.d) [E,Wn (.ref w),o] h=.ok (.nx,[E,Wn (.ref w),o']) (h.set w (.lst ((acc++ps.flatMap ow).map .str)))
 |[],acc,h,o,_,hj,hw,_=>⟨o,(ZfL hj).trans (by rw[List.flatMap_nil,Yr];congr 1;exact(Zq5 hw).symm)⟩
 |s::ps,acc,h,o,hs,hj,hw,hz=>by
  rw[Os]at hz;have ol:=Zns s;have hw':(h.set w (.lst ((acc++ow s).map .str)))[w]? = Wn (.lst ((acc++ow s).map .str)):=by rw[Ol (Gn.Zs hw)]
  obtain⟨o',e⟩:=ZoR H n (E:=E) (L:=L) jw ps (acc++ow s) (h.set w (.lst ((acc++ow s).map .str))) (Wn s.d) (λx hx=>hs x (.tail _ hx)) (by rw[Oc (YJ jw)];exact hj) hw' (by simp;lia);refine⟨o',(ZgG hj (ρ1:=[E,Wn (.ref w),Wn s.d]) rfl ((Za (Zdk (Zj0 (i:=w) rfl hw (Zd (Zj (Zy7 H n s h (hs s (.head _))) rfl) rfl) ((Zz9 hw (by rw[YA];simp;lia)).trans (by rw[<- List.map_append]))))).trans rfl)).trans (e.trans ?_)⟩;rw[List.set_set,Oz];rfl
def Zon(H:Wds P)(n:Nat)(t:T)(h:Hd)(ok:Ok4 t)(hs:t.size<=30000):∃g,run P (n+3) (O "shown") [t.d] h=.ok (.str (ZE (ws t))) (h++g):=by
 have e1:=Gn.ZiD H.f.t H.pl n t (h++[.lst []]) (by lia);obtain⟨o',e2⟩:=ZoR H n (E:=Wn t.d) (j:=(h++[DO.lst []]).length) (w:=h.length) (L:=t.places.map T.d) (by simp) t.places [] (h++[.lst []]++[.lst (t.places.map T.d),.lst []]) Wo (λs hs=>ZP ok s hs) (by simp) (by simp) (by unfold T.size at hs;simp;lia);rw[OB]at e2;have eh:(h++[DO.lst []]++[DO.lst (t.places.map T.d),DO.lst []]).set h.length (DO.lst ((t.places.flatMap ow).map .str))=h++.lst ((ws t).map .str)::[.lst (t.places.map T.d),.lst []]:=by simp[ws]
 rw[eh]at e2;refine⟨.lst ((ws t).map .str)::[.lst (t.places.map T.d),.lst []],?_⟩;rw[Zg H.shown rfl];have wl:=Zqy t;have w:xs2 (P.tbl (n+2)) Zpw [Wn t.d,Wo,Wo] h=.ok (.rt (.str (ZE (ws t))),[Wn t.d,Wn (.ref h.length),o']) (h++.lst ((ws t).map .str)::[.lst (t.places.map T.d),.lst []]):=(Za (Zn (i:=1) (ZbU (xs:=[]) rfl (Yv _)))).trans ((Za ((Zax (Zjf (Zj e1 rfl) (by simp))).trans e2)).trans (Zb (Zh (ZfQ (r:=h.length) rfl (by simp) (Zyw ok) (by lia)))));exact congrArg Ze w
noncomputable def vws(t:T)(r:Nat)(o:Option D):Ev:=[Wn t.d,Wn (.ref r),o]
def Fw(d:D)(x:Str):Prop:=(d=.str x)\/∃n:Int,d=.int n/\x=dg n/\0<=n/\n<1000000
def ZuD(f:Fw d x):Gn.ZcD d=Wp:=by rcases f with rfl|⟨n,rfl,_⟩<;>rfl
def ZxK{GD}(f:Fw d x):ZbN GD .sto [d] h=.ok (.str x) h:=by
 rcases f with rfl|⟨n,rfl,rfl,h0,h1⟩
 . rfl
 . exact Zvr h0 h1
inductive Fws:List D->List Str->Prop
 |nil:Fws [] []
 |cons:Fw d x->Fws ds xs->Fws (d::ds) (x::xs)
theorem ZyC{U:Tb}:∀(ds:List D) (xs:List Str) (rest:List D) (acc:List Str) (h:Hd) (o:Option D),Fws ds xs->h[r]? = Wn (.lst (acc.map .str))->acc.length+xs.length<=100000 ->
 ∃o',ZH [] (.nm 2) (xs2 U ZaS) (ds++rest) (vws t r o) h=ZH [] (.nm 2) (xs2 U ZaS) rest (vws t r o') (h.set r (.lst ((acc++xs).map .str)))
 |[],_,rest,acc,h,o,.nil,hr,_=>⟨o,by rw[Yr,OB,Zq5 hr]⟩
 |d::ds,x::xs,rest,acc,h,o,.cons f fs,hr,hz=>by rw[Os]at hz;obtain⟨o',e⟩:=ZyC (U:=U) (t:=t) ds xs rest (acc++[x]) (h.set r (.lst ((acc++[x]).map .str))) (Wn d) fs (by rw[Ol (Gn.Zs hr)]) (by simp;lia);refine⟨o',(Zca (ρ1:=vws t r (Wn d)) rfl ((Za ((Zi (ZvS (ZuD f) rfl)).trans ((Za (Zdk (Zj0 (i:=r) rfl hr (Zd (ZZ (xs:=[d]) rfl (ZxK f)) rfl) ((Zby hr (by rw[YA,Ys];lia)).trans (by rw[List.map_append];rfl))))).trans rfl))).trans rfl)).trans (e.trans ?_)⟩;rw[List.set_set,Oz];rfl
theorem ZyB{U:Tb}{hb:Nat}:∀(ss:List T) (acc:List Str) (h:Hd) (r:Nat) (o:Option D),(∀s∈ss,∀h,∃g q,U.C (O "_law_words") [s.d] h=.ok (.ref q) (h++g)/\(h++g)[q]? = Wn (.lst ((ws s).map .str)))->h[r]? = Wn (.lst (acc.map .str))->hb<=r->hb<=h.length->acc.length+(ss.flatMap ws).length<=9000000 ->
 ∃h' r' o',ZH [] (.nm 2) (xs2 U ZaS) (ss.map T.d) (vws t r o) h=.ok (.nx,vws t r' o') h'/\h'[r']? = Wn (.lst ((acc++ss.flatMap ws).map .str))/\h.length<=h'.length/\∀m,m<hb->h'[m]? = h[m]?
 |[],acc,h,r,o,_,hr,_,_,_=>⟨h,r,o,rfl,by simpa using hr,Oq _,λ_ _=>rfl⟩
 |s::ss,acc,h,r,o,hc,hr,hbr,hbh,hz=>by rw[List.flatMap_cons,OA]at hz;obtain⟨g1,r1,c,e1⟩:=hc s (.head _) h;obtain⟨h2,r2,o2,e2,q2,l2,k2⟩:=ZyB (U:=U) (t:=t) (hb:=hb) ss (acc++ws s) (h++g1++[.lst ((acc++ws s).map .str)]) (h++g1).length (Wn s.d) (λx hx=>hc x (.tail _ hx)) (by simp) (by simp;lia) (by simp;lia) (by rw[OA];lia);refine⟨h2,r2,o2,(Zca (ρ1:=vws t r (Wn s.d)) rfl ((Za ((Zt (Zo0 s rfl)).trans ((Za (Zn (i:=1) ((Zc rfl (Zj c rfl)).trans ((add_l (ZB hr) e1 (by simp;lia)).trans (by rw[<- List.map_append]))))).trans rfl))).trans rfl)).trans e2,by rw[List.flatMap_cons,<- Oz];exact q2,by simp at l2;lia,λm hm=>?_⟩;rw[k2 m hm,Oz,Oe (by lia)]
def Zqz(H:Wds P)(m:Nat)(t:T)(h:Hd)(ok:Ok4 t)(hs:t.size<=30000)(hc:∀s∈t.parts,∀h,∃g q,run P m (O "_law_words") [s.d] h=.ok (.ref q) (h++g)/\(h++g)[q]? = Wn (.lst ((ws s).map .str))):∃g q,run P (m+1) (O "_law_words") [t.d] h=.ok (.ref q) (h++g)/\(h++g)[q]? = Wn (.lst ((ws t).map .str)):=by
 have gen:∀(ds:List D),Fws ds (ow t)->evi (P.tbl m) Zb9 (vws t h.length Wo) (h++[.lst []])=.ok ⟨[],ds++t.parts.map T.d⟩ (h++[.lst []])->∃g q,run P (m+1) (O "_law_words") [t.d] h=.ok (.ref q) (h++g)/\(h++g)[q]? = Wn (.lst ((ws t).map .str)):=λds fs ei=>by have ol:=Zns t;obtain⟨o1,e1⟩:=ZyC (U:=P.tbl m) (t:=t) (r:=h.length) ds (ow t) (t.parts.map T.d) [] (h++[.lst []]) Wo fs (by simp) (by simp;lia);rw[OB,show(h++[DO.lst []]).set h.length (.lst ((ow t).map .str))=h++[.lst ((ow t).map .str)] by simp]at e1;have wl:=Zqy t;have wp:=Zz t;obtain⟨h2,r2,o2,e2,q2,l2,k2⟩:=ZyB (U:=P.tbl m) (t:=t) (hb:=h.length) t.parts (ow t) (h++[.lst ((ow t).map .str)]) h.length o1 hc (by simp) (Oq _) (by simp) (by rw[<- OA,<- wp];lia);obtain⟨g,rfl⟩:=kept (h:=h) (h':=h2) (by simp at l2;lia) λi hi=>(k2 i hi).trans (by rw[Oe hi]);refine⟨g,r2,?_,by rw[wp];exact q2⟩;rw[Zg H.law_words rfl];have w:xs2 (P.tbl m) ZhC [Wn t.d,Wo,Wo] h=.ok (.rt (.ref r2),vws t r2 o2) (h++g):=(Za (Zn (i:=1) (ZbU (xs:=[]) rfl (Yv _)))).trans ((Za ((Zax ei).trans (e1.trans e2))).trans (Zb (Zh rfl)));exact congrArg Ze w
 have ix:∀(w:Str) (ds:List D) (b:Bool),t.d=.tup (.str w::ds)->Wr (w∈[O "num",O "name"])=b->evi (P.tbl m) Zb9 (vws t h.length Wo) (h++[.lst []])=.ok ⟨[],cutD (.str w::ds) (Wn (if b then 1 else 0)) Wo⟩ (h++[.lst []]):=λw ds b e eb=>by have q1:ev (P.tbl m) (.cmp .In (.ix (.var 0) (.ci 0)) (.tupl (.cons (.Ci_ "num") (.cons (.Ci_ "name") .nil)))) (vws t h.length Wo) (h++[.lst []])=.ok (.bl b) (h++[.lst []]):=(Zq (x:=.str w) ((ZK rfl rfl).trans (by rw[e];exact Zqd)) (Za1 (xs:=[.str (O "num"),.str (O "name")]) rfl (show 2<=1000 by decide))).trans ((Zfx (ss:=[O "num",O "name"])).trans (by rw[eb]));have q2:ev (P.tbl m) (.blt .int (.cons (.cmp .In (.ix (.var 0) (.ci 0)) (.tupl (.cons (.Ci_ "num") (.cons (.Ci_ "name") .nil)))) .nil)) (vws t h.length Wo) (h++[.lst []])=.ok (.int (if b then 1 else 0)) (h++[.lst []]):=ZZ (Zd q1 rfl) rfl;exact Zje ((Gn.Zoe (a:=.var 0) (x:=t.d) (l:=Wn (if b then 1 else 0)) (u:=Wo) rfl (Gn.Zlv q2) rfl).trans (by rw[e,ZrL]))
 have c0:∀(ds:List D),cutD ds (Wn 0) Wo=ds:=λds=>by simp[cutD,HT.sIx]
 cases t with
 |num z=>exact gen [.int z] (.cons (.inr ⟨z,rfl,rfl,ok.1,ok.2⟩) .nil) ((ix _ _ Wp rfl (by simp)).trans rfl)
 |name x=>exact gen [.str x] (.cons (.inl rfl) .nil) ((ix _ _ Wp rfl (by simp)).trans rfl)
 |fn x e=>exact gen [.str (O "fn"),.str x] (.cons (.inl rfl) (.cons (.inl rfl) .nil)) ((ix _ _ Wq rfl (by simp)).trans (by simp only[OG,if_false];rw[c0];rfl))
 |rcc f x e=>exact gen [.str (O "rec"),.str f,.str x] (.cons (.inl rfl) (.cons (.inl rfl) (.cons (.inl rfl) .nil))) ((ix _ _ Wq rfl (by simp)).trans (by simp only[OG,if_false];rw[c0];rfl))
 |call f e=>exact gen [.str (O "call")] (.cons (.inl rfl) .nil) ((ix _ _ Wq rfl (by simp)).trans (by simp only[OG,if_false];rw[c0];rfl))
 |iff c f e=>exact gen [.str (O "if")] (.cons (.inl rfl) .nil) ((ix _ _ Wq rfl (by simp)).trans (by simp only[OG,if_false];rw[c0];rfl))
 |op w f e=>exact gen [.str w.s] (.cons (.inl rfl) .nil) ((ix w.s _ Wq rfl (by simp)).trans (by simp only[OG,if_false];rw[c0];rfl))
theorem Zft(H:Wds P):∀(d n:Nat) (t:T) (h:Hd),dep t<=d->Ok4 t->t.size<=30000->∃g q,run P (n+d+1) (O "_law_words") [t.d] h=.ok (.ref q) (h++g)/\(h++g)[q]? = Wn (.lst ((ws t).map .str))
 |0,n,t,h,hd,ok,hs=>Zqz H (n+0) t h ok hs λs q=>by have:=Zf q;lia
 |d+1,n,t,h,hd,ok,hs=>Zqz H (n+(d+1)) t h ok hs λs q h'=>Zft H d n s h' (by have:=Zf q;lia) (ZrR ok q) (OE (Ztk q) hs)
theorem Zvw (H:Wds P) (m:Nat) (t:T) (h:Hd) (hc:∀ s∈t.parts,∀ h,∃ g,run P m (O "_law_size") [s.d] h=.ok (.int (s.size:Int)) (h++g)):∃ g,run P (m+1) (O "_law_size") [t.d] h=.ok (.int (t.size:Int)) (h++g):=by
 rw [Zg H.law_size rfl];obtain ⟨g,e⟩:=Gn.Ze3 (U:=P.tbl m) (e:=.call (O "_law_size") (.cons (.var 0) .nil)) (f:=fun s=>(s.size:Int)) t.parts [] h (fun s hs h1=>by
   obtain ⟨g,e⟩:=hc s hs h1;exact ⟨g,Zj e rfl⟩) (by cases t<;>simp [T.parts])
 have e1:=Gn.Ze4 (U:=P.tbl m) (e:=.call (O "_law_size") (.cons (.var 0) .nil)) (acc:=[]) (rest:=t.parts.map T.d) (h:=h) (fr t).tail (ZkY t) (by rw [YA];simp);rw [e,OB] at e1;refine ⟨g++[.lst (t.parts.map fun s=>.int s.size)],?_⟩;have sm:ZbN P.GD .sum [.ref (h++g).length] (h++g++[.lst (t.parts.map fun s=>D.int s.size)])=.ok (.int (t.parts.map fun s=>(s.size:Int)).sum) (h++g++[.lst (t.parts.map fun s=>D.int s.size)]):=by
   simp only [ZbN,Zu8,lstOf,Zjz,Yw,Gn.ints_map];rfl
 have w:xs2 (P.tbl m) Zjr [Wn t.d] h=.ok (.rt (.int (t.size:Int)),[Wn t.d]) (h++g++[.lst (t.parts.map fun s=>D.int s.size)]):=Zb (Zh ((Zc (x:=.int 1) rfl (ZZ (Zd (ZfR (Zje (ZqZ rfl)) e1) rfl) sm)).trans (by rw [Gn.Ztl];rfl)));rw [<- Oz];exact congrArg Ze w
theorem Zc6(H:Wds P):∀(d n:Nat) (t:T) (h:Hd),dep t<=d->∃g,run P (n+d+1) (O "_law_size") [t.d] h=.ok (.int (t.size:Int)) (h++g)
 |0,n,t,h,hd=>Zvw H (n+0) t h λs q=>by have:=Zf q;lia
 |d+1,n,t,h,hd=>Zvw H (n+(d+1)) t h λs q h'=>Zc6 H d n s h' (by have:=Zf q;lia)
def ZnT(H:Wds P)(n:Nat)(x:Str)(h:Hd):run P (n+1) (O "_law_alike") [.str x,.str x] h=.ok (.bl Wp) h:=by rw[Zg H.law_alike rfl];have q:ev (P.tbl n) (.cmp .Eq (.var 0) (.var 1)) [Wn (.str x),Wn (.str x)] h=.ok (.bl Wp) h:=(Zq rfl rfl).trans (by rw[Zb7,ZaE,decide_eq_true rfl];rfl);have w:xs2 (P.tbl n) Zb2 [Wn (.str x),Wn (.str x)] h=.ok (.rt (.bl Wp),[Wn (.str x),Wn (.str x)]) h:=(Za ((Zi (Z7 (b:=false) (ZZ (Zd rfl (Zd rfl rfl)) rfl))).trans rfl)).trans (Zb ((Zt (Z7 (b:=true) (ZZ (Zd rfl (Zd rfl rfl)) rfl))).trans (Zb (Zh (by rw[ZbX,ZaC];exact q)))));exact congrArg Ze w
def Ztq(H:Wds P)(n:Nat)(z:Int)(h:Hd):run P (n+1) (O "_law_whole") [.int z] h=.ok (.bl Wp) h:=by rw[Zg H.law_whole rfl];exact rfl
def Zyi(H:Wds P)(n:Nat)(z:Int)(h:Hd):run P (n+2) (O "_law_alike") [.int z,.int z] h=.ok (.bl Wp) h:=by rw[Zg H.law_alike rfl];have q:ev (P.tbl (n+1)) (.cmp .Eq (.var 0) (.var 1)) [Wn (.int z),Wn (.int z)] h=.ok (.bl Wp) h:=(Zq rfl rfl).trans (by rw[Zb7,Zc7,decide_eq_true rfl];rfl);have q1:ev (P.tbl (n+1)) (.call (O "_law_whole") (.cons (.var 0) .nil)) [Wn (.int z),Wn (.int z)] h=.ok (.bl Wp) h:=Zj (Ztq H n z h) rfl;have w:xs2 (P.tbl (n+1)) Zb2 [Wn (.int z),Wn (.int z)] h=.ok (.rt (.bl Wp),[Wn (.int z),Wn (.int z)]) h:=(Za ((Zi (Z7 (b:=false) (ZZ (Zd rfl (Zd rfl rfl)) rfl))).trans rfl)).trans ((Za ((Zi (Z7 (b:=false) (ZZ (Zd rfl (Zd rfl rfl)) rfl))).trans rfl)).trans (Zb (Zh (by rw[ZbX,ZaC,q1,Zk,Zco];exact q))));exact congrArg Ze w
theorem ZAq{U:Tb}:∀(xs acc:List D) (h:Hd),(∀x∈xs,∀h,∃g,U.C (O "_law_alike") [x,x] h=.ok (.bl Wp) (h++g))->acc.length+xs.length<=1000->∃g,ZG [] (.two 0 1) (tsto U Wo) (ev U (.call (O "_law_alike") (.cons (.var 0) (.cons (.var 1) .nil)))) (Zin xs xs) [Wo,Wo] acc h=.ok (acc++xs.map λ_=>D.bl Wp) (h++g)
 |[],acc,h,_,_=>⟨[],by simp[Zin,ZG,Wk.stays]⟩
 |x::xs,acc,h,hc,hz=>by rw[Os]at hz;obtain⟨g,e⟩:=hc x (.head _) h;obtain⟨g',e'⟩:=ZAq (U:=U) xs (acc++[.bl Wp]) (h++g) (λy hy=>hc y (.tail _ hy)) (by simp;lia);refine⟨g++g',?_⟩;show ZG [] (.two 0 1) (tsto U Wo) (ev U (.call (O "_law_alike") (.cons (.var 0) (.cons (.var 1) .nil)))) (.tup [x,x]::Zin xs xs) [Wo,Wo] acc h=_;rw[Z4,if_pos ⟨rfl,by rw[YA];lia⟩];show(ev U (.call (O "_law_alike") (.cons (.var 0) (.cons (.var 1) .nil))) [Wn x,Wn x] h).plain.bnd _=_;rw[Zj (U:=U) (es:=.cons (.var 0) (.cons (.var 1) .nil)) (S:=[Wn x,Wn x]) e rfl];show ZG [] (.two 0 1) (tsto U Wo) (ev U (.call (O "_law_alike") (.cons (.var 0) (.cons (.var 1) .nil)))) (Zin xs xs) [Wo,Wo] (acc++[.bl Wp]) (h++g)=_;rw[e'];simp
theorem Zs3 (H:Wds P) (k:Nat) (t:T) (h:Hd) (hc:∀ s∈t.parts,∀ h,∃ g,run P (k+2) (O "_law_alike") [s.d,s.d] h=.ok (.bl Wp) (h++g)):∃ g,run P (k+3) (O "_law_alike") [t.d,t.d] h=.ok (.bl Wp) (h++g):=by
 have fl:∀ d,Gn.ZcD d=Wp->∀ h,∃ g,run P (k+2) (O "_law_alike") [d,d] h=.ok (.bl Wp) (h++g):=fun d f h=>⟨[],by
   rw [Yr];cases d with
   | str x=>exact ZnT H (k+1) x h
   | int z=>exact Zyi H k z h
   | _=>cases f⟩
 have bl:=Zjp t;obtain ⟨g,e⟩:=ZAq (U:=P.tbl (k+2)) (fr t++t.parts.map T.d) [] h (fun x hx=>by
   rcases OD.mp hx with q|q
   . have:Gn.ZcD x=Wp:=by cases t<;>simp [fr] at q<;>(try rcases q with rfl|rfl|rfl)<;>(try rcases q with rfl|rfl)<;>(try subst q)<;>rfl
     exact fl x this
   . obtain ⟨s,hs,rfl⟩:=List.mem_map.mp q;exact hc s hs) (by cases t<;>simp [fr,T.parts])
 rw [OB] at e;generalize eb:((fr t++t.parts.map T.d).map fun _=>D.bl Wp)=bs at e;refine ⟨g++[.lst bs],?_⟩;rw [Zg H.law_alike rfl,<- Oz];have et:=ZBH t;have al:ZbN P.GD .all [.ref (h++g).length] (h++g++[.lst bs])=.ok (.bl Wp) (h++g++[.lst bs]):=by
   have eo:Zdp bs=Wn ((fr t++t.parts.map T.d).map fun _=>Wp):=by rw [<- ZcE,<- eb,List.map_map];rfl
   show Zhe [.ref (h++g).length] _=_;simp only [Zhe,lstOf,Zjz,Yw,eo,Yt];show R.ok (D.bl (((fr t++t.parts.map T.d).map fun _=>Wp).all id)) _=_;rw [List.all_map];simp
 have ln:∀ (i:Nat) (hi:i<2),ev (P.tbl (k+2)) (.blt .len (.cons (.var i) .nil)) [Wn t.d,Wn t.d] h=.ok (.int ((fr t++t.parts.map T.d).length:Int)) h:=fun i hi=>by
   have:i=0\/i=1:=by lia
   rcases this with rfl|rfl
   . exact ZZ (Zd rfl rfl) (by rw [et];rfl)
   . exact ZZ (Zd rfl rfl) (by rw [et];rfl)
 have zp:evi (P.tbl (k+2)) (.zp (.var 0) (.var 1)) [Wn t.d,Wn t.d] h=.ok ⟨[],Zin (fr t++t.parts.map T.d) (fr t++t.parts.map T.d)⟩ h:=by
   show zpD t.d t.d h=_;rw [et];exact if_pos rfl
 have w:xs2 (P.tbl (k+2)) Zb2 [Wn t.d,Wn t.d] h=.ok (.rt (.bl Wp),[Wn t.d,Wn t.d]) (h++g++[.lst bs]):=Zb ((Zt (Zo0 t rfl)).trans ((Za ((Zi (Zmf (Zld (b:=true) (Zo0 t rfl)) (Z7 (b:=false) ((Zq (ln 0 (by lia)) (ln 1 (by lia))).trans (by rw [Zk7,Zc7,decide_eq_true rfl];rfl))))).trans rfl)).trans (Zb (Zh (ZZ (Zd (ZfR zp e) rfl) al)))));exact congrArg Ze w
theorem Zk3(H:Wds P):∀(d n:Nat) (t:T) (h:Hd),dep t<=d->∃g,run P (n+d+3) (O "_law_alike") [t.d,t.d] h=.ok (.bl Wp) (h++g)
 |0,n,t,h,hd=>Zs3 H (n+0) t h λs q=>by have:=Zf q;lia
 |d+1,n,t,h,hd=>Zs3 H (n+(d+1)) t h λs q h'=>Zk3 H d n s h' (by have:=Zf q;lia)
end
end K03L
namespace K04L
open PySem L2 IV
def ZcT:Tx:=(.nt (.ex (.call (O "is_number") (.c (.v 0) .n))))
def Ze5:Sx:=(.raf (O "NoTerm") (.v 0))
def ZhL:Sxs:=(.c Ze5 .n)
def ZhZ:Sx:=.iff ZcT ZhL .n
def ZhY:Sx:=(.ret (.blt .itx (.c (.v 0) .n)))
def Zcb:Sxs:=(.c ZhZ (.c ZhY .n))
def Zec:Fd:=⟨[(O "text")],[(O "text")],Zcb⟩
def Zac:Tx:=(.ex (.cmp .Eq (.att [(O "Reader")] (.v 0) (O "at")) (.blt .len (.c (.att [(O "Reader")] (.v 0) (O "words")) .n))))
def Zcv:Sx:=(.rai (O "NoTerm") (.Ci_ "a word too few"))
def Zdf:Sxs:=(.c Zcv .n)
def ZdN:Sx:=.iff Zac Zdf .n
def Zbb:Sx:=(.set (.nm 1) (.ix (.att [(O "Reader")] (.v 0) (O "words")) (.att [(O "Reader")] (.v 0) (O "at"))))
def Zba:Sx:=(.auga [(O "Reader")] (.v 0) (O "at") (.ci 1))
def ZdM:Sx:=(.ret (.v 1))
def Zaz:Sxs:=(.c ZdN (.c Zbb (.c Zba (.c ZdM .n))))
def ZbF:Fd:=⟨[(O "self")],[(O "self"),(O "word")],Zaz⟩
def Zbc:Sx:=(.set (.nm 1) (.mcl (O "Reader") (O "take_word") (.v 0) .n))
def Za3:Tx:=(.nt (.ex (.call (O "is_name") (.c (.v 1) .n))))
def Zcw:Sx:=(.raf (O "NoTerm") (.v 1))
def Zdg:Sxs:=(.c Zcw .n)
def ZdP:Sx:=.iff Za3 Zdg .n
def ZdO:Sx:=(.ret (.v 1))
def Z5:Sxs:=(.c Zbc (.c ZdP (.c ZdO .n)))
def ZbG:Fd:=⟨[(O "self")],[(O "self"),(O "word")],Z5⟩
def ZbM:Tx:=(.ex (.cmp .Gt (.v 1) (.glo (O "MOST_DEEP"))))
def Zbe:Sx:=(.rai (O "NoTerm") (.Ci_ "too deep"))
def ZbB:Sxs:=(.c Zbe .n)
def Zam:Sx:=.iff ZbM ZbB .n
def Zal:Sx:=(.set (.nm 2) (.mcl (O "Reader") (O "take_word") (.v 0) .n))
def Zad:Tx:=(.ex (.cmp .NotIn (.v 2) (.glo (O "FORMS"))))
def Zbd:Sx:=(.ret (.call (O "leaf_of") (.c (.v 2) .n)))
def ZbA:Sxs:=(.c Zbd .n)
def Zak:Sx:=.iff Zad ZbA .n
def Zaj:Sx:=(.set (.nm 3) (.lstl (.c (.v 2) .n)))
def ZbD:Ix:=(.rng (.ix (.ix (.glo (O "FORMS")) (.v 2)) (.ci 0)))
def Zbh:Sx:=(.drp (.meth .app (.v 3) (.c (.mcl (O "Reader") (O "take_name") (.v 0) .n) .n)))
def Zx:Sxs:=(.c Zbh .n)
def Zai:Sx:=.forr (.nm 4) ZbD Zx
def ZbC:Ix:=(.rng (.ix (.ix (.glo (O "FORMS")) (.v 2)) (.ci 1)))
def Zbg:Sx:=(.drp (.meth .app (.v 3) (.c (.mcl (O "Reader") (O "take_expression") (.v 0) (.c (.bin .Add (.v 1) (.ci 1)) .n)) .n)))
def Zw:Sxs:=(.c Zbg .n)
def Zah:Sx:=.forr (.nm 4) ZbC Zw
def Zag:Sx:=(.ret (.blt .tup (.c (.v 3) .n)))
def Zl:Sxs:=(.c Zam (.c Zal (.c Zak (.c Zaj (.c Zai (.c Zah (.c Zag .n)))))))
def Zas:Fd:=⟨[(O "self"),(O "level")],[(O "self"),(O "level"),(O "word"),(O "found"),(O "k")],Zl⟩
def Zbk:Tx:=(.ex (.cmp .Lt (.att [(O "Reader")] (.v 0) (O "at")) (.blt .len (.c (.att [(O "Reader")] (.v 0) (O "words")) .n))))
def ZcJ:Sx:=(.rai (O "NoTerm") (.Ci_ "a word too many"))
def ZdZ:Sxs:=(.c ZcJ .n)
def Zd3:Sx:=.iff Zbk ZdZ .n
def ZaJ:Sxs:=(.c Zd3 .n)
def ZbW:Fd:=⟨[(O "self")],[(O "self")],ZaJ⟩
def ZcX:Tx:=(.ex (.call (O "free_names") (.c (.v 0) .n)))
def Zfh:Sx:=(.rai (O "NoName") (.Ci_ "a free name"))
def ZhQ:Sxs:=(.c Zfh .n)
def Zc1:Sx:=.iff ZcX ZhQ .n
def ZhT:Ix:=(.pl (.call (O "places") (.c (.v 0) .n)))
def Zb0:Tx:=(.ex (.call (O "has_name_twice") (.c (.v 1) .n)))
def ZdL:Sx:=(.rai (O "NoName") (.Ci_ "a rec with one name twice"))
def ZfF:Sxs:=(.c ZdL .n)
def Zgl:Sx:=.iff Zb0 ZfF .n
def ZcO:Sxs:=(.c Zgl .n)
def Zc0:Sx:=.forr (.nm 1) ZhT ZcO
def ZaV:Sxs:=(.c Zc1 (.c Zc0 .n))
def Zee:Fd:=⟨[(O "E")],[(O "E"),(O "place")],ZaV⟩
def ZmX:Sx:=(.set (.nm 1) (.mk (O "Reader") (.c (.tmt .spl (.v 0) (.Ci_ " ")) .n)))
def ZmW:Sx:=(.set (.nm 2) (.mcl (O "Reader") (O "take_expression") (.v 1) (.c (.ci 0) .n)))
def ZmV:Sx:=(.drp (.mcl (O "Reader") (O "take_end") (.v 1) .n))
def ZmQ:Tx:=(.ex (.cmp .Gt (.blt .len (.c (.call (O "places") (.c (.v 2) .n)) .n)) (.glo (O "MOST_PLACES"))))
def ZmT:Sx:=(.rai (O "NoTerm") (.Ci_ "too many places"))
def Zr9:Sxs:=(.c ZmT .n)
def ZmU:Sx:=.iff ZmQ Zr9 .n
def ZsZ:Sx:=(.drp (.call (O "check_names") (.c (.v 2) .n)))
def ZsY:Sx:=(.ret (.v 2))
def ZgN:Sxs:=(.c ZmX (.c ZmW (.c ZmV (.c ZmU (.c ZsZ (.c ZsY .n))))))
def Zsr:Fd:=⟨[(O "text")],[(O "text"),(O "reader"),(O "E")],ZgN⟩
def ZcV:Tx:=(.ors (.c (.nt (.ex (.cmp2 .LtE .LtE (.ci 1) (.blt .len (.c (.v 0) .n)) (.ci 8)))) (.one (.ex (.cmp .In (.v 0) (.tupl (.c (.Ci_ "fn") (.c (.Ci_ "rec") (.c (.Ci_ "call") (.c (.Ci_ "if") .n))))))))))
def Zfc:Sx:=(.ret (.cst (.bl Wq)))
def ZhO:Sxs:=(.c Zfc .n)
def Zh8:Sx:=.iff ZcV ZhO .n
def Zh7:Sx:=(.ret (.blt .all (.c (.comp [(O "_law_sign")] [Wo] (.tw (.v 0)) (.nm 0) Wo (.sin (.v 0) (.Ci_ "abcdefghijklmnopqrstuvwxyz"))) .n)))
def Zat:Sxs:=(.c Zh8 (.c Zh7 .n))
def Zed:Fd:=⟨[(O "_law_word")],[(O "_law_word")],Zat⟩
def ZaG:Tx:=(.ors (.c (.nt (.ex (.cmp2 .LtE .LtE (.ci 1) (.blt .len (.c (.v 0) .n)) (.ci 6)))) (.one (.ands (.c (.ex (.cmp .Eq (.ix (.v 0) (.ci 0)) (.Ci_ "0"))) (.one (.ex (.cmp .NotEq (.v 0) (.Ci_ "0")))))))))
def ZdE:Sx:=(.ret (.cst (.bl Wq)))
def ZfE:Sxs:=(.c ZdE .n)
def Zgg:Sx:=.iff ZaG ZfE .n
def Zgf:Sx:=(.ret (.blt .all (.c (.comp [(O "_law_sign")] [Wo] (.tw (.v 0)) (.nm 0) Wo (.sin (.v 0) (.Ci_ "0123456789"))) .n)))
def ZQ:Sxs:=(.c Zgg (.c Zgf .n))
def ZcR:Fd:=⟨[(O "_law_word")],[(O "_law_word")],ZQ⟩
def Zj7:Tx:=(.ex (.cmp .Eq (.v 0) (.Ci_ "fn")))
def ZgT:Sx:=(.ret (.Ci_ "ne"))
def ZjI:Sxs:=(.c ZgT .n)
def Zev:Sx:=.iff Zj7 ZjI .n
def Zj6:Tx:=(.ex (.cmp .Eq (.v 0) (.Ci_ "rec")))
def ZgS:Sx:=(.ret (.Ci_ "nne"))
def ZjH:Sxs:=(.c ZgS .n)
def Zeu:Sx:=.iff Zj6 ZjH .n
def Zj5:Tx:=(.ex (.cmp .Eq (.v 0) (.Ci_ "if")))
def ZgR:Sx:=(.ret (.Ci_ "eee"))
def ZjG:Sxs:=(.c ZgR .n)
def Zet:Sx:=.iff Zj5 ZjG .n
def Zeg:Tx:=(.ex (.cmp .In (.v 0) (.tupl (.c (.Ci_ "call") (.c (.Ci_ "+") (.c (.Ci_ "-") (.c (.Ci_ "*") (.c (.Ci_ "<") .n))))))))
def ZgQ:Sx:=(.ret (.Ci_ "ee"))
def ZjF:Sxs:=(.c ZgQ .n)
def Zes:Sx:=.iff Zeg ZjF .n
def Zki:Sx:=(.ret (.Ci_ ""))
def Zae:Sxs:=(.c Zev (.c Zeu (.c Zet (.c Zes (.c Zki .n)))))
def Zhq:Fd:=⟨[(O "_law_word")],[(O "_law_word")],Zae⟩
def Zge:Sx:=(.set (.nm 2) (.lstl (.c (.v 1) .n)))
def ZfJ:Ix:=(.tw (.call (O "_law_shape") (.c (.v 1) .n)))
def ZbK:Tx:=(.ex (.cmp .Eq (.v 0) (.lstl .n)))
def Zgd:Sx:=(.ret (.cst .non))
def ZiV:Sxs:=(.c Zgd .n)
def ZdD:Sx:=.iff ZbK ZiV .n
def ZdC:Sx:=(.set (.nm 4) (.meth .pop (.v 0) .n))
def ZbJ:Tx:=(.ands (.c (.ex (.cmp .Eq (.v 3) (.Ci_ "n"))) (.one (.ex (.cmp .NotEq (.ix (.v 4) (.ci 0)) (.Ci_ "name"))))))
def Zgc:Sx:=(.ret (.cst .non))
def ZiU:Sxs:=(.c Zgc .n)
def Zju:Sx:=.iff ZbJ ZiU .n
def Zjt:Sx:=(.drp (.meth .app (.v 2) (.c (.ix (.lstl (.c (.v 4) (.c (.ix (.v 4) (.ci 1)) .n))) (.blt .int (.c (.cmp .Eq (.v 3) (.Ci_ "n")) .n))) .n)))
def Zan:Sxs:=(.c ZdD (.c ZdC (.c Zju (.c Zjt .n))))
def ZlT:Sx:=.forr (.nm 3) ZfJ Zan
def ZlS:Sx:=(.ret (.blt .tup (.c (.v 2) .n)))
def Zfb:Sxs:=(.c Zge (.c ZlT (.c ZlS .n)))
def Zja:Fd:=⟨[(O "_law_pile"),(O "_law_word")],[(O "_law_pile"),(O "_law_word"),(O "_law_made"),(O "_law_sign"),(O "_law_part")],Zfb⟩
def Zf8:Sx:=(.set (.nm 1) (.lstl .n))
def ZfI:Ix:=(.rev (.v 0))
def Zdn:Tx:=(.ex (.cmp .NotEq (.call (O "_law_shape") (.c (.v 2) .n)) (.Ci_ "")))
def ZaH:Sx:=(.set (.nm 3) (.call (O "_law_laid") (.c (.v 1) (.c (.v 2) .n))))
def ZfV:Tx:=(.ex (.cmp .Is (.v 3) (.cst .non)))
def Zdx:Sx:=(.ret (.cst .non))
def ZfC:Sxs:=(.c Zdx .n)
def Zf6:Sx:=.iff ZfV ZfC .n
def Zf5:Sx:=(.drp (.meth .app (.v 1) (.c (.v 3) .n)))
def ZbZ:Tx:=(.ex (.call (O "_law_is_name") (.c (.v 2) .n)))
def Zdy:Sx:=(.drp (.meth .app (.v 1) (.c (.tupl (.c (.Ci_ "name") (.c (.v 2) .n))) .n)))
def Za2:Tx:=(.ex (.call (O "_law_is_number") (.c (.v 2) .n)))
def Zcq:Sx:=(.drp (.meth .app (.v 1) (.c (.tupl (.c (.Ci_ "num") (.c (.blt .itx (.c (.v 2) .n)) .n))) .n)))
def Zcr:Sx:=(.ret (.cst .non))
def Zdd:Sxs:=(.c Zcq .n)
def Zdj:Sxs:=(.c Zcr .n)
def Zdz:Sx:=.iff Za2 Zdd Zdj
def ZfD:Sxs:=(.c Zdy .n)
def ZfS:Sxs:=(.c Zdz .n)
def Zf7:Sx:=.iff ZbZ ZfD ZfS
def ZiT:Sxs:=(.c ZaH (.c Zf6 (.c Zf5 .n)))
def Zjg:Sxs:=(.c Zf7 .n)
def Zjs:Sx:=.iff Zdn ZiT Zjg
def ZaF:Sxs:=(.c Zjs .n)
def ZlP:Sx:=.forr (.nm 2) ZfI ZaF
def ZfU:Tx:=(.ex (.cmp .NotEq (.blt .len (.c (.v 1) .n)) (.ci 1)))
def Zh3:Sx:=(.ret (.cst .non))
def Zli:Sxs:=(.c Zh3 .n)
def Zf4:Sx:=.iff ZfU Zli .n
def Zf3:Sx:=(.ret (.ix (.v 1) (.ci 0)))
def Ze8:Sxs:=(.c Zf8 (.c ZlP (.c Zf4 (.c Zf3 .n))))
def Zi8:Fd:=⟨[(O "_law_words_here")],[(O "_law_words_here"),(O "_law_pile"),(O "_law_word"),(O "_law_told")],Ze8⟩
def ZlU:Sx:=(.ret (.maxd (.comp [(O "_law_part")] [Wo] (.pl (.sl (.v 0) (Wn (.ci 1)) Wo)) (.nm 0) (Wn (.ex (.blt .isi (.c (.v 0) (.c (.cst (.ty "tuple")) .n))))) (.bin .Add (.ci 1) (.call (O "_law_deep") (.c (.v 0) .n)))) (.ci 0)))
def Zjw:Sxs:=(.c ZlU .n)
def Zjc:Fd:=⟨[(O "_law_told")],[(O "_law_told")],Zjw⟩
def ZlJ:Tx:=(.ex (.cmp .Eq (.ix (.v 0) (.ci 0)) (.Ci_ "name")))
def Zic:Sx:=(.ret (.cmp .In (.ix (.v 0) (.ci 1)) (.v 1)))
def Zlm:Sxs:=(.c Zic .n)
def Zgj:Sx:=.iff ZlJ Zlm .n
def Zgi:Sx:=(.set (.nm 2) (.blt .lst (.c (.v 1) .n)))
def ZlI:Tx:=(.ex (.cmp .Eq (.ix (.v 0) (.ci 0)) (.Ci_ "fn")))
def Zib:Sx:=(.drp (.meth .app (.v 2) (.c (.ix (.v 0) (.ci 1)) .n)))
def Zll:Sxs:=(.c Zib .n)
def ZcH:Sx:=.iff ZlI Zll .n
def ZlH:Tx:=(.ex (.cmp .Eq (.ix (.v 0) (.ci 0)) (.Ci_ "rec")))
def ZcW:Tx:=(.ex (.cmp .Eq (.ix (.v 0) (.ci 1)) (.ix (.v 0) (.ci 2))))
def Zfd:Sx:=(.ret (.cst (.bl Wq)))
def ZhP:Sxs:=(.c Zfd .n)
def Zia:Sx:=.iff ZcW ZhP .n
def Zh9:Sx:=(.set (.nm 2) (.bin .Add (.v 2) (.lstl (.c (.ix (.v 0) (.ci 1)) (.c (.ix (.v 0) (.ci 2)) .n)))))
def Zlk:Sxs:=(.c Zia (.c Zh9 .n))
def Zgh:Sx:=.iff ZlH Zlk .n
def ZcG:Sx:=(.ret (.blt .all (.c (.comp [(O "_law_part"),(O "_law_more")] [Wo,Wn 2] (.pl (.sl (.v 0) (Wn (.ci 1)) Wo)) (.nm 0) (Wn (.ex (.blt .isi (.c (.v 0) (.c (.cst (.ty "tuple")) .n))))) (.call (O "_law_good") (.c (.v 0) (.c (.v 1) .n)))) .n)))
def ZaO:Sxs:=(.c Zgj (.c Zgi (.c ZcH (.c Zgh (.c ZcG .n)))))
def Zjb:Fd:=⟨[(O "_law_told"),(O "_law_bound")],[(O "_law_told"),(O "_law_bound"),(O "_law_more")],ZaO⟩
def Zcs:Sx:=(.set (.nm 1) (.lstl .n))
def Zao:Sx:=(.tre 1 2 (O "read") (.c (.v 0) .n) (O "StrideError") [(O "ValueError"),(O "NoTerm"),(O "NoName"),(O "Wide")] [((O "NoName"),[Wp,Wq,Wp,Wq]),((O "NoTerm"),[Wp,Wp,Wq,Wq])])
def ZgX:Sx:=(.ret (.v 1))
def ZaI:Sxs:=(.c Zcs (.c Zao (.c ZgX .n)))
def Zdh:Fd:=⟨[(O "_law_text")],[(O "_law_text"),(O "_law_kinds"),(O "e")],ZaI⟩
def ZeA:Sx:=(.set (.nm 1) (.tmt .joi (.Ci_ " ") (.v 0)))
def Zcc:Sx:=(.set (.nm 2) (.call (O "_law_read") (.c (.tmt .spl (.v 1) (.Ci_ " ")) .n)))
def Zej:Tx:=(.ors (.c (.ex (.cmp .Is (.v 2) (.cst .non))) (.c (.ex (.cmp .Gt (.call (O "_law_size") (.c (.v 2) .n)) (.ci 100))) (.one (.ex (.cmp .Gt (.call (O "_law_deep") (.c (.v 2) .n)) (.ci 20)))))))
def ZgW:Sx:=(.ret (.cmp .Eq (.call (O "_law_kinds_of") (.c (.v 1) .n)) (.lstl (.c (.cst (.bl Wp)) (.c (.cst (.bl Wp)) (.c (.cst (.bl Wq)) (.c (.cst (.bl Wq)) .n)))))))
def ZjL:Sxs:=(.c ZgW .n)
def Zez:Sx:=.iff Zej ZjL .n
def Zei:Tx:=(.nt (.ex (.call (O "_law_good") (.c (.v 2) (.c (.lstl .n) .n)))))
def ZgV:Sx:=(.ret (.cmp .Eq (.call (O "_law_kinds_of") (.c (.v 1) .n)) (.lstl (.c (.cst (.bl Wp)) (.c (.cst (.bl Wq)) (.c (.cst (.bl Wp)) (.c (.cst (.bl Wq)) .n)))))))
def ZjK:Sxs:=(.c ZgV .n)
def Zey:Sx:=.iff Zei ZjK .n
def Zex:Sx:=(.set (.nm 3) (.call (O "read") (.c (.v 1) .n)))
def Zeh:Tx:=(.ors (.c (.nt (.ex (.call (O "_law_alike") (.c (.v 3) (.c (.v 2) .n))))) (.one (.nt (.ex (.call (O "_law_alike") (.c (.call (O "shown") (.c (.v 3) .n)) (.c (.v 1) .n))))))))
def ZgU:Sx:=(.ret (.cst (.bl Wq)))
def ZjJ:Sxs:=(.c ZgU .n)
def Zew:Sx:=.iff Zeh ZjJ .n
def Zkj:Sx:=(.ret (.call (O "_law_other_blanks") (.c (.v 1) (.c (.bin .Add (.bin .Mult (.call (O "_law_size") (.c (.v 2) .n)) (.ci 7)) (.blt .len (.c (.v 1) .n))) .n))))
def Zb1:Sxs:=(.c ZeA (.c Zcc (.c Zez (.c Zey (.c Zex (.c Zew (.c Zkj .n)))))))
def Zhr:Fd:=⟨[(O "_law_words_here")],[(O "_law_words_here"),(O "_law_text"),(O "_law_told"),(O "_law_found")],Zb1⟩
def ZhE:Sx:=(.set (.nm 2) (.lstl (.c (.Ci_ "") (.c (.Ci_ "0") (.c (.Ci_ "00") (.c (.Ci_ "07") (.c (.Ci_ "999999") (.c (.Ci_ "1000000") (.c (.Ci_ "-1") (.c (.Ci_ "A") (.c (.Ci_ "a1") (.c (.Ci_ "abcdefghi") (.c (.Ci_ "fn") (.c (.Ci_ "rec") (.c (.Ci_ "call") (.c (.Ci_ "if") (.c (.Ci_ "+") (.c (.Ci_ "-") .n))))))))))))))))))
def ZhD:Sx:=(.set (.nm 2) (.bin .Add (.v 2) (.lstl (.c (.Ci_ "*") (.c (.Ci_ "<") (.c (.Ci_ "=") (.c (.Ci_ "(") (.c (.Ci_ "a") (.c (.Ci_ "abcdefgh") (.c (.Ci_ "fnn") (.c (.Ci_ "Fn") (.c (.Ci_ "\n") (.c (.Ci_ "0x1") (.c (.Ci_ "re") (.c (.Ci_ "calls") .n)))))))))))))))
def Zm1:Sx:=(.ret (.ix (.bin .Add (.v 2) (.v 1)) (.bin .Mod (.v 0) (.ci 33))))
def ZkU:Sxs:=(.c ZhE (.c ZhD (.c Zm1 .n)))
def ZkJ:Fd:=⟨[(O "_law_cell"),(O "_law_names_here")],[(O "_law_cell"),(O "_law_names_here"),(O "_law_odd_here")],ZkU⟩
def Zdw:Sx:=(.set (.nm 3) (.bin .Mod (.bin .FloorDiv (.v 1) (.ci 4)) (.bin .Add (.blt .len (.c (.v 0) .n)) (.ci 1))))
def Zdv:Sx:=(.set (.nm 4) (.call (O "_law_odd") (.c (.bin .FloorDiv (.v 1) (.ci 2400)) (.c (.v 2) .n))))
def Zdu:Sx:=(.set (.nm 5) (.bin .Mod (.v 1) (.ci 4)))
def Zjo:Tx:=(.ex (.cmp .Eq (.v 5) (.ci 0)))
def Zf1:Sx:=(.ret (.bin .Add (.sl (.v 0) Wo (Wn (.v 3))) (.sl (.v 0) (Wn (.bin .Add (.v 3) (.ci 1))) Wo)))
def ZiS:Sxs:=(.c Zf1 .n)
def Zdt:Sx:=.iff Zjo ZiS .n
def Zjn:Tx:=(.ex (.cmp .Eq (.v 5) (.ci 1)))
def Zf0:Sx:=(.ret (.bin .Add (.bin .Add (.sl (.v 0) Wo (Wn (.v 3))) (.sl (.v 0) (Wn (.v 3)) (Wn (.bin .Add (.v 3) (.ci 1))))) (.sl (.v 0) (Wn (.v 3)) Wo)))
def ZiR:Sxs:=(.c Zf0 .n)
def Zds:Sx:=.iff Zjn ZiR .n
def Zjm:Tx:=(.ex (.cmp .Eq (.v 5) (.ci 2)))
def ZfZ:Sx:=(.ret (.bin .Add (.bin .Add (.sl (.v 0) Wo (Wn (.v 3))) (.lstl (.c (.v 4) .n))) (.sl (.v 0) (Wn (.bin .Add (.v 3) (.ci 1))) Wo)))
def ZiQ:Sxs:=(.c ZfZ .n)
def Zdr:Sx:=.iff Zjm ZiQ .n
def Zdq:Sx:=(.ret (.bin .Add (.bin .Add (.sl (.v 0) Wo (Wn (.v 3))) (.lstl (.c (.v 4) .n))) (.sl (.v 0) (Wn (.v 3)) Wo)))
def Zf2:Sxs:=(.c Zdw (.c Zdv (.c Zdu (.c Zdt (.c Zds (.c Zdr (.c Zdq .n)))))))
def ZfN:Fd:=⟨[(O "_law_words_here"),(O "_law_cell"),(O "_law_names_here")],[(O "_law_words_here"),(O "_law_cell"),(O "_law_names_here"),(O "_law_at"),(O "_law_more"),(O "_law_way")],Zf2⟩
def ZlG:Tx:=(.ex (.cmp .Lt (.v 0) (.ci 2)))
def Zh2:Sx:=(.ret (.tupl (.c (.Ci_ "num") (.c (.ci 7) .n))))
def Zlh:Sxs:=(.c Zh2 .n)
def ZfY:Sx:=.iff ZlG Zlh .n
def ZfT:Tx:=(.ex (.cmp .Eq (.v 0) (.ci 2)))
def Zh1:Sx:=(.ret (.tupl (.c (.Ci_ "fn") (.c (.Ci_ "w") (.c (.tupl (.c (.Ci_ "num") (.c (.ci 0) .n))) .n)))))
def Zlg:Sxs:=(.c Zh1 .n)
def ZlN:Sx:=.iff ZfT Zlg .n
def ZlM:Sx:=(.ret (.tupl (.c (.Ci_ "+") (.c (.call (O "_law_wide") (.c (.bin .FloorDiv (.bin .Sub (.v 0) (.ci 1)) (.ci 2)) .n)) (.c (.call (O "_law_wide") (.c (.bin .Sub (.bin .Sub (.v 0) (.ci 1)) (.bin .FloorDiv (.bin .Sub (.v 0) (.ci 1)) (.ci 2))) .n)) .n)))))
def ZcF:Sxs:=(.c ZfY (.c ZlN (.c ZlM .n)))
def Zi6:Fd:=⟨[(O "_law_size_here")],[(O "_law_size_here")],ZcF⟩
def ZeW:Sx:=(.set (.nm 2) (.call (O "_law_drawn") (.c (.v 0) (.c (.v 1) (.c (.ci 6) .n)))))
def ZeV:Sx:=(.set (.nm 3) (.bin .Add (.call (O "_law_next") (.c (.v 0) .n)) (.blt .len (.c (.ix (.v 0) (.ci 0)) .n))))
def Zer:Tx:=(.ex (.cmp .Eq (.bin .Mod (.v 3) (.ci 6)) (.ci 1)))
def Zg8:Sx:=(.set (.nm 2) (.tupl (.c (.Ci_ "+") (.c (.v 2) (.c (.tupl (.c (.Ci_ "call") (.c (.v 2) (.c (.ix (.lstl (.c (.v 2) (.c (.tupl (.c (.Ci_ "num") (.c (.ci 1) .n))) .n))) (.bin .Mod (.bin .FloorDiv (.v 3) (.ci 6)) (.ci 2))) .n)))) .n)))))
def ZjU:Sxs:=(.c Zg8 .n)
def ZeU:Sx:=.iff Zer ZjU .n
def Zeq:Tx:=(.ex (.cmp .Gt (.bin .Mod (.bin .FloorDiv (.v 3) (.ci 12)) (.ci 4)) (.ci 0)))
def ZgD:Ix:=(.pl (.v 1))
def Zff:Sx:=(.set (.nm 2) (.tupl (.c (.Ci_ "fn") (.c (.v 4) (.c (.v 2) .n)))))
def Zcm:Sxs:=(.c Zff .n)
def Zg7:Sx:=.forr (.nm 4) ZgD Zcm
def ZjT:Sxs:=(.c Zg7 .n)
def ZeT:Sx:=.iff Zeq ZjT .n
def Zep:Tx:=(.ex (.cmp .Eq (.bin .Mod (.bin .FloorDiv (.v 3) (.ci 48)) (.ci 4)) (.ci 1)))
def ZgC:Ix:=(.rng (.bin .Add (.ci 11) (.bin .Mod (.bin .FloorDiv (.v 3) (.ci 192)) (.ci 6))))
def Zfe:Sx:=(.set (.nm 2) (.tupl (.c (.Ci_ "fn") (.c (.ix (.v 1) (.bin .Mod (.v 5) (.ci 5))) (.c (.v 2) .n)))))
def Zcl:Sxs:=(.c Zfe .n)
def Zg6:Sx:=.forr (.nm 5) ZgC Zcl
def ZjS:Sxs:=(.c Zg6 .n)
def ZeS:Sx:=.iff Zep ZjS .n
def Zj8:Tx:=(.ands (.c (.ex (.cmp .Eq (.bin .Mod (.bin .FloorDiv (.v 3) (.ci 5)) (.ci 5)) (.ci 1))) (.one (.ex (.cmp .Lt (.call (O "_law_size") (.c (.v 2) .n)) (.ci 90))))))
def Zg5:Sx:=(.set (.nm 2) (.tupl (.c (.Ci_ "+") (.c (.v 2) (.c (.call (O "_law_wide") (.c (.bin .Sub (.bin .Add (.ci 98) (.bin .Mod (.bin .FloorDiv (.v 3) (.ci 25)) (.ci 4))) (.call (O "_law_size") (.c (.v 2) .n))) .n)) .n)))))
def ZjR:Sxs:=(.c Zg5 .n)
def ZeR:Sx:=.iff Zj8 ZjR .n
def ZeQ:Sx:=(.set (.nm 6) (.call (O "_law_words") (.c (.v 2) .n)))
def ZjY:Ix:=(.rng (.ix (.lstl (.c (.ci 0) (.c (.ci 1) (.c (.ci 2) (.c (.ci 0) (.c (.ci 1) (.c (.ci 3) .n))))))) (.bin .Mod (.bin .FloorDiv (.v 3) (.ci 1152)) (.ci 6))))
def Zid:Sx:=(.set (.nm 6) (.call (O "_law_spoilt") (.c (.v 6) (.c (.call (O "_law_mixed") (.c (.v 3) (.c (.v 5) .n))) (.c (.v 1) .n)))))
def Zea:Sxs:=(.c Zid .n)
def ZeP:Sx:=.forr (.nm 5) ZjY Zea
def Zeo:Tx:=(.ex (.cmp .Eq (.bin .Mod (.bin .FloorDiv (.v 3) (.ci 6912)) (.ci 12)) (.ci 5)))
def Zct:Sx:=(.set (.nm 7) (.bin .Mod (.bin .FloorDiv (.v 3) (.ci 82944)) (.bin .Add (.blt .len (.c (.v 6) .n)) (.ci 1))))
def Zg4:Sx:=(.set (.nm 6) (.bin .Add (.bin .Add (.sl (.v 6) Wo (Wn (.v 7))) (.lstl (.c (.Ci_ "") .n))) (.sl (.v 6) (Wn (.v 7)) Wo)))
def ZjQ:Sxs:=(.c Zct (.c Zg4 .n))
def ZeO:Sx:=.iff Zeo ZjQ .n
def ZdH:Sx:=(.ret (.v 6))
def Zm2:Sxs:=(.c ZeW (.c ZeV (.c ZeU (.c ZeT (.c ZeS (.c ZeR (.c ZeQ (.c ZeP (.c ZeO (.c ZdH .n))))))))))
def Zhu:Fd:=⟨[(O "_law_state"),(O "_law_names_here")],[(O "_law_state"),(O "_law_names_here"),(O "_law_told"),(O "_law_cell"),(O "_law_name"),(O "_law_k"),(O "_law_words_here"),(O "_law_at")],Zm2⟩
def Za9:Sx:=(.set (.nm 2) (.bin .Mod (.v 1) (.blt .len (.c (.tmt .spl (.v 0) (.Ci_ " ")) .n))))
def Za8:Sx:=(.set (.nm 3) (.ix (.lstl (.c (.Ci_ "\n") (.c (.Ci_ "	") (.c (.Ci_ "\n ") .n)))) (.bin .Mod (.bin .FloorDiv (.v 1) (.ci 100)) (.ci 3))))
def Za7:Sx:=(.set (.nm 4) (.tmt .spl (.v 0) (.Ci_ " ")))
def Za6:Sx:=(.set (.nm 5) (.lstl (.c (.bin .Add (.v 0) (.v 3)) (.c (.bin .Add (.v 3) (.v 0)) (.c (.bin .Add (.bin .Add (.tmt .joi (.Ci_ " ") (.sl (.v 4) Wo (Wn (.v 2)))) (.v 3)) (.tmt .joi (.Ci_ " ") (.sl (.v 4) (Wn (.v 2)) Wo))) .n)))))
def ZdA:Sx:=(.ret (.blt .all (.c (.comp [(O "_law_one")] [Wo] (.pl (.v 5)) (.nm 0) Wo (.cmp .Eq (.call (O "_law_kinds_of") (.c (.v 0) .n)) (.lstl (.c (.cst (.bl Wp)) (.c (.cst (.bl Wp)) (.c (.cst (.bl Wq)) (.c (.cst (.bl Wq)) .n))))))) .n)))
def ZbP:Sxs:=(.c Za9 (.c Za8 (.c Za7 (.c Za6 (.c ZdA .n)))))
def ZbE:Fd:=⟨[(O "_law_text"),(O "_law_cell")],[(O "_law_text"),(O "_law_cell"),(O "_law_at"),(O "_law_other"),(O "_law_words_here"),(O "_law_texts")],ZbP⟩
def ZhH:Sx:=(.set (.nm 1) (.ix (.lstl (.c (.Ci_ "fn a") (.c (.Ci_ "+ 1") (.c (.Ci_ "call f") (.c (.Ci_ "if 1 2") (.c (.Ci_ "rec f a") (.c (.Ci_ "*") .n))))))) (.bin .Mod (.v 0) (.ci 6))))
def ZhG:Sx:=(.set (.nm 2) (.bin .Add (.ci 21) (.bin .Mod (.bin .FloorDiv (.v 0) (.ci 6)) (.ci 180))))
def Zhz:Tx:=(.ex (.cmp .Eq (.bin .Mod (.bin .FloorDiv (.v 0) (.ci 1080)) (.ci 4)) (.ci 1)))
def Zjv:Sx:=(.set (.nm 2) (.bin .Add (.ci 200) (.bin .Mod (.bin .FloorDiv (.v 0) (.ci 4320)) (.bin .Sub (.bin .FloorDiv (.ci 19500) (.bin .Add (.blt .len (.c (.v 1) .n)) (.ci 1))) (.ci 199)))))
def Zmo:Sxs:=(.c Zjv .n)
def ZdG:Sx:=.iff Zhz Zmo .n
def ZdF:Sx:=(.ret (.tmt .joi (.Ci_ " ") (.bin .Add (.lmu (.lstl (.c (.v 1) .n)) (.v 2)) (.lstl (.c (.ix (.lstl (.c (.Ci_ "7") (.c (.Ci_ "a") (.c (.Ci_ "") .n)))) (.bin .Mod (.bin .FloorDiv (.v 0) (.ci 97)) (.ci 3))) .n)))))
def ZgY:Sxs:=(.c ZhH (.c ZhG (.c ZdG (.c ZdF .n))))
def ZkK:Fd:=⟨[(O "_law_cell")],[(O "_law_cell"),(O "_law_ahead"),(O "_law_many")],ZgY⟩
def ZuU:Tx:=(.ex (.cmp .NotEq (.call (O "_law_kinds_of") (.c (.call (O "_law_far") (.c (.call (O "_law_mixed") (.c (.bin .Add (.blt .len (.c (.v 0) .n)) (.bin .Mod (.blt .sum (.c (.sl (.v 0) Wo (Wn (.ci 63))) .n)) (.ci 1000003))) (.c (.ci 77) .n))) .n)) .n)) (.lstl (.c (.cst (.bl Wp)) (.c (.cst (.bl Wp)) (.c (.cst (.bl Wq)) (.c (.cst (.bl Wq)) .n)))))))
def ZnS:Sx:=(.ret (.cst (.bl Wq)))
def Zut:Sxs:=(.c ZnS .n)
def ZpA:Sx:=.iff ZuU Zut .n
def Zpz:Sx:=(.set (.nm 1) (.lstl (.c (.comp [(O "_law_k"),(O "_law_cell")] [Wo,Wo] (.enu (.bin .Add (.lstl (.c (.ci 0) .n)) (.sl (.v 0) Wo (Wn (.ci 150))))) (.two 0 1) Wo (.call (O "_law_mixed") (.c (.v 1) (.c (.v 0) .n)))) (.c (.ci 1) .n))))
def Zpy:Sx:=(.set (.nm 2) (.call (O "_law_names") (.c (.ix (.ix (.v 1) (.ci 0)) (.ci 0)) .n)))
def ZlK:Tx:=(.ex (.cmp .LtE (.ix (.v 1) (.ci 1)) (.blt .len (.c (.ix (.v 1) (.ci 0)) .n))))
def Zqo:Tx:=(.nt (.ex (.call (O "_law_right") (.c (.call (O "_law_built") (.c (.v 1) (.c (.v 2) .n))) .n))))
def ZlV:Sx:=(.ret (.cst (.bl Wq)))
def Zqa:Sxs:=(.c ZlV .n)
def Zqs:Sx:=.iff Zqo Zqa .n
def ZoS:Sxs:=(.c Zqs .n)
def Zpx:Sx:=.whl ZlK ZoS
def Zu6:Sx:=(.ret (.cst (.bl Wp)))
def Zv7:Sxs:=(.c ZpA (.c Zpz (.c Zpy (.c Zpx (.c Zu6 .n)))))
def ZmC:Fd:=⟨[(O "_law_script")],[(O "_law_script"),(O "_law_state"),(O "_law_names_here")],Zv7⟩
structure Lw(P:Pg):Prop where
 w:K03L.Wds P
 m:K02L.Mak0 P
 gd:P.G (O "MOST_DEEP")=Wn (.int 20)
 gp:P.G (O "MOST_PLACES")=Wn (.int 100)
 leaf_of:P.tb.lookup (O "leaf_of")=Wn K03L.ZkI
 has_name_twice:P.tb.lookup (O "has_name_twice")=Wn K03L.Zcn
 read_number:P.tb.lookup (O "read_number")=Wn Zec
 n_Reader_take_word:P.tb.lookup (mnm (O "Reader") (O "take_word"))=Wo
 Reader_take_word:P.ms.lookup (mnm (O "Reader") (O "take_word"))=Wn ZbF
 n_Reader_take_name:P.tb.lookup (mnm (O "Reader") (O "take_name"))=Wo
 Reader_take_name:P.ms.lookup (mnm (O "Reader") (O "take_name"))=Wn ZbG
 n_Reader_take_expression:P.tb.lookup (mnm (O "Reader") (O "take_expression"))=Wo
 Reader_take_expression:P.ms.lookup (mnm (O "Reader") (O "take_expression"))=Wn Zas
 n_Reader_take_end:P.tb.lookup (mnm (O "Reader") (O "take_end"))=Wo
 Reader_take_end:P.ms.lookup (mnm (O "Reader") (O "take_end"))=Wn ZbW
 check_names:P.tb.lookup (O "check_names")=Wn Zee
 read:P.tb.lookup (O "read")=Wn Zsr
 law_is_name:P.tb.lookup (O "_law_is_name")=Wn Zed
 law_is_number:P.tb.lookup (O "_law_is_number")=Wn ZcR
 law_shape:P.tb.lookup (O "_law_shape")=Wn Zhq
 law_laid:P.tb.lookup (O "_law_laid")=Wn Zja
 law_read:P.tb.lookup (O "_law_read")=Wn Zi8
 law_deep:P.tb.lookup (O "_law_deep")=Wn Zjc
 law_good:P.tb.lookup (O "_law_good")=Wn Zjb
 law_kinds_of:P.tb.lookup (O "_law_kinds_of")=Wn Zdh
 law_right:P.tb.lookup (O "_law_right")=Wn Zhr
 law_odd:P.tb.lookup (O "_law_odd")=Wn ZkJ
 law_spoilt:P.tb.lookup (O "_law_spoilt")=Wn ZfN
 law_wide:P.tb.lookup (O "_law_wide")=Wn Zi6
 law_built:P.tb.lookup (O "_law_built")=Wn Zhu
 law_other_blanks:P.tb.lookup (O "_law_other_blanks")=Wn ZbE
 law_far:P.tb.lookup (O "_law_far")=Wn ZkK
 law:P.tb.lookup (O "law")=Wn ZmC
end K04L
namespace K04L
open PySem L2 IV Tm Fr
open K03L (Ok4 ws ow dg Zz)
open Gn (dep Zf)
def Zua(t:T)(h:bnd t≠[]\/t.parts≠[]):Ok4 t↔(∀x∈bnd t,NmW x)/\∀s∈t.parts,Ok4 s:=by cases t<;>simp[Ok4,bnd,T.parts,and_assoc]at h ⊢
noncomputable def shp(w:Str):Option (Nat×Nat):=
 if w=O "fn" then Wn (1,1)else if w=O "rec" then Wn (2,1)else if w=O "call" then Wn (0,2)else if w=O "if" then Wn (0,3)
 else if w=O "+" then Wn (0,2)else if w=O "-" then Wn (0,2)else if w=O "*" then Wn (0,2)else if w=O "<" then Wn (0,2)else Wo
noncomputable def ZqD(w:Str):Wd:=if w=Wd.s .add then .add else if w=Wd.s .sub then .sub else if w=Wd.s .mul then .mul else .lt
def mkT(w:Str)(xs:List Str)(ts:List T):T:=match xs,ts with
 |[x],[e]=>.fn x e
 |[f,x],[e]=>.rcc f x e
 |_,[a,b]=>if w=O "call" then .call a b else .op (ZqD w) a b
 |_,[c,a,b]=>.iff c a b
 |_,_=>.num 0
def ZkB{w:Str}(h:shp w=Wn (nb,np)):nb<=2/\np<=3/\1<=np/\∀xs ts,xs.length=nb->ts.length=np->ow (mkT w xs ts)=w::xs/\bnd (mkT w xs ts)=xs/\(mkT w xs ts).parts=ts/\(mkT w xs ts).d=.tup (.str w::xs.map .str++ts.map T.d):=by
 unfold shp at h;have one:∀{α:Type} (l:List α),l.length=1->∃a,l=[a]:=λl h=>List.length_eq_one_iff.mp h;have two:∀{α:Type} (l:List α),l.length=2->∃a b,l=[a,b]:=λl h=>match l,h with|[a,b],_=>⟨a,b,rfl⟩
 have three:∀{α:Type} (l:List α),l.length=3->∃a b c,l=[a,b,c]:=λl h=>match l,h with|[a,b,c],_=>⟨a,b,c,rfl⟩
 have ops:∀o:Wd,w=Wd.s o->ZqD w=o/\w≠O "call" := λo e=>by subst e;cases o<;>exact⟨by decide +kernel,by decide +kernel⟩
 have opc:∀o:Wd,w=Wd.s o->∀xs ts,xs.length=0->ts.length=2->ow (mkT w xs ts)=w::xs/\bnd (mkT w xs ts)=xs/\(mkT w xs ts).parts=ts/\(mkT w xs ts).d=.tup (.str w::xs.map .str++ts.map T.d):=λo e xs ts e1 e2=>by
  obtain⟨a,b,rfl⟩:=two _ e2;cases List.length_eq_zero_iff.mp e1;obtain⟨q1,q2⟩:=ops o e;have:mkT w [] [a,b]=.op o a b:=by unfold mkT;simp only;rw[if_neg q2,q1]
  rw[this,e];exact⟨rfl,rfl,rfl,rfl⟩
 repeat' (split at h)
 all_goals (cases h)
 . rename_i e;subst e;refine⟨by decide,by decide,by decide,λxs ts e1 e2=>?_⟩;obtain⟨x,rfl⟩:=one _ e1;obtain⟨e,rfl⟩:=one _ e2;exact⟨rfl,rfl,rfl,rfl⟩
 . rename_i e;subst e;refine⟨by decide,by decide,by decide,λxs ts e1 e2=>?_⟩;obtain⟨f,x,rfl⟩:=two _ e1;obtain⟨e,rfl⟩:=one _ e2;exact⟨rfl,rfl,rfl,rfl⟩
 . rename_i e;subst e;refine⟨by decide,by decide,by decide,λxs ts e1 e2=>?_⟩;cases List.length_eq_zero_iff.mp e1;obtain⟨f,x,rfl⟩:=two _ e2;exact⟨rfl,rfl,rfl,rfl⟩
 . rename_i e;subst e;refine⟨by decide,by decide,by decide,λxs ts e1 e2=>?_⟩;cases List.length_eq_zero_iff.mp e1;obtain⟨f,x,y,rfl⟩:=three _ e2;exact⟨rfl,rfl,rfl,rfl⟩
 . rename_i e;exact⟨by decide,by decide,by decide,opc .add e⟩
 . rename_i e;exact⟨by decide,by decide,by decide,opc .sub e⟩
 . rename_i e;exact⟨by decide,by decide,by decide,opc .mul e⟩
 . rename_i e;exact⟨by decide,by decide,by decide,opc .lt e⟩
def ZoE(t:T)(h:t.parts≠[]):∃w,shp w=Wn ((bnd t).length,t.parts.length)/\ow t=w::bnd t/\mkT w (bnd t) t.parts=t:=by
 cases t with
 |num n=>exact absurd rfl h
 |name x=>exact absurd rfl h
 |fn x e=>exact⟨O "fn",show shp (O "fn")=Wn (1,1) by decide +kernel,rfl,rfl⟩
 |rcc f x e=>exact⟨O "rec",show shp (O "rec")=Wn (2,1) by decide +kernel,rfl,rfl⟩
 |call f a=>exact⟨O "call",show shp (O "call")=Wn (0,2) by decide +kernel,rfl,show(if O "call" = O "call" then T.call f a else .op (ZqD (O "call")) f a)=_ from if_pos rfl⟩
 |iff c a b=>exact⟨O "if",show shp (O "if")=Wn (0,3) by decide +kernel,rfl,rfl⟩
 |op o a b=>
  refine⟨o.s,show shp o.s=Wn (0,2) by cases o<;>decide +kernel,rfl,?_⟩;show(if o.s=O "call" then T.call a b else .op (ZqD o.s) a b)=_;have e:ZqD o.s=o/\o.s≠O "call" := by cases o<;>exact⟨by decide +kernel,by decide +kernel⟩
  rw[if_neg e.2,e.1]
def Ziz(w:Str):(shp w=Wo/\ZaL Gn.Zbj (.inr w)=Wo)\/∃nb np,shp w=Wn (nb,np)/\ZaL Gn.Zbj (.inr w)=Wn (.tup [.int (nb:Nat),.int (np:Nat)]):=by
 unfold shp
 repeat' split
 all_goals (first|(rename_i e;subst e;exact .inr ⟨_,_,rfl,by kernel_rfl⟩)|skip)
 refine .inl ⟨rfl,K03L.ZiN λk hk=>?_⟩;simp only[O2,List.not_mem_nil,or_false]at hk;rcases hk with rfl|rfl|rfl|rfl|rfl|rfl|rfl|rfl<;>assumption
def Zq0(h:NmW x):shp x=Wo:=by
 rcases Ziz x with h1|⟨_,_,_,h1⟩
 . exact h1.1
 . rw[K03L.ZrW h]at h1;cases h1
def Zwz(m:Nat)(h:m<1000000):shp (dg (m:Int))=Wo:=by
 rcases Ziz (dg (m:Int))with h1|⟨_,_,_,h1⟩
 . exact h1.1
 . rw[K03L.ZsL m h]at h1;cases h1
end K04L
namespace K04L
open PySem L2 IV Tm Fr
open K03L (Ok4 ws ow dg Zz ZgJ Zdl ZbH ZvT Zv)
open Gn (dep Zf)
noncomputable def isNm(y:Str):Bool:=Wr (1<=(y.length:Int))&&Wr ((y.length:Int)<=8)&&(y.cps.toList.all λc=>Wr (c∈(O "abcdefghijklmnopqrstuvwxyz").cps.toList))&&!Wr (y∈[O "fn",O "rec",O "call",O "if"])
noncomputable def Zlt(y:Str):Bool:=Wr (1<=(y.length:Int))&&Wr ((y.length:Int)<=6)&&y.cps.toList.all λc=>Wr (c∈(O "0123456789").cps.toList)
def Zc2(y:Str):Bool:=Zlt y&&(Wr (y=O "0") || !Wr (y.cps.toList.head? = Wn 48))
def Zuq:∀c∈(O "abcdefghijklmnopqrstuvwxyz").cps.toList,97<=c/\c<=122:=by decide +kernel
def ZuE:∀c∈(O "0123456789").cps.toList,48<=c/\c<=57:=by decide +kernel
def Z6:isNm y=Wp↔NmW y:=by
 unfold isNm NmW;simp only[Oa,decide_eq_true_eq,Bool.not_eq_true',decide_eq_false_iff_not,OC];constructor
 . rintro ⟨⟨⟨h1,h2⟩,h3⟩,h4⟩;exact⟨λc hc=>Zuq c (h3 c hc),by lia,by lia,h4⟩
 . rintro ⟨h3,h1,h2,h4⟩;exact⟨⟨⟨by lia,by lia⟩,λc hc=>K03L.Zur c (h3 c hc).1 (h3 c hc).2⟩,h4⟩
theorem Zpf:∀(n:Nat) (cs:List Char),cs.length=n->cs≠[]->(∀c∈cs,c.isDigit=Wp)->cs.head?≠Wn '0'->∃m,0<m/\m<10 ^ n/\Nat.toDigits 10 m=cs
 |0,cs,h,ne,_,_=>absurd (List.length_eq_zero_iff.mp h) ne
 |n+1,cs,h,ne,hd,h0=>by
  obtain⟨ds,c,rfl⟩:∃ds c,cs=ds++[c]:=⟨cs.dropLast,cs.getLast ne,(List.dropLast_concat_getLast ne).symm⟩
  have hc:=hd c (by simp);obtain⟨k,hk,rfl⟩:∃k,k<10/\c=Nat.digitChar k:=by
   have h1:=PyProof.Rows.digit_range hc;refine⟨c.toNat - 48,by lia,?_⟩;have:∀d:Fin 10,(Nat.digitChar d.val).toNat=d.val+48:=by decide
   have e:=this ⟨c.toNat - 48,by lia⟩;simp only at e;exact Char.ext (UInt32.toNat_inj.mp (show c.toNat=(Nat.digitChar (c.toNat - 48)).toNat by rw[e];lia))
  have hl:ds.length=n:=by simpa using h
  cases n with
  |zero=>
   have e:=List.length_eq_zero_iff.mp hl;subst e;refine⟨k,?_,by lia,Nat.toDigits_of_lt_base hk⟩;rcases Nat.eq_zero_or_pos k with q|q
   . subst q;exact absurd rfl h0
   . exact q
  |succ n=>
   have nd:ds≠[]:=λe=>by rw[e]at hl;cases hl
   obtain⟨m,m0,m1,m2⟩:=Zpf (n+1) ds hl nd (λx hx=>hd x (by simp[hx])) (λe=>h0 (by cases ds with|nil=>cases e|cons a r=>exact e));refine⟨10 * m+k,by lia,by rw[Nat.pow_succ];lia,?_⟩;have t:Nat.toDigits 10 m++Nat.toDigits 10 k=Nat.toDigits 10 (10 * m+k):=Nat.toDigits_append_toDigits (by decide) m0 hk;rw[<- t,m2,Nat.toDigits_of_lt_base hk]
theorem Zlc(h:Zc2 y=Wp):∃ m:Nat,m<1000000/\y=dg (m:Int):=by
 unfold Zc2 Zlt at h;simp only [Oa,Wm,decide_eq_true_eq,Bool.not_eq_true',decide_eq_false_iff_not,OC] at h;obtain ⟨⟨⟨h1,h2⟩,h3⟩,h4⟩:=h;rcases h4 with h4|h4
 . exact ⟨0,by decide,by rw [h4];exact K03L.Zpg.symm⟩
 . have lc:=Zv y;have ne:y.cps.toList≠[]:=fun e=>by rw [e] at lc;simp at lc;lia
   have hr:=fun c hc=>ZuE c (h3 c hc);have tn:∀ c∈y.cps.toList,(Char.ofNat c).toNat=c:=fun c hc=>by
     have:=hr c hc;have f:∀ d:Fin 10,(Char.ofNat (d.val+48)).toNat=d.val+48:=by decide
     have:=f ⟨c - 48,by lia⟩;simp only at this
     rwa [show c - 48+48=c by lia] at this
   have back:(y.cps.toList.map Char.ofNat).map Char.toNat=y.cps.toList:=by
     rw [List.map_map];exact (List.map_congr_left (g:=id) tn).trans (List.map_id _)
   obtain ⟨m,m0,m1,m2⟩:=Zpf y.length (y.cps.toList.map Char.ofNat) (by rw [Ys];exact lc.symm) (by simpa using ne) (fun c hc=>by
     obtain ⟨k,hk,rfl⟩:=List.mem_map.mp hc;have e:=tn k hk;have r:=hr k hk;simp only [Char.isDigit,Oa,decide_eq_true_eq];exact ⟨UInt32.le_iff_toNat_le.mpr (show 48<=(Char.ofNat k).toNat by rw [e];exact r.1),UInt32.le_iff_toNat_le.mpr (show (Char.ofNat k).toNat<=57 by rw [e];exact r.2)⟩) (fun q=>h4 (by
     cases e:y.cps.toList with
     | nil=>exact absurd e ne
     | cons c r =>
       rw [e] at q;have q:Char.ofNat c='0':=by simpa using q
       have:=tn c (by rw [e];exact .head _);rw [q] at this;rw [List.head?_cons,<- this];rfl))
   refine ⟨m,Ot m1 (OE (Nat.pow_le_pow_right (by decide) (show y.length<=6 by lia)) (by decide)),?_⟩;have e2:(dg (m:Int)).cps.toList=y.cps.toList:=by rw [ZgJ,m2,back]
   cases y with
   | mk a =>
     generalize dg (m:Int)=z at e2;cases z with
     | mk b=>exact congrArg Str.mk (Array.toList_inj.mp e2).symm
def ZrU(m:Nat)(h:m<1000000):Zc2 (dg (m:Int))=Wp:=by
 have dl:=ZbH m h;unfold Zc2 Zlt;rw[decide_eq_true (by lia),decide_eq_true (by lia),OC.mpr λc hc=>decide_eq_true (K03L.ZuF c (Zdl m c hc).1 (Zdl m c hc).2)];rcases Nat.eq_zero_or_pos m with q|q
 . subst q;rw[decide_eq_true (show dg ((0:Nat):Int)=O "0" from K03L.Zpg)];rfl
 . obtain⟨c,r,ec,nc⟩:=ZvT m (by lia);have ne:¬ (dg (m:Int)).cps.toList.head? = Wn 48:=by
    rw[ZgJ,ec];intro e;have:c.toNat=48:=by simpa using e
    exact nc (Char.ext (UInt32.toNat_inj.mp this))
   rw[decide_eq_false ne];simp
def Zkz(h:NmW y):Zc2 y=Wq:=by
 rw[Bool.eq_false_iff];intro q;obtain⟨m,hm,rfl⟩:=Zlc q;have:=ZbH m hm;have lc:=Zv (dg (m:Int));cases e:(dg (m:Int)).cps.toList with
 |nil=>rw[e]at lc;simp at lc;lia
 |cons c r=>
  have:=Zdl m c (by rw[e];exact .head _);have:=h.1 c (by rw[e];exact .head _)
  lia
end K04L
namespace K04L
open PySem L2 IV Tm Fr
open K03L (Ok4 ws ow dg Zz ZgJ Zdl ZbH)
open Gn (dep Zf)
def leaf(w:Str):Option T:=if isNm w=Wp then Wn (.name w)else if Zc2 w=Wp then Wn (.num ((intText? w).getD 0))else Wo
def ZoZ(m:Nat)(h:m<1000000):intText? (dg (m:Int))=Wn (m:Int):=PySem.W.KIN.num_reads (n:=(m:Int)) (by lia) (by lia)
def ZoQ(h:NmW x):leaf x=Wn (.name x):=if_pos (Z6.mpr h)
def Zus(m:Nat)(h:m<1000000):leaf (dg (m:Int))=Wn (.num (m:Int)):=by
 have nn:¬ isNm (dg (m:Int))=Wp:=λq=>by have:=Zkz (Z6.mp q);rw[ZrU m h]at this;cases this
 unfold leaf;rw[if_neg nn,if_pos (ZrU m h),ZoZ m h];rfl
def Zgy(h:leaf w=Wn t):t.parts=[]/\Ok4 t/\ws t=[w]/\dep t=0:=by
 unfold leaf at h;split at h
 . rename_i e;cases h;exact⟨rfl,Z6.mp e,rfl,rfl⟩
 . split at h
   . rename_i e;cases h;obtain⟨m,hm,rfl⟩:=Zlc e;rw[ZoZ m hm];exact⟨rfl,⟨by show 0<=(m:Int);lia,by show(m:Int)<1000000;lia⟩,rfl,rfl⟩
   . cases h
def leaf_of(h:t.parts=[])(ok:Ok4 t):∃w,ws t=[w]/\shp w=Wo/\leaf w=Wn t:=by
 cases t with
 |num z=>
  obtain⟨m,rfl⟩:∃m:Nat,z=m:=⟨z.toNat,by have:=ok.1;lia⟩
  have hm:m<1000000:=by have:=ok.2;lia
  exact⟨dg (m:Int),rfl,Zwz m hm,Zus m hm⟩
 |name x=>exact⟨x,rfl,Zq0 ok,ZoQ ok⟩
 |_=>cases h
def Zx4{t:T}(h:∀s∈t.parts,dep s<d):dep t<d+1:=by cases t<;>simp[T.parts]at h<;>simp only[dep]<;>lia
def Zk9{t:T}(h:t.parts≠[]):Ok4 t↔(∀x∈bnd t,NmW x)/\∀s∈t.parts,Ok4 s:=Zua t (.inr h)
def tkN:Nat->List Str->Option (List Str×List Str)
 |0,r=>Wn ([],r)
 |_+1,[]=>Wo
 |n+1,x::r=>if isNm x=Wp then(tkN n r).map λp=>(x::p.1,p.2)else Wo
noncomputable def tkL(f:List Str->Option (T×List Str)):Nat->List Str->Option (List T×List Str)
 |0,r=>Wn ([],r)
 |n+1,r=>(f r).bind λp=>(tkL f n p.2).map λq=>(p.1::q.1,q.2)
def rdE:Nat->List Str->Option (T×List Str)
 |0,_=>Wo
 |_+1,[]=>Wo
 |d+1,w::r=>match shp w with
  |none=>(leaf w).map λt=>(t,r)
  |some (nb,np)=>(tkN nb r).bind λp=>(tkL (rdE d) np p.2).map λq=>(mkT w p.1 q.1,q.2)
theorem Zis:∀ {n r xs r'},tkN n r=Wn (xs,r')->xs.length=n/\r=xs++r'/\∀ x∈xs,NmW x
 | 0,r,xs,r',h=>by cases h;exact ⟨rfl,rfl,fun _ h=>by cases h⟩
 | n+1,[],xs,r',h=>by cases h
 | n+1,x::r,xs,r',h=>by
   rw [tkN] at h;split at h
   . rename_i e;obtain ⟨⟨ys,r2⟩,e1,e2⟩:=Oo.mp h;cases e2;obtain ⟨l,er,hx⟩:=Zis e1;exact ⟨by simp [l],by simp [er],fun y hy=>by
       rcases O2.mp hy with rfl|hy
       . exact Z6.mp e
       . exact hx y hy⟩
   . cases h
theorem Znc:∀{xs:List Str},(∀x∈xs,NmW x)->tkN xs.length (xs++r)=Wn (xs,r)
 |[],_=>rfl
 |x::xs,h=>by show(if isNm x=Wp then(tkN xs.length (xs++r)).map λp=>(x::p.1,p.2)else Wo)=_;rw[if_pos (Z6.mpr (h x (.head _))),Znc λy hy=>h y (.tail _ hy)];rfl
theorem Zit{f:List Str->Option (T×List Str)}{Q:T->Prop}(hf:∀ r t r',f r=Wn (t,r')->r=ws t++r'/\Q t):∀ {n r ts r'},tkL f n r=Wn (ts,r')->ts.length=n/\r=ts.flatMap ws++r'/\∀ t∈ts,Q t
 | 0,r,xs,r',h=>by cases h;exact ⟨rfl,rfl,fun _ h=>by cases h⟩
 | n+1,r,ts,r',h=>by
   rw [tkL] at h;obtain ⟨⟨t,r1⟩,e1,h⟩:=Option.bind_eq_some_iff.mp h;obtain ⟨⟨ys,r2⟩,e3,e4⟩:=Oo.mp h;cases e4;obtain ⟨er,q⟩:=hf _ _ _ e1;obtain ⟨l,er2,hx⟩:=Zit hf e3;exact ⟨by simp [l],by rw [er,show r1=ys.flatMap ws++r2 from er2];simp,fun y hy=>by
     rcases O2.mp hy with rfl|hy
     . exact q
     . exact hx y hy⟩
theorem ZqM{f:List Str->Option (T×List Str)}:∀{ts:List T}{r:List Str},(∀t∈ts,∀r,f (ws t++r)=Wn (t,r))->tkL f ts.length (ts.flatMap ws++r)=Wn (ts,r)
 |[],r,_=>rfl
 |t::ts,r,h=>by show(f ((t::ts).flatMap ws++r)).bind _=_;rw[List.flatMap_cons,Oz,h t (.head _)];show(tkL f ts.length (ts.flatMap ws++r)).map _=_;rw[ZqM λs hs=>h s (.tail _ hs)];rfl
theorem Zfs:∀{d r t r'},rdE d r=Wn (t,r')->r=ws t++r'/\Ok4 t/\dep t<d
 |0,r,t,r',h=>by cases h
 |d+1,[],t,r',h=>by cases h
 |d+1,w::r,t,r',h=>by
  rw[rdE]at h;split at h
  . obtain⟨t1,e1,e2⟩:=Oo.mp h;cases e2;obtain⟨_,ok,e3,e4⟩:=Zgy e1;exact⟨by rw[e3];rfl,ok,by lia⟩
  . rename_i nb np es;obtain⟨⟨xs,r1⟩,e1,h⟩:=Option.bind_eq_some_iff.mp h;obtain⟨⟨ts,r2⟩,e3,e4⟩:=Oo.mp h;cases e4;obtain⟨l1,er1,nx⟩:=Zis e1;obtain⟨l2,er2,ot⟩:=Zit (Q:=λt=>Ok4 t/\dep t<d) (λr t r' h=>Zfs h) e3;obtain⟨_,_,n1,mk⟩:=ZkB es;obtain⟨m1,m2,m3,m4⟩:=mk xs ts l1 l2;have ne:(mkT w xs ts).parts≠[]:=by rw[m3];intro e;rw[e]at l2;simp at l2;lia
    refine⟨?_,(Zk9 ne).mpr ⟨by rw[m2];exact nx,by rw[m3];exact λs hs=>(ot s hs).1⟩,Zx4 (by rw[m3];exact λs hs=>(ot s hs).2)⟩;rw[Zz,m1,m3,show r=xs++r1 from er1,show r1=ts.flatMap ws++r2 from er2];simp
theorem Zra:∀{d:Nat}{t:T}{r:List Str},Ok4 t->dep t<d->rdE d (ws t++r)=Wn (t,r)
 |0,t,r,ok,h=>absurd h (Nat.not_lt_zero _)
 |d+1,t,r,ok,h=>by
  by_cases hp:t.parts=[]
  . obtain⟨w,e1,e2,e3⟩:=leaf_of hp ok;rw[e1];show(match shp w with
     |none=>(leaf w).map λt=>(t,r)
     |some (nb,np)=>(tkN nb r).bind λp=>(tkL (rdE d) np p.2).map λ(q:List T×List Str)=>(mkT w p.1 q.1,q.2))=_
    rw[e2,e3];rfl
  . obtain⟨w,es,eo,em⟩:=ZoE t hp;obtain⟨nx,ot⟩:=(Zk9 hp).mp ok;have e:ws t++r=w::(bnd t++(t.parts.flatMap ws++r)):=by rw[Zz,eo];simp
    rw[e];show(match shp w with
     |none=>(leaf w).map λs=>(s,bnd t++(t.parts.flatMap ws++r))
     |some (nb,np)=>(tkN nb (bnd t++(t.parts.flatMap ws++r))).bind λp=>(tkL (rdE d) np p.2).map λ(q:List T×List Str)=>(mkT w p.1 q.1,q.2))=_
    rw[es];show((tkN (bnd t).length (bnd t++(t.parts.flatMap ws++r))).bind λp=>(tkL (rdE d) t.parts.length p.2).map λq=>(mkT w p.1 q.1,q.2))=_;rw[Znc nx];show((tkL (rdE d) t.parts.length (t.parts.flatMap ws++r)).map λq=>(mkT w (bnd t) q.1,q.2))=_;rw[ZqM λs hs r=>Zra (ot s hs) (by have:=Zf hs;lia)];show Wn (mkT w (bnd t) t.parts,r)=_;rw[em]
noncomputable def Zfv:Nat->List T->Option (List Str×List T)
 |0,r=>Wn ([],r)
 |n+1,.name x::r=>(Zfv n r).map λp=>(x::p.1,p.2)
 |_+1,_=>Wo
noncomputable def Zb5(n:Nat)(r:List T):Option (List T×List T):=if n<=r.length then Wn (r.take n,r.drop n)else Wo
def push(w:Str)(pile:List T):Option (List T):=match shp w with
 |none=>(leaf w).map λt=>t::pile
 |some (nb,np)=>(Zfv nb pile).bind λp=>(Zb5 np p.2).map λq=>mkT w p.1 q.1::q.2
def lp:List Str->Option (List T)
 |[]=>Wn []
 |w::r=>(lp r).bind (push w)
theorem Zch:∀{n r xs r'},Zfv n r=Wn (xs,r')->xs.length=n/\r=xs.map .name++r'
 |0,r,xs,r',h=>by cases h;exact⟨rfl,rfl⟩
 |n+1,[],xs,r',h=>by cases h
 |n+1,t::r,xs,r',h=>by
  cases t with
  |name x=>obtain⟨⟨ys,r2⟩,e1,e2⟩:=Oo.mp (show(Zfv n r).map _=_ from h);cases e2;obtain⟨l,er⟩:=Zch e1;exact⟨by simp[l],by simp[er]⟩
  |_=>cases h
theorem Zou:∀{xs:List Str}{r:List T},Zfv xs.length (xs.map .name++r)=Wn (xs,r)
 |[],r=>rfl
 |x::xs,r=>by show(Zfv xs.length (xs.map .name++r)).map _=_;rw[Zou];rfl
theorem ZoN:∀ {W ts},lp W=Wn ts->W=ts.flatMap ws/\∀ t∈ts,Ok4 t
 | [],ts,h=>by cases h;exact ⟨rfl,fun _ h=>by cases h⟩
 | w::r,ts,h=>by
   obtain ⟨pile,e1,h⟩:=Option.bind_eq_some_iff.mp (show (lp r).bind (push w)=_ from h);obtain ⟨er,ok⟩:=ZoN e1;unfold push at h;split at h
   . obtain ⟨t,e2,e3⟩:=Oo.mp h;cases e3;obtain ⟨_,o,e4,_⟩:=Zgy e2;exact ⟨by rw [List.flatMap_cons,e4,er];rfl,fun y hy=>by
       rcases O2.mp hy with rfl|hy
       . exact o
       . exact ok y hy⟩
   . rename_i nb np es;obtain ⟨⟨xs,r1⟩,e2,h⟩:=Option.bind_eq_some_iff.mp h;obtain ⟨⟨us,r2⟩,e3,e4⟩:=Oo.mp h;cases e4;obtain ⟨l1,ep⟩:=Zch e2;unfold Zb5 at e3;split at e3
     . rename_i hl;cases e3;obtain ⟨_,_,n1,mk⟩:=ZkB es;have l2:(r1.take np).length=np:=by rw [List.length_take];exact Nat.min_eq_left hl
       obtain ⟨m1,m2,m3,m4⟩:=mk xs (r1.take np) l1 l2;have ne:(mkT w xs (r1.take np)).parts≠[]:=by rw [m3];intro e;rw [e] at l2;simp at l2;lia
       rw [ep] at ok;refine ⟨?_,fun y hy=>?_⟩
       . rw [List.flatMap_cons,Zz,m1,m3,er,ep,List.flatMap_append,List.flatMap_map];have e5:r1.flatMap ws=(r1.take np).flatMap ws++(r1.drop np).flatMap ws:=by rw [<- List.flatMap_append,List.take_append_drop]
         rw [show r1.flatMap ws=(r1.take np).flatMap ws++(r1.drop np).flatMap ws from e5];have e6:xs.flatMap (fun x=>ws (.name x))=xs:=by
           have:(fun x=>ws (.name x))=fun x:Str=>[x]:=rfl;rw [this];simp
         rw [e6];simp
       . rcases O2.mp hy with rfl|hy
         . exact (Zk9 ne).mpr ⟨by rw [m2];exact fun x hx=>ok (.name x) (Yq _ (List.mem_map_of_mem hx)),by rw [m3];exact fun s hs=>ok s (Ov _ (List.mem_of_mem_take hs))⟩
         . exact ok y (Ov _ (List.mem_of_mem_drop hy))
     . cases e3
theorem Zmj:∀{xs:List Str},(∀x∈xs,NmW x)->lp (xs++r)=(lp r).map (xs.map .name++·)
 |[],_=>by cases h:lp r<;>simp[h]
 |x::xs,h=>by
  show(lp (xs++r)).bind (push x)=_;rw[Zmj λy hy=>h y (.tail _ hy)];have e:∀p,push x p=Wn (.name x::p):=λp=>by unfold push;rw[Zq0 (h x (.head _)),ZoQ (h x (.head _))];rfl
  cases lp r with
  |none=>rfl
  |some p=>exact e _
def Zxq{ts:List T}(h:∀t∈ts,∀r,lp (ws t++r)=(lp r).map (t::·)):lp (ts.flatMap ws++r)=(lp r).map (ts++·):=by
 induction ts with
 |nil=>cases e:lp r<;>simp[e]
 |cons t ts ih=>rw[List.flatMap_cons,Oz,h t (.head _),ih λs hs=>h s (.tail _ hs)];cases lp r<;>rfl
theorem ZvI:∀(d:Nat) {t:T},dep t<d->Ok4 t->∀r,lp (ws t++r)=(lp r).map (t::·)
 |0,t,h,_,r=>absurd h (Nat.not_lt_zero _)
 |d+1,t,h,ok,r=>by
  by_cases hp:t.parts=[]
  . obtain⟨w,e1,e2,e3⟩:=leaf_of hp ok;rw[e1];show(lp r).bind (push w)=_;have e:∀p,push w p=Wn (t::p):=λp=>by unfold push;rw[e2,e3];rfl
    cases lp r with
    |none=>rfl
    |some p=>exact e _
  . obtain⟨w,es,eo,em⟩:=ZoE t hp;obtain⟨nx,ot⟩:=(Zk9 hp).mp ok;have e:ws t++r=w::(bnd t++(t.parts.flatMap ws++r)):=by rw[Zz,eo];simp
    rw[e];show(lp (bnd t++(t.parts.flatMap ws++r))).bind (push w)=_;rw[Zmj nx,Zxq λs hs r=>ZvI d (by have:=Zf hs;lia) (ot s hs) r];have e:∀p,push w ((bnd t).map .name++(t.parts++p))=Wn (t::p):=λp=>by unfold push;rw[es];show((Zfv (bnd t).length ((bnd t).map .name++(t.parts++p))).bind λq=>(Zb5 t.parts.length q.2).map λz=>mkT w q.1 z.1::z.2)=_;rw[Zou];show((Zb5 t.parts.length (t.parts++p)).map λz=>mkT w (bnd t) z.1::z.2)=_;unfold Zb5;rw[if_pos (by simp)];simp[em]
    cases lp r with
    |none=>rfl
    |some p=>exact e _
def ZbT(W:List Str):Option T:=match lp W with
 |some [t]=>Wn t
 |_=>Wo
def ZfB(t:T):ZbT W=Wn t↔W=ws t/\Ok4 t:=by
 constructor
 . intro h;unfold ZbT at h;split at h
   . rename_i t' e;cases h;obtain⟨e1,ok⟩:=ZoN e;exact⟨by rw[e1];simp,ok _ (.head _)⟩
   . cases h
 . rintro ⟨rfl,ok⟩;have:=ZvI (dep t+1) (OH _) ok [];rw[Yr]at this;unfold ZbT;rw[this];rfl
def rdT(W:List Str):Option T:=match rdE 21 W with
 |some (t,[])=>Wn t
 |_=>Wo
def Zk2(t:T):rdT W=Wn t↔ZbT W=Wn t/\dep t<=20:=by
 rw[ZfB];constructor
 . intro h;unfold rdT at h;split at h
   . rename_i t' e;cases h;obtain⟨e1,ok,hd⟩:=Zfs e;rw[Yr]at e1;exact⟨⟨e1,ok⟩,by lia⟩
   . cases h
 . rintro ⟨⟨rfl,ok⟩,hd⟩;have:=Zra (d:=21) (r:=[]) ok (by lia);rw[Yr]at this;unfold rdT;rw[this]
end K04L
namespace K04L
open PySem L2 IV Tm Fr
open K03L (Ok4 Wds ws ow dg Zz rdo Zgn Zgo Rdr Zc9 ve3 Zv)
open Gn (dep Zf Up)
section
variable {P:Pg}
def ZvA{U:Tb}{y:Str}(q:ev U e S h=.ok (.str y) h1)(hy:y.length<=50000):xs1 U (.raf c e) S h=.exc c h1:=by rw[xs1,q];exact if_pos hy
def Zri(H:Wds P)(n:Nat)(y:Str)(h:Hd)(hz:y.length<=1000000):∃g,run P (n+2) (O "is_name") [.str y] h=.ok (.bl (isNm y)) (h++g):=K03L.Zrj H n y h hz
theorem ZwH (H:Wds P) (n:Nat) (y:Str) (h:Hd) (hz:y.length<=1000000):∃ g,run P (n+2) (O "is_number") [.str y] h=.ok (.bl (Zc2 y)) (h++g):=by
 obtain ⟨g,e⟩:=K03L.Zrh H n y (O "0123456789") 6 h hz (by decide);have e:run P (n+1) (O "is_made_of") [.str y,.str (O "0123456789"),.int 6] h=.ok (.bl (Zlt y)) (h++g):=e;refine ⟨g,?_⟩;rw [Zg H.is_number rfl];have e1:ev (P.tbl (n+1)) (.call (O "is_made_of") (.cons (.var 0) (.cons (.glo (O "FIGURES")) (.cons (.glo (O "MOST_FIGURES")) .nil)))) [Wn (.str y)] h=.ok (.bl (Zlt y)) (h++g):=Zj e (Zd rfl (Zd (congrArg (fun o=>R.ofO o h) H.gf) (Zd (congrArg (fun o=>R.ofO o h) H.gmf) rfl)));have e2:Zlt y=Wp->ev (P.tbl (n+1)) (.ors (.cons (.cmp .Eq (.var 0) (.Ci_ "0")) (.cons (.cmp .NotEq (.ix (.var 0) (.ci 0)) (.Ci_ "0")) .nil))) [Wn (.str y)] (h++g)=.ok (.bl (Wr (y=O "0") || !Wr (y.cps.toList.head? = Wn 48))) (h++g):=fun hf=>by
   have q1:ev (P.tbl (n+1)) (.cmp .Eq (.var 0) (.Ci_ "0")) [Wn (.str y)] (h++g)=.ok (.bl (Wr (y=O "0"))) (h++g):=(Zq rfl rfl).trans (by rw [Zb7,ZaE];rfl);rw [ZxR,ZsB,q1,Zk];by_cases z:y=O "0"
   . rw [decide_eq_true z];rfl
   . rw [decide_eq_false z];show evOr _ _ _ _=_;rw [ZsC];unfold Zlt at hf;simp only [Oa,decide_eq_true_eq] at hf;have lc:=Zv y;rcases ec:y.cps.toList with _|⟨c,r⟩
     . rw [ec] at lc;simp at lc;lia
     have ix:ev (P.tbl (n+1)) (.ix (.var 0) (.ci 0)) [Wn (.str y)] (h++g)=.ok (.str ⟨#[c]⟩) (h++g):=(ZK rfl rfl).trans (by
       show (if y.length<=sizeLine then R.ofO ((atI y.cps.toList 0).map fun c=>D.str ⟨#[c]⟩) (h++g) else .bad)=_;rw [if_pos (by rw [YA];lia),ec,ZpC];rfl)
     refine (Zq ix rfl).trans ?_;rw [Zk7,ZaE];have ne:(⟨#[c]⟩:Str)=O "0" ↔ (c::r).head? = Wn 48:=by
       rw [List.head?_cons];constructor
       . intro q;have:=congrArg (fun s:Str=>s.cps.toList) q;rw [show (O "0").cps.toList=[48] by decide +kernel] at this;have:c=48:=by simpa using this
         rw [this]
       . intro q;cases q;decide +kernel
     rw [show Wr ((⟨#[c]⟩:Str)=O "0")=Wr ((c::r).head? = Wn 48) from decide_eq_decide.mpr ne];rfl
 have w:xs2 (P.tbl (n+1)) K03L.ZhI [Wn (.str y)] h=.ok (.rt (.bl (Zc2 y)),[Wn (.str y)]) (h++g):=Zb (Zh (by
   rw [ZbX,ZaC,e1,Zk];unfold Zc2;cases hf:Zlt y with
   | false=>rfl
   | true=>rw [Zco];exact e2 hf))
 exact congrArg Ze w
def ZwE(H:Lw P)(n:Nat)(y:Str)(h:Hd)(hz:y.length<=50000):∃g,run P (n+3) (O "read_number") [.str y] h=if Zc2 y=Wp then .ok (.int ((intText? y).getD 0)) (h++g)else .exc (O "NoTerm") (h++g):=by
 obtain⟨g,e⟩:=ZwH H.w n y h (by lia);refine⟨g,?_⟩;rw[Zg H.read_number rfl];have t1:tst (P.tbl (n+2)) ZcT [Wn (.str y)] h=.ok (!Zc2 y) (h++g):=Zld (Z7 (Zj e rfl));cases q:Zc2 y with
 |false=>rw[q]at t1;rw[if_neg (by simp)];have w:xs2 (P.tbl (n+2)) Zcb [Wn (.str y)] h=.exc (O "NoTerm") (h++g):=ZR ((Zt t1).trans (ZR (ZvA rfl hz)));exact congrArg Ze w
 |true=>
  rw[q]at t1;rw[if_pos rfl];obtain⟨m,hm,rfl⟩:=Zlc q;have e4:Zvb [.str (dg (m:Int))] (h++g)=.ok (.int ((intText? (dg (m:Int))).getD 0)) (h++g):=by
   show(match intText? (dg (m:Int))with
    |some n=>if (dg (m:Int)).length<=640 then R.ok (D.int n) (h++g)else .bad
    |none=>.bad)=_
   rw[ZoZ m hm];exact if_pos (by have:=(K03L.ZbH m hm).2;lia)
  have w:xs2 (P.tbl (n+2)) Zcb [Wn (.str (dg (m:Int)))] h=.ok (.rt (.int ((intText? (dg (m:Int))).getD 0)),[Wn (.str (dg (m:Int)))]) (h++g):=(Za ((Zi t1).trans rfl)).trans (Zb (Zh (ZZ (Zd rfl rfl) e4)));exact congrArg Ze w
noncomputable def tld(o:Option T)(h:Hd):R D:=match o with
 |some t=>.ok t.d h
 |none=>.exc (O "NoTerm") h
def ZwF(H:Lw P)(n:Nat)(y:Str)(h:Hd)(hz:y.length<=50000):∃g,run P (n+4) (O "leaf_of") [.str y] h=tld (leaf y) (h++g):=by
 obtain⟨g,e⟩:=Zri H.w (n+1) y h (by lia);obtain⟨g',e'⟩:=ZwE H n y (h++g) hz;rw[Zg H.leaf_of rfl];unfold leaf;cases q:isNm y with
 |true=>rw[q]at e;refine⟨g,?_⟩;rw[if_pos rfl];have w:xs2 (P.tbl (n+3)) K03L.ZdY [Wn (.str y)] h=.ok (.rt (T.name y).d,[Wn (.str y)]) (h++g):=Zb ((Zt (Z7 (Zj e rfl))).trans (Zb (Zh (Za1 (xs:=[_,_]) rfl (show 2<=1000 by decide)))));exact congrArg Ze w
 |false=>
  rw[q]at e;refine⟨g++g',?_⟩;rw[if_neg (by simp),<- Oz];have x1:xs1 (P.tbl (n+3)) K03L.ZhB [Wn (.str y)] h=.ok (.nx,[Wn (.str y)]) (h++g):=(Zi (Z7 (Zj e rfl))).trans rfl;cases q2:Zc2 y with
  |true=>rw[q2,if_pos rfl]at e';rw[if_pos rfl];have w:xs2 (P.tbl (n+3)) K03L.ZdY [Wn (.str y)] h=.ok (.rt (T.num ((intText? y).getD 0)).d,[Wn (.str y)]) (h++g++g'):=(Za x1).trans (Zb (Zh (Za1 (xs:=[_,_]) (Zd rfl (Zd (Zj e' rfl) rfl)) (show 2<=1000 by decide))));exact congrArg Ze w
  |false=>rw[q2,if_neg (by simp)]at e';rw[if_neg (by simp)];have w:xs2 (P.tbl (n+3)) K03L.ZdY [Wn (.str y)] h=.exc (O "NoTerm") (h++g++g'):=(Za x1).trans (ZR (Zvy (ZAc (ZxP rfl (Zss (Zj e' rfl))))));exact congrArg Ze w
noncomputable def noT:Str:=O "NoTerm"
def Zrd(H:Lw P)(n:Nat){h:Hd}{ss:List Str}{a:Nat}(ho:h[o]? = Wn (rdo wl (a:Int)))(hw:h[wl]? = Wn (.lst (ss.map .str)))(hx:ss[a]? = Wn x):run P (n+1) (mnm (O "Reader") (O "take_word")) [.ref o] h=.ok (.str x) (h.set o (rdo wl ((a+1:Nat):Int))):=by
 rw[Zc5 H.n_Reader_take_word H.Reader_take_word rfl];have hl:=(Ob.mp hx).1;have t1:tst (P.tbl n) Zac [Wn (.ref o),Wo] h=.ok Wq h:=Zr (Ze2 (Zgo rfl ho) (ZZ (Zd (Zgn rfl ho) rfl) (ZcM hw))) (decide_eq_false (by rw[Ys];lia));have x2:xs1 (P.tbl n) Zbb [Wn (.ref o),Wo] h=.ok (.nx,[Wn (.ref o),Wn (.str x)]) h:=Zn (i:=1) ((ZK (Zgn rfl ho) (Zgo rfl ho)).trans ((ZN hw).trans (by rw[IV.ZaW,On,hx];rfl)));have x3:xs1 (P.tbl n) Zba [Wn (.ref o),Wn (.str x)] h=.ok (.nx,[Wn (.ref o),Wn (.str x)]) (h.set o (rdo wl ((a+1:Nat):Int))):=by
  show xs1 (P.tbl n) (.auga [(O "Reader")] (.var 0) (O "at") (.ci 1)) _ h=_;rw[Zqx];have ga:ZgF [(O "Reader")] (O "at") (.ref o) h=.ok (.int (a:Int)) h:=by simp only[ZgF,Z8,ho,rdo];rw[if_pos (by simp)];simp[We]
  have sa:ZiB [(O "Reader")] (O "at") (.ref o) (.int ((a:Int)+1)) h=.ok .non (h.set o (rdo wl ((a+1:Nat):Int))):=by simp only[ZiB,ho,rdo];rw[if_pos (by simp)];simp[ZpT]
  show(ZgF [(O "Reader")] (O "at") (.ref o) h).bnd _=_;rw[ga,Zk];show(if (Z8 (.ref o) h).map (·.1)=(Z8 (.ref o) h).map (·.1)then(ZiB [(O "Reader")] (O "at") (.ref o) (.int ((a:Int)+1)) h).bnd _ else _)=_;rw[if_pos rfl,sa];rfl
 have w:xs2 (P.tbl n) Zaz [Wn (.ref o),Wo] h=.ok (.rt (.str x),[Wn (.ref o),Wn (.str x)]) (h.set o (rdo wl ((a+1:Nat):Int))):=(Za ((Zi t1).trans rfl)).trans ((Za x2).trans ((Za x3).trans (Zb (Zh rfl))));exact congrArg Ze w
def Zom(H:Lw P)(n:Nat){h:Hd}{ss:List Str}{a:Nat}(ho:h[o]? = Wn (rdo wl (a:Int)))(hw:h[wl]? = Wn (.lst (ss.map .str)))(hx:a=ss.length):run P (n+1) (mnm (O "Reader") (O "take_word")) [.ref o] h=.exc noT h:=by rw[Zc5 H.n_Reader_take_word H.Reader_take_word rfl];have t1:tst (P.tbl n) Zac [Wn (.ref o),Wo] h=.ok Wp h:=Zr (Ze2 (Zgo rfl ho) (ZZ (Zd (Zgn rfl ho) rfl) (ZcM hw))) (decide_eq_true (by rw[Ys];lia));have w:xs2 (P.tbl n) Zaz [Wn (.ref o),Wo] h=.exc noT h:=ZR ((Zt t1).trans (ZR (Zkw rfl)));exact congrArg Ze w
def Zpd{α:Type}{f:List α}{a:Nat}(ha:a<=f.length):(a=f.length/\f.drop a=[])\/∃x,f[a]? = Wn x/\f.drop a=x::f.drop (a+1)/\a<f.length:=by
 rcases Nat.lt_or_ge a f.length with h|h
 . exact .inr ⟨f[a],Og h,(List.drop_eq_getElem_cons h),h⟩
 . exact .inl ⟨by lia,List.drop_eq_nil_of_le h⟩
def Zts(H:Lw P)(n:Nat){h:Hd}(hb:∀w∈ss,w.length<=50000)(ha:a<=ss.length)(r:Rdr h0 h o wl ss a):
 (∃x h',ss.drop a=x::ss.drop (a+1)/\a<ss.length/\isNm x=Wp/\run P (n+3) (mnm (O "Reader") (O "take_name")) [.ref o] h=.ok (.str x) h'/\Rdr h0 h' o wl ss (a+1)/\Up o h h') \/
 ((ss.drop a=[]\/∃x,ss.drop a=x::ss.drop (a+1)/\isNm x=Wq)/\∃h',run P (n+3) (mnm (O "Reader") (O "take_name")) [.ref o] h=.exc noT h'/\Up o h h'):=by
 rw[Zc5 H.n_Reader_take_name H.Reader_take_name rfl];rcases Zpd ha with ⟨ea,ed⟩|⟨x,hx,ed,hl⟩
 . have w:xs2 (P.tbl (n+2)) Z5 [Wn (.ref o),Wo] h=.exc noT h:=ZR (Zq2 (Zc9 rfl r.ob (by simp[We]) rfl (Zom H (n+1) r.ob r.wd ea)));exact .inr ⟨.inl ed,h,congrArg Ze w,Up.refl⟩
 . have e1:=Zrd H (n+1) r.ob r.wd hx;obtain⟨g,e2⟩:=Zri H.w n x (h.set o (rdo wl ((a+1:Nat):Int))) (by have:=hb x (O1 hx);lia);have x1:xs1 (P.tbl (n+2)) Zbc [Wn (.ref o),Wo] h=.ok (.nx,[Wn (.ref o),Wn (.str x)]) (h.set o (rdo wl ((a+1:Nat):Int))):=Zn (i:=1) (Zc9 rfl r.ob (by simp[We]) rfl e1);have t2:tst (P.tbl (n+2)) Za3 [Wn (.ref o),Wn (.str x)] (h.set o (rdo wl ((a+1:Nat):Int)))=.ok (!isNm x) (h.set o (rdo wl ((a+1:Nat):Int))++g):=Zld (Z7 (Zj e2 rfl));cases q:isNm x with
   |true=>rw[q]at t2;refine .inl ⟨x,_,ed,hl,q,?_,(r.set (b:=a+1)).app (g:=g),Up.set.trans Up.app⟩;have w:xs2 (P.tbl (n+2)) Z5 [Wn (.ref o),Wo] h=.ok (.rt (.str x),[Wn (.ref o),Wn (.str x)]) (h.set o (rdo wl ((a+1:Nat):Int))++g):=(Za x1).trans ((Za ((Zi t2).trans rfl)).trans (Zb (Zh rfl)));exact congrArg Ze w
   |false=>rw[q]at t2;refine .inr ⟨.inr ⟨x,ed,q⟩,h.set o (rdo wl ((a+1:Nat):Int))++g,?_,Up.set.trans Up.app⟩;have w:xs2 (P.tbl (n+2)) Z5 [Wn (.ref o),Wo] h=.exc noT (h.set o (rdo wl ((a+1:Nat):Int))++g):=(Za x1).trans (ZR ((Zt t2).trans (ZR (ZvA rfl (hb x (O1 hx))))));exact congrArg Ze w
def Zsx{U:Tb}(p:ev U o S h=.ok (.ref i) h1)(l:h1[i]? = Wn (.lst ys))(q:evs U es S h1=.exc c h2):ev U (.meth m o es) S h=.exc c h2:=by rw[Zo9,p,Zk,ZkH l,if_pos rfl,q];rfl
def Lk(res:R (Fl×Ev))(hs:Hd)(o wl:Nat)(ss:List Str)(l:Int)(w:Str)(f:Nat)(q:Option (List D×List Str)):Prop:=match q with
 |some p=>∃h' k' a',res=.ok (.nx,ve3 o l w f k') h'/\Rdr hs h' o wl ss a'/\ss.drop a'=p.2/\a'<=ss.length/\h'[f]? = Wn (.lst p.1)
 |none=>∃h',res=.exc noT h'/\Up o hs h'
theorem ZzO(H:Lw P)(n:Nat)(hb:∀w∈ss,w.length<=50000)(ho:o<hs.length)(hw:wl<hs.length)(hf:hs.length<=f):∀(m:Nat) (acc:List D) (h:Hd) (a:Nat) (ks:List D) (k:Option D),ks.length=m->a<=ss.length->Rdr hs h o wl ss a->h[f]? = Wn (.lst acc)->acc.length+m<=100 ->
 Lk (ZH [] (.nm 4) (xs2 (P.tbl (n+3)) Zx) ks (ve3 o l w f k) h) hs o wl ss l w f ((tkN m (ss.drop a)).map λp=>(acc++p.1.map .str,p.2))
 |0,acc,h,a,ks,k,hk,ha,r,hl,_=>by rw[List.eq_nil_of_length_eq_zero hk];exact⟨h,k,a,rfl,r,rfl,ha,by simpa using hl⟩
 |m+1,acc,h,a,[],k,hk,_,_,_,_=>by cases hk
 |m+1,acc,h,a,d::ks,k,hk,ha,r,hl,hz=>by
  rcases Zts H n hb ha r with ⟨x,h1,ed,hlt,q,e1,r1,u1⟩|⟨q,h1,e1,u1⟩
  . have l1:=u1.at hl (by lia);have ih:=ZzO H n (l:=l) (w:=w) hb ho hw hf m (acc++[.str x]) (h1.set f (.lst (acc++[.str x]))) (a+1) ks (Wn d) (by simpa using hk) hlt (r1.setf hf ho hw) (by rw[Ol (Gn.Zs l1)]) (by simp;lia);have e2:ZH [] (.nm 4) (xs2 (P.tbl (n+3)) Zx) (d::ks) (ve3 o l w f k) h=ZH [] (.nm 4) (xs2 (P.tbl (n+3)) Zx) ks (ve3 o l w f (Wn d)) (h1.set f (.lst (acc++[.str x]))):=Zca (ρ1:=ve3 o l w f (Wn d)) rfl ((Za (Zdk (Zj0 (i:=f) rfl hl (Zd (Zc9 rfl r.ob (by simp[We]) rfl e1) rfl) (Zby l1 (by rw[YA];lia))))).trans rfl);rw[e2,ed,tkN,if_pos q];cases et:tkN m (ss.drop (a+1))with
    |none=>rw[et]at ih;exact ih
    |some p=>rw[et]at ih;obtain⟨h',k',a',i1,i2,i3,i4,i5⟩:=ih;exact⟨h',k',a',i1,i2,i3,i4,by rw[i5];simp⟩
  . have e2:ZH [] (.nm 4) (xs2 (P.tbl (n+3)) Zx) (d::ks) (ve3 o l w f k) h=.exc noT h1:=ZvV (ρ1:=ve3 o l w f (Wn d)) rfl (ZR (Zpc (Zsx (i:=f) rfl hl (Zss (Zc9 rfl r.ob (by simp[We]) rfl e1)))));have et:tkN (m+1) (ss.drop a)=Wo:=by
     rcases q with q|⟨x,q1,q2⟩
     . rw[q];rfl
     . rw[q1,tkN,if_neg (by rw[q2];simp)]
    rw[e2,et];exact⟨h1,rfl,r.up.trans u1⟩
def Tk(res:R D)(h:Hd)(o wl:Nat)(ss:List Str)(q:Option (T×List Str)):Prop:=match q with
 |some p=>∃h' a',res=.ok p.1.d h'/\Rdr h h' o wl ss a'/\ss.drop a'=p.2/\a'<=ss.length
 |none=>∃h',res=.exc noT h'/\Up o h h'
theorem ZzP{m d:Nat}(ho:o<hs.length)(hw:wl<hs.length)(hf:hs.length<=f)(hc:∀(h:Hd) (a:Nat),a<=ss.length->Rdr h h o wl ss a->Tk (run P m (mnm (O "Reader") (O "take_expression")) [.ref o,.int (l+1)] h) h o wl ss (rdE d (ss.drop a))):∀(np:Nat) (acc:List D) (h:Hd) (a:Nat) (ks:List D) (k:Option D),ks.length=np->a<=ss.length->Rdr hs h o wl ss a->h[f]? = Wn (.lst acc)->acc.length+np<=100 ->
 Lk (ZH [] (.nm 4) (xs2 (P.tbl m) Zw) ks (ve3 o l w f k) h) hs o wl ss l w f ((tkL (rdE d) np (ss.drop a)).map λp=>(acc++p.1.map T.d,p.2))
 |0,acc,h,a,ks,k,hk,ha,r,hl,_=>by rw[List.eq_nil_of_length_eq_zero hk];exact⟨h,k,a,rfl,r,rfl,ha,by simpa using hl⟩
 |np+1,acc,h,a,[],k,hk,_,_,_,_=>by cases hk
 |np+1,acc,h,a,e::ks,k,hk,ha,r,hl,hz=>by
  have c:=hc h a ha r.own;rw[tkL];cases et:rdE d (ss.drop a)with
  |none=>rw[et]at c;obtain⟨h1,e1,u1⟩:=c;have e2:ZH [] (.nm 4) (xs2 (P.tbl m) Zw) (e::ks) (ve3 o l w f k) h=.exc noT h1:=ZvV (ρ1:=ve3 o l w f (Wn e)) rfl (ZR (Zpc (Zsx (i:=f) rfl hl (Zss (Zc9 rfl r.ob (by simp[We]) (Zd rfl rfl) e1)))));rw[e2];exact⟨h1,rfl,r.up.trans u1⟩
  |some p=>
   obtain⟨t,r'⟩:=p;rw[et]at c;obtain⟨h1,a1,e1,r1,d1,b1⟩:=c;have l1:=r1.up.at hl (by lia);have ih:=ZzP (l:=l) (w:=w) (d:=d) ho hw hf hc np (acc++[t.d]) (h1.set f (.lst (acc++[t.d]))) a1 ks (Wn e) (by simpa using hk) b1 ((r.ext r1).setf hf ho hw) (by rw[Ol (Gn.Zs l1)]) (by simp;lia);have e2:ZH [] (.nm 4) (xs2 (P.tbl m) Zw) (e::ks) (ve3 o l w f k) h=ZH [] (.nm 4) (xs2 (P.tbl m) Zw) ks (ve3 o l w f (Wn e)) (h1.set f (.lst (acc++[t.d]))):=Zca (ρ1:=ve3 o l w f (Wn e)) rfl ((Za (Zdk (Zj0 (i:=f) rfl hl (Zd (Zc9 rfl r.ob (by simp[We]) (Zd rfl rfl) e1) rfl) (Zby l1 (by rw[YA];lia))))).trans rfl);rw[e2];rw[show ss.drop a1=r' from d1]at ih;show Lk _ hs o wl ss l w f (((tkL (rdE d) np r').map λq=>(t::q.1,q.2)).map λp=>(acc++p.1.map T.d,p.2));cases et2:tkL (rdE d) np r' with
   |none=>rw[et2]at ih;exact ih
   |some p=>rw[et2]at ih;obtain⟨h',k',a',i1,i2,i3,i4,i5⟩:=ih;exact⟨h',k',a',i1,i2,i3,i4,by rw[i5];simp⟩
end
end K04L
namespace K04L
open PySem L2 IV Tm Fr
open K03L (Ok4 Wds ws ow dg Zz rdo Zgn Zgo Rdr Zc9 ve3 Zv Ziq)
open Gn (dep Zf Up)
section
variable {P:Pg}
def te0(H:Lw P)(k:Nat)(l:Int)(hl:20<l)(h:Hd):run P (k+1) (mnm (O "Reader") (O "take_expression")) [.ref o,.int l] h=.exc noT h:=by rw[Zc5 H.n_Reader_take_expression H.Reader_take_expression rfl];have w:xs2 (P.tbl k) Zl [Wn (.ref o),Wn (.int l),Wo,Wo,Wo] h=.exc noT h:=ZR ((Zt (Zr (ZnI rfl (show ev (P.tbl k) (.glo (O "MOST_DEEP")) [Wn (.ref o),Wn (.int l),Wo,Wo,Wo] h=.ok (.int 20) h from congrArg (λo=>R.ofO o h) H.gd)) (decide_eq_true hl))).trans (ZR (Zkw rfl)));exact congrArg Ze w
def te1(H:Lw P)(k d:Nat)(l:Int)(hl:l<=20)(hb:∀w∈ss,w.length<=50000){h:Hd}(ha:a<=ss.length)(r:Rdr h h o wl ss a)
 (hc:∀(h:Hd) (a:Nat),a<=ss.length->Rdr h h o wl ss a->Tk (run P (k+4) (mnm (O "Reader") (O "take_expression")) [.ref o,.int (l+1)] h) h o wl ss (rdE d (ss.drop a))) :
 Tk (run P (k+5) (mnm (O "Reader") (O "take_expression")) [.ref o,.int l] h) h o wl ss (rdE (d+1) (ss.drop a)):=by
 have hol:=Gn.Zs r.ob;have hwl:=Gn.Zs r.wd;have x1:xs1 (P.tbl (k+4)) Zam [Wn (.ref o),Wn (.int l),Wo,Wo,Wo] h=.ok (.nx,[Wn (.ref o),Wn (.int l),Wo,Wo,Wo]) h:=(Zi (Zr (ZnI rfl (show ev (P.tbl (k+4)) (.glo (O "MOST_DEEP")) [Wn (.ref o),Wn (.int l),Wo,Wo,Wo] h=.ok (.int 20) h from congrArg (λo=>R.ofO o h) H.gd)) (decide_eq_false (by lia)))).trans rfl;rw[Zc5 H.n_Reader_take_expression H.Reader_take_expression rfl];rcases Zpd ha with ⟨ea,ed⟩|⟨w,hx,ed,hlt⟩
 . have w:xs2 (P.tbl (k+4)) Zl [Wn (.ref o),Wn (.int l),Wo,Wo,Wo] h=.exc noT h:=(Za x1).trans (ZR (Zq2 (Zc9 rfl r.ob (by simp[We]) rfl (Zom H (k+3) r.ob r.wd ea))));rw[ed];exact⟨h,congrArg Ze w,Up.refl⟩
 have x2:xs1 (P.tbl (k+4)) Zal [Wn (.ref o),Wn (.int l),Wo,Wo,Wo] h=.ok (.nx,[Wn (.ref o),Wn (.int l),Wn (.str w),Wo,Wo]) (h.set o (rdo wl ((a+1:Nat):Int))):=Zn (i:=2) (Zc9 rfl r.ob (by simp[We]) rfl (Zrd H (k+3) r.ob r.wd hx));have r1:Rdr h (h.set o (rdo wl ((a+1:Nat):Int))) o wl ss (a+1):=r.set (b:=a+1);have tf:∀(b c:Option D) (hh:Hd) (x:Option D),ZaL Gn.Zbj (.inr w)=x->tst (P.tbl (k+4)) Zad [Wn (.ref o),Wn (.int l),Wn (.str w),b,c] hh=.ok (!x.isSome) hh:=λb c hh x e=>Gn.Zfz H.w.f.t ⟨rfl,rfl⟩ rfl e;have hbw:=hb w (O1 hx);rw[ed];generalize eh1:h.set o (rdo wl ((a+1:Nat):Int))=h1 at r1 x2;have u1:Up o h h1:=by rw[<- eh1];exact Up.set
 rcases Ziz w with ⟨s1,s2⟩|⟨nb,np,s1,s2⟩
 . obtain⟨g,e4⟩:=ZwF H k w h1 hbw;have y3:=tf Wo Wo h1 Wo s2;have er:rdE (d+1) (w::ss.drop (a+1))=(leaf w).map λt=>(t,ss.drop (a+1)):=by rw[rdE,s1]
   rw[er];cases el:leaf w with
   |none=>rw[el]at e4;have e4:run P (k+4) (O "leaf_of") [.str w] h1=.exc noT (h1++g):=e4;have w:xs2 (P.tbl (k+4)) Zl [Wn (.ref o),Wn (.int l),Wo,Wo,Wo] h=.exc noT (h1++g):=(Za x1).trans ((Za x2).trans (ZR ((Zt y3).trans (ZR (Zvy (Zj e4 rfl))))));exact⟨_,congrArg Ze w,u1.trans Up.app⟩
   |some t=>rw[el]at e4;have e4:run P (k+4) (O "leaf_of") [.str w] h1=.ok t.d (h1++g):=e4;have w:xs2 (P.tbl (k+4)) Zl [Wn (.ref o),Wn (.int l),Wo,Wo,Wo] h=.ok (.rt t.d,[Wn (.ref o),Wn (.int l),Wn (.str w),Wo,Wo]) (h1++g):=(Za x1).trans ((Za x2).trans (Zb ((Zt y3).trans (Zb (Zh (Zj e4 rfl))))));exact⟨_,a+1,congrArg Ze w,r1.app,rfl,hlt⟩
 . obtain⟨b1,b2,_,mk⟩:=ZkB s1;have l1:h1.length=h.length:=by rw[<- eh1];simp
   have r2:Rdr h1 (h1++[.lst [.str w]]) o wl ss (a+1):=r1.own.app;have fa:∀(b c:Option D) (hh:Hd),ev (P.tbl (k+4)) (.ix (.glo (O "FORMS")) (.var 2)) [Wn (.ref o),Wn (.int l),Wn (.str w),b,c] hh=.ok (.tup [.int (nb:Nat),.int (np:Nat)]) hh:=λb c hh=>Gn.Zo5 H.w.f.t ⟨rfl,rfl⟩ rfl s2;have rg:∀(j:Int) (z:Nat) (b c:Option D) (hh:Hd),z<=10->atI [D.int (nb:Nat),.int (np:Nat)] j=Wn (.int (z:Int))->evi (P.tbl (k+4)) (.rng (.ix (.ix (.glo (O "FORMS")) (.var 2)) (.cst (.int j)))) [Wn (.ref o),Wn (.int l),Wn (.str w),b,c] hh=.ok ⟨[],ZM 0 z⟩ hh:=λj z b c hh hz ea=>by rw[Zo7,(ZK (fa b c hh) rfl).trans (show Zfw P.GD (.tup _) (.int j) hh=.ok (.int (z:Int)) hh by rw[Zmg,ea];rfl),Zk];show(if Zau (z:Int)=Wp then R.ok (⟨[],ZM 0 (z:Int).toNat⟩:Wk) hh else .bad)=_;rw[if_pos (by simp[Zau];lia)];rfl
   have y3:xs1 (P.tbl (k+4)) Zak [Wn (.ref o),Wn (.int l),Wn (.str w),Wo,Wo] h1=.ok (.nx,[Wn (.ref o),Wn (.int l),Wn (.str w),Wo,Wo]) h1:=(Zi (tf Wo Wo _ _ s2)).trans rfl;have y4:xs1 (P.tbl (k+4)) Zaj [Wn (.ref o),Wn (.int l),Wn (.str w),Wo,Wo] h1=.ok (.nx,ve3 o l w h1.length Wo) (h1++[.lst [.str w]]):=Zn (i:=3) (ZbU (xs:=[.str w]) rfl (show 1<=1000 by decide));have n5:=ZzO H (k+1) (l:=l) (w:=w) (hs:=h1) (f:=h1.length) hb (by lia) (by lia) (Oq _) nb [.str w] (h1++[.lst [.str w]]) (a+1) (ZM 0 nb) Wo (Ziq _) hlt r2 (by simp) (by simp;lia);have y5:xs1 (P.tbl (k+4)) Zai (ve3 o l w h1.length Wo) (h1++[.lst [.str w]])=ZH [] (.nm 4) (xs2 (P.tbl (k+4)) Zx) (ZM 0 nb) (ve3 o l w h1.length Wo) (h1++[.lst [.str w]]):=Zax (rg 0 _ _ _ _ (by lia) (by simp));have er:rdE (d+1) (w::ss.drop (a+1))=(tkN nb (ss.drop (a+1))).bind λp=>(tkL (rdE d) np p.2).map λq=>(mkT w p.1 q.1,q.2):=by rw[rdE,s1]
   rw[er];cases et:tkN nb (ss.drop (a+1))with
   |none=>rw[et]at n5;obtain⟨h3,e3,u3⟩:=n5;have w:xs2 (P.tbl (k+4)) Zl [Wn (.ref o),Wn (.int l),Wo,Wo,Wo] h=.exc noT h3:=(Za x1).trans ((Za x2).trans ((Za y3).trans ((Za y4).trans (ZR (y5.trans e3)))));exact⟨h3,congrArg Ze w,u1.trans u3⟩
   |some p=>
    obtain⟨xs,rs⟩:=p;rw[et]at n5;obtain⟨h3,k3,a3,e3,r3,d3,b3,f3⟩:=n5;have d3:ss.drop a3=rs:=d3;have f3:h3[h1.length]? = Wn (.lst ([.str w]++xs.map .str)):=f3;have lx:=(Zis et).1;have n6:=ZzP (P:=P) (m:=k+4) (l:=l) (w:=w) (hs:=h1) (f:=h1.length) (by lia) (by lia) (Oq _) hc np ([.str w]++xs.map .str) h3 a3 (ZM 0 np) k3 (Ziq _) b3 r3 f3 (by simp;lia);have y6:xs1 (P.tbl (k+4)) Zah (ve3 o l w h1.length k3) h3=ZH [] (.nm 4) (xs2 (P.tbl (k+4)) Zw) (ZM 0 np) (ve3 o l w h1.length k3) h3:=Zax (rg 1 _ _ _ _ (by lia) (by simp));rw[d3]at n6;show Tk _ h o wl ss ((tkL (rdE d) np rs).map λq=>(mkT w xs q.1,q.2));cases et2:tkL (rdE d) np rs with
    |none=>rw[et2]at n6;obtain⟨h4,e4,u4⟩:=n6;have w:xs2 (P.tbl (k+4)) Zl [Wn (.ref o),Wn (.int l),Wo,Wo,Wo] h=.exc noT h4:=(Za x1).trans ((Za x2).trans ((Za y3).trans ((Za y4).trans ((Za (y5.trans e3)).trans (ZR (y6.trans e4))))));exact⟨h4,congrArg Ze w,u1.trans u4⟩
    |some p=>
     obtain⟨ts,r4'⟩:=p;rw[et2]at n6;obtain⟨h4,k4,a4,e4,r4,d4,b4,f4⟩:=n6;have f4:h4[h1.length]? = Wn (.lst ([.str w]++xs.map .str++ts.map T.d)):=f4;have lt:=(Zit (Q:=λ_=>True) (λr t r' h=>⟨(Zfs h).1,trivial⟩) et2).1;obtain⟨_,_,_,m4⟩:=mk xs ts lx lt;have y7:xs1 (P.tbl (k+4)) Zag (ve3 o l w h1.length k4) h4=.ok (.rt (mkT w xs ts).d,ve3 o l w h1.length k4) h4:=by rw[m4];exact Zh (ZZ (xs:=[.ref h1.length]) rfl (Zvk f4))
     have w:xs2 (P.tbl (k+4)) Zl [Wn (.ref o),Wn (.int l),Wo,Wo,Wo] h=.ok (.rt (mkT w xs ts).d,ve3 o l w h1.length k4) h4:=(Za x1).trans ((Za x2).trans ((Za y3).trans ((Za y4).trans ((Za (y5.trans e3)).trans ((Za (y6.trans e4)).trans (Zb y7))))));exact⟨h4,a4,congrArg Ze w,⟨r4.ob,r4.wd,u1.trans r4.up⟩,d4,b4⟩
theorem Zy6(H:Lw P)(hb:∀w∈ss,w.length<=50000):∀(d n:Nat) (l:Int) (h:Hd) (a:Nat),l+d=21->a<=ss.length->Rdr h h o wl ss a->Tk (run P (n+d+4) (mnm (O "Reader") (O "take_expression")) [.ref o,.int l] h) h o wl ss (rdE d (ss.drop a))
 |0,n,l,h,a,hl,ha,r=>⟨h,te0 H (n+3) l (by lia) h,Up.refl⟩
 |d+1,n,l,h,a,hl,ha,r=>te1 H (n+d) d l (by lia) hb ha r λh a ha r=>Zy6 H hb d n (l+1) h a (by lia) ha r
end
end K04L
namespace K04L
open PySem L2 IV Tm Fr
open K03L (Ok4 Wds ws ow dg Zz rdo Zgn Zgo Rdr Zc9 ve3 Zv Ziq ZL)
open Gn (dep Zf Up)
section
variable {P:Pg}
noncomputable def noN:Str:=O "NoName"
def tw:T->Bool
 |.rcc f x _=>Wr (f=x)
 |_=>Wq
def Ztr(H:Lw P)(n:Nat)(t:T)(h:Hd):run P (n+1) (O "has_name_twice") [t.d] h=.ok (.bl (tw t)) h:=by
 rw[Zg H.has_name_twice rfl];have no:∀(w:Str) (ds:List D),t.d=.tup (.str w::ds)->w≠O "rec" -> Ze (xs2 (P.tbl n) K03L.Zap [Wn t.d] h)=.ok (.bl Wq) h:=λw ds e ne=>by have q:ev (P.tbl n) (.cmp .Eq (.ix (.var 0) (.ci 0)) (.Ci_ "rec")) [Wn t.d] h=.ok (.bl Wq) h:=(Zq ((ZK rfl rfl).trans (by rw[e];exact Zqd)) rfl).trans (by rw[Zb7,ZaE,decide_eq_false ne];rfl);have w:xs2 (P.tbl n) K03L.Zap [Wn t.d] h=.ok (.rt (.bl Wq),[Wn t.d]) h:=Zb (Zh (by rw[ZbX,ZaC,q,Zk]));exact congrArg Ze w
 cases t with
 |rcc f x e=>have q:ev (P.tbl n) (.cmp .Eq (.ix (.var 0) (.ci 0)) (.Ci_ "rec")) [Wn (T.rcc f x e).d] h=.ok (.bl Wp) h:=(Zq (x:=.str (O "rec")) rfl rfl).trans (by rw[Zb7,ZaE,decide_eq_true rfl];rfl);have q2:ev (P.tbl n) (.cmp .Eq (.ix (.var 0) (.ci 1)) (.ix (.var 0) (.ci 2))) [Wn (T.rcc f x e).d] h=.ok (.bl (Wr (f=x))) h:=(Zq (x:=.str f) (y:=.str x) rfl rfl).trans (by rw[Zb7,ZaE];rfl);have w:xs2 (P.tbl n) K03L.Zap [Wn (T.rcc f x e).d] h=.ok (.rt (.bl (Wr (f=x))),[Wn (T.rcc f x e).d]) h:=Zb (Zh (by rw[ZbX,ZaC,q,Zk,Zco];exact q2));exact congrArg Ze w
 |num z=>exact no _ _ rfl (by simp)
 |name x=>exact no _ _ rfl (by simp)
 |fn x e=>exact no _ _ rfl (by simp)
 |call f e=>exact no _ _ rfl (by simp)
 |iff c f e=>exact no _ _ rfl (by simp)
 |op w f e=>exact no _ _ rfl (by simp)
def ZxL{g:Tg}{body:Ev->Hd->R (Fl×Ev)}(e:h[j]? = Wn (.lst L))(b:Za4 g d S=Wn ρ1)(q:body ρ1 h=.exc c h2):ZH [(j,L)] g body (d::ds) S h=.exc c h2:=by
 have:Wk.stays [(j,L)] h=Wp:=by simp[Wk.stays,e]
 rw[ZH,if_pos this,b];simp only;rw[q];rfl
theorem ZvQ(H:Lw P)(n:Nat){h:Hd}(hj:h[j]? = Wn (.lst L)):∀(ps:List T) (o:Option D),∃o',ZH [(j,L)] (.nm 1) (xs2 (P.tbl (n+1)) ZcO) (ps.map T.d) [E,o] h=if ps.any tw=Wp then .exc noN h else .ok (.nx,[E,o']) h
 |[],o=>⟨o,ZfL hj⟩
 |s::ps,o=>by
  obtain⟨o',e⟩:=ZvQ H n (E:=E) hj ps (Wn s.d);refine⟨o',?_⟩;have t1:tst (P.tbl (n+1)) Zb0 [E,Wn s.d] h=.ok (tw s) h:=Z7 (Zj (Ztr H n s h) rfl);rw[YY];cases q:tw s with
  |true=>rw[q]at t1;rw[Bool.true_or,if_pos rfl];exact ZxL hj (ρ1:=[E,Wn s.d]) rfl (ZR ((Zt t1).trans (ZR (Zkw rfl))))
  |false=>rw[q]at t1;rw[Bool.false_or,<- e];exact ZgG hj (ρ1:=[E,Wn s.d]) rfl ((Za ((Zi t1).trans rfl)).trans rfl)
def okN(t:T):Bool:=Wr (lf t=[])&&!t.places.any tw
theorem Ztw (H:Lw P) (n:Nat) (t:T) (h:Hd) (hk:∀ x∈lf t,Yo x=Wp) (hl:(ddS (lf t)).length<64) (hs:t.size<=800000) (hd:dep t<=900):∃ g,run P (n+3) (O "check_names") [t.d] h=if okN t=Wp then .ok .non (h++g) else .exc noN (h++g):=by
 obtain ⟨g,e⟩:=ZwI H.w.f n t h hs hd hk hl;rw [Zg H.check_names rfl];unfold okN;by_cases cl:lf t=[]
 . rw [cl] at e;have e2:=Gn.ZiD H.w.f.t H.w.pl n t (h++g++[.lst ((ZaB (ddS [])).map .str)]) hs;generalize eh:h++g++[DO.lst ((ZaB (ddS [])).map .str)]=h1 at e e2;have i1:h1[(h++g).length]? = Wn (.lst []):=by rw [<- eh];simp [ddS,ZaB]
   obtain ⟨o',e3⟩:=ZvQ H (n+1) (E:=Wn t.d) (h:=h1++[.lst (t.places.map T.d),.lst []]) (j:=h1.length) (L:=t.places.map T.d) (by simp) t.places Wo;refine ⟨g++[.lst []]++[.lst (t.places.map T.d),.lst []],?_⟩;rw [show h++(g++[DO.lst []]++[.lst (t.places.map T.d),.lst []])=h1++[.lst (t.places.map T.d),.lst []] by rw [<- eh];simp [ddS,ZaB],decide_eq_true cl,Bool.true_and];have x1:xs1 (P.tbl (n+2)) Zc1 [Wn t.d,Wo] h=.ok (.nx,[Wn t.d,Wo]) h1:=(Zi ((Zn4 (Zj e rfl) i1).trans rfl)).trans rfl;have x2:xs1 (P.tbl (n+2)) Zc0 [Wn t.d,Wo] h1=_:=(Zax (Zjf (Zj e2 rfl) (by simp))).trans e3;cases q:t.places.any tw with
   | true =>
     rw [q,if_pos rfl] at x2;rw [if_neg (show ¬ (!Wp)=Wp by simp)];have w:xs2 (P.tbl (n+2)) ZaV [Wn t.d,Wo] h=.exc noN (h1++[.lst (t.places.map T.d),.lst []]):=(Za x1).trans (ZR x2);exact congrArg Ze w
   | false =>
     rw [q,if_neg (by simp)] at x2;rw [if_pos (show (!Wq)=Wp from rfl)];have w:xs2 (P.tbl (n+2)) ZaV [Wn t.d,Wo] h=.ok (.nx,[Wn t.d,o']) (h1++[.lst (t.places.map T.d),.lst []]):=(Za x1).trans ((Za x2).trans rfl);exact congrArg Ze w
 . have ne:(ZaB (ddS (lf t))).map D.str≠[]:=fun q=>by
     have q:=List.map_eq_nil_iff.mp q;have p:=Zbr (ddS (lf t));rw [q] at p;have q2:=List.nil_perm.mp p;cases el:lf t with
     | nil=>exact cl el
     | cons x r =>
       have:=(ZgK x (lf t)).mpr (by rw [el];exact .head _);rw [q2] at this;cases this
   refine ⟨g++[.lst ((ZaB (ddS (lf t))).map .str)],?_⟩;rw [decide_eq_false cl,Bool.false_and,if_neg (by simp),<- Oz];have t1:tst (P.tbl (n+2)) ZcX [Wn t.d,Wo] h=.ok Wp (h++g++[.lst ((ZaB (ddS (lf t))).map .str)]):=(Zn4 (Zj e rfl) (by simp;rfl)).trans (by
     cases ee:(ZaB (ddS (lf t))).map D.str with
     | nil=>exact absurd ee ne
     | cons a r=>rfl)
   have w:xs2 (P.tbl (n+2)) ZaV [Wn t.d,Wo] h=.exc noN (h++g++[.lst ((ZaB (ddS (lf t))).map .str)]):=ZR ((Zt t1).trans (ZR (Zkw rfl)));exact congrArg Ze w
end
end K04L
namespace K04L
open PySem L2 IV Tm Fr
open K03L (Ok4 Wds ws ow dg Zz rdo Zgn Zgo Rdr Zc9 ve3 Zv Ziq ZL Zls ZvB)
open Gn (dep Zf Up)
section
variable {P:Pg}
theorem Znf:∀(l:List Nat),(∀w∈ZY l,(∀c∈w,c∈l/\c≠32)/\w.length<=l.length)/\(ZY l).length<=l.length+1
 |[]=>⟨λw hw=>by rw[Ox.mp hw];exact⟨λc hc=>(List.not_mem_nil hc).elim,Oq _⟩,Oq _⟩
 |c::r=>by
  obtain⟨h1,h2⟩:=Znf r;rw[ZY];split
  . refine⟨λw hw=>?_,by simp;exact h2⟩;rcases O2.mp hw with rfl|hw
    . exact⟨λc hc=>(List.not_mem_nil hc).elim,Yv _⟩
    . exact⟨λx hx=>⟨.tail _ ((h1 w hw).1 x hx).1,((h1 w hw).1 x hx).2⟩,by have:=(h1 w hw).2;simp;lia⟩
  . rename_i nc;split
    . rename_i e;exact absurd e (Zne r)
    . rename_i w ws e;rw[e]at h1 h2;refine⟨λv hv=>?_,by simp at h2 ⊢;lia⟩;rcases O2.mp hv with rfl|hv
      . refine⟨λx hx=>?_,by have:=(h1 w (.head _)).2;simp;lia⟩;rcases O2.mp hx with rfl|hx
        . exact⟨.head _,nc⟩
        . exact⟨.tail _ ((h1 w (.head _)).1 x hx).1,((h1 w (.head _)).1 x hx).2⟩
      . exact⟨λx hx=>⟨.tail _ ((h1 v (.tail _ hv)).1 x hx).1,((h1 v (.tail _ hv)).1 x hx).2⟩,by have:=(h1 v (.tail _ hv)).2;simp;lia⟩
def Zig{a w:Str}(h:w∈ZO a):(∀c∈w.cps.toList,c∈a.cps.toList/\c≠32)/\w.length<=a.length:=by obtain⟨l,hl,rfl⟩:=List.mem_map.mp h;have:=(Znf a.cps.toList).1 l hl;rw[Zv,Zv,ZbI];exact this
def Zix(a:Str):(ZO a).length<=a.length+1:=by unfold ZO;rw[Ys,Zv];exact(Znf _).2
theorem Zd6:∀{t:T},∀x∈lf t,x∈ws t/\(Ok4 t->NmW x)
 |.num n,x,h=>by cases h
 |.name y,x,h=>by rw[Ox.mp h];exact⟨.head _,λo=>o⟩
 |.fn y e,x,h=>by have:=Zd6 x (List.mem_filter.mp h).1;rw[Zz];exact⟨Ov _ (by simpa[T.parts]using this.1),λo=>this.2 o.2⟩
 |.rcc f y e,x,h=>by have:=Zd6 x (List.mem_filter.mp h).1;rw[Zz];exact⟨Ov _ (by simpa[T.parts]using this.1),λo=>this.2 o.2.2⟩
 |.call f a,x,h=>by
  rw[Zz];rcases OD.mp h with h|h
  . have:=Zd6 x h;exact⟨Ov _ (by simp[T.parts,this.1]),λo=>this.2 o.1⟩
  . have:=Zd6 x h;exact⟨Ov _ (by simp[T.parts,this.1]),λo=>this.2 o.2⟩
 |.iff c a b,x,h=>by
  rw[Zz];rcases OD.mp h with h|h
  . have:=Zd6 x h;exact⟨Ov _ (by simp[T.parts,this.1]),λo=>this.2 o.1⟩
  . rcases OD.mp h with h|h
    . have:=Zd6 x h;exact⟨Ov _ (by simp[T.parts,this.1]),λo=>this.2 o.2.1⟩
    . have:=Zd6 x h;exact⟨Ov _ (by simp[T.parts,this.1]),λo=>this.2 o.2.2⟩
 |.op w a b,x,h=>by
  rw[Zz];rcases OD.mp h with h|h
  . have:=Zd6 x h;exact⟨Ov _ (by simp[T.parts,this.1]),λo=>this.2 o.1⟩
  . have:=Zd6 x h;exact⟨Ov _ (by simp[T.parts,this.1]),λo=>this.2 o.2⟩
def Zof(t:T):t.size<=(ws t).length:=(Zls t.places).1
inductive Jd where
 |ok (t:T)|nt|nn
def Jd.r(h:Hd):Jd->R D
 |.ok t=>.ok t.d h
 |.nt=>.exc noT h
 |.nn=>.exc noN h
def jdg(W:List Str):Jd:=match rdT W with
 |none=>.nt
 |some t=>if 100<t.size then .nt else if okN t=Wp then .ok t else .nn
structure Txt4(a:Str)(NS:List Str):Prop where
 ok:Yo a=Wp
 len:a.length<=50000
 nms:∀x∈ZO a,NmW x->x∈NS
 few:NS.length<64
theorem Zrf (H:Lw P) (n:Nat) (a:Str) (h:Hd) (X:Txt4 a NS):∃ g,run P (n+26) (O "read") [.str a] h=(jdg (ZO a)).r (h++g):=by
 have sl:=Zix a;have al:=X.len;have hb:∀ w∈ZO a,w.length<=50000:=fun w hw=>by have:=(Zig hw).2;lia
 rw [Zg H.read rfl];generalize eW:ZO a=W at hb sl;have e1:ev (P.tbl (n+25)) (.tmt .spl (.var 0) (.Ci_ " ")) [Wn (.str a),Wo,Wo] h=.ok (.ref h.length) (h++[.lst (W.map .str)]):=by
   show txm .spl (.str a) (.str (O " ")) h=_;simp only [txm];rw [eW,if_pos ⟨rfl,by lia,by lia,OC.mpr fun w hw=>ZL.mpr fun c hc=>ZL.mp X.ok c ((Zig (by rw [eW];exact hw)).1 c hc).1⟩];rfl
 have e2:=ZvB H.w (n+24) h.length (h++[.lst (W.map .str)]);have x1:xs1 (P.tbl (n+25)) ZmX [Wn (.str a),Wo,Wo] h=.ok (.nx,[Wn (.str a),Wn (.ref (h++[DO.lst (W.map .str)]).length),Wo]) (h++[.lst (W.map .str)]++[rdo h.length 0]):=Zn (i:=1) (by
   rw [ZAd,Zd e1 rfl,Zk];exact e2)
 generalize eh1:h++[DO.lst (W.map .str)]++[rdo h.length 0]=h1 at x1;generalize eo:(h++[DO.lst (W.map .str)]).length=o at x1;have ob:h1[o]? = Wn (rdo h.length ((0:Nat):Int)):=by rw [<- eh1,<- eo];simp
 have wd:h1[h.length]? = Wn (.lst (W.map .str)):=by rw [<- eh1];simp
 have ol:o=h.length+1:=by rw [<- eo];simp
 have l1:h1.length=h.length+2:=by rw [<- eh1];simp
 have old:∀ h2,Up o h1 h2->∀ g2,∃ g,h2++g2=h++g:=fun h2 u g2=>kept (by have:=u.1;rw [OA];lia) fun m hm=>by
   have:=u.1;rw [Oe (by lia),u.2 m (by lia) (by lia),<- eh1,Oz,Oe hm]
 have te:=Zy6 H (ss:=W) (o:=o) (wl:=h.length) hb 21 n 0 h1 0 (by lia) (Yv _) ⟨ob,wd,Up.refl⟩;rw [List.drop_zero] at te;unfold jdg rdT;cases et:rdE 21 W with
 | none =>
   rw [et] at te;obtain ⟨h2,e3,u2⟩:=te;obtain ⟨g,eg⟩:=old h2 u2 [];rw [Yr] at eg;refine ⟨g,?_⟩;show _=R.exc noT (h++g);rw [<- eg];have w:xs2 (P.tbl (n+25)) ZgN [Wn (.str a),Wo,Wo] h=.exc noT h2:=(Za x1).trans (ZR (Zq2 (Zc9 rfl ob (by simp [We]) (Zd rfl rfl) e3)));exact congrArg Ze w
 | some p =>
   obtain ⟨t,r⟩:=p;rw [et] at te;obtain ⟨h2,a',e3,r2,d2,b2⟩:=te;have d2:W.drop a'=r:=d2;have e3:run P (n+21+4) (mnm (O "Reader") (O "take_expression")) [.ref o,.int 0] h1=.ok t.d h2:=e3;obtain ⟨ew,ok,dt⟩:=Zfs et;have x2:xs1 (P.tbl (n+25)) ZmW [Wn (.str a),Wn (.ref o),Wo] h1=.ok (.nx,[Wn (.str a),Wn (.ref o),Wn t.d]) h2:=Zn (i:=2) (Zc9 rfl ob (by simp [We]) (Zd rfl rfl) e3);have tt:tst (P.tbl (n+24)) Zbk [Wn (.ref o)] h2=.ok (Wr ((a':Int)<((W.map D.str).length:Int))) h2:=Zp7 (Zgo rfl r2.ob) (ZZ (Zd (Zgn rfl r2.ob) rfl) (ZcM r2.wd));rw [Ys] at tt;cases r with
   | cons y r =>
     obtain ⟨g,eg⟩:=old h2 r2.up [];rw [Yr] at eg;refine ⟨g,?_⟩;show _=R.exc noT (h++g);rw [<- eg];have hlt:a'<W.length:=by
       rcases Nat.lt_or_ge a' W.length with q|q
       . exact q
       . rw [List.drop_eq_nil_of_le q] at d2;cases d2
     rw [decide_eq_true (by lia)] at tt;have e4:run P (n+25) (mnm (O "Reader") (O "take_end")) [.ref o] h2=.exc noT h2:=by
       rw [Zc5 H.n_Reader_take_end H.Reader_take_end rfl];have w:xs2 (P.tbl (n+24)) ZaJ [Wn (.ref o)] h2=.exc noT h2:=ZR ((Zt tt).trans (ZR (Zkw rfl)));exact congrArg Ze w
     have w:xs2 (P.tbl (n+25)) ZgN [Wn (.str a),Wo,Wo] h=.exc noT h2:=(Za x1).trans ((Za x2).trans (ZR (Zpc (Zc9 rfl r2.ob (by simp [We]) rfl e4))));exact congrArg Ze w
   | nil =>
     have hge:¬ a'<W.length:=fun q=>by
       have:=congrArg List.length d2;rw [List.length_drop] at this;simp at this
       lia
     rw [decide_eq_false (by lia)] at tt;have e4:run P (n+25) (mnm (O "Reader") (O "take_end")) [.ref o] h2=.ok .non h2:=by
       rw [Zc5 H.n_Reader_take_end H.Reader_take_end rfl];have w:xs2 (P.tbl (n+24)) ZaJ [Wn (.ref o)] h2=.ok (.nx,[Wn (.ref o)]) h2:=(Za ((Zi tt).trans rfl)).trans rfl;exact congrArg Ze w
     have x3:xs1 (P.tbl (n+25)) ZmV [Wn (.str a),Wn (.ref o),Wn t.d] h2=.ok (.nx,[Wn (.str a),Wn (.ref o),Wn t.d]) h2:=Zdk (Zc9 rfl r2.ob (by simp [We]) rfl e4);rw [Yr] at ew;have sz:t.size<=50001:=by have:=Zof t;rw [<- ew] at this;lia
     have e5:=Gn.ZiD H.w.f.t H.w.pl (n+23) t h2 (by lia);generalize eh3:h2++[DO.lst (t.places.map T.d),DO.lst []]=h3 at e5;have t4:tst (P.tbl (n+25)) ZmQ [Wn (.str a),Wn (.ref o),Wn t.d] h2=.ok (Wr ((100:Int)<((t.places.map T.d).length:Int))) h3:=ZnI (ZZ (Zd (Zj e5 rfl) rfl) (ZcM (ys:=t.places.map T.d) (by rw [<- eh3];simp))) (show ev (P.tbl (n+25)) (.glo (O "MOST_PLACES")) [Wn (.str a),Wn (.ref o),Wn t.d] h3=.ok (.int 100) h3 from congrArg (fun o=>R.ofO o h3) H.gp);rw [Ys] at t4;show ∃ g,_=Jd.r (h++g) (if 100<t.size then .nt else if okN t=Wp then .ok t else .nn);by_cases big:100<t.size
     . obtain ⟨g,eg⟩:=old h2 r2.up [DO.lst (t.places.map T.d),DO.lst []];refine ⟨g,?_⟩;rw [if_pos big];show _=R.exc noT (h++g);rw [<- eg,eh3];rw [decide_eq_true (by unfold T.size at big;lia)] at t4;have w:xs2 (P.tbl (n+25)) ZgN [Wn (.str a),Wo,Wo] h=.exc noT h3:=(Za x1).trans ((Za x2).trans ((Za x3).trans (ZR ((Zt t4).trans (ZR (Zkw rfl))))));exact congrArg Ze w
     . rw [if_neg big];rw [decide_eq_false (by unfold T.size at big;lia)] at t4;have nm:∀ x∈lf t,NmW x/\x∈NS:=fun x hx=>by
         obtain ⟨q1,q2⟩:=Zd6 x hx;exact ⟨q2 ok,X.nms x (by rw [eW,ew];exact q1) (q2 ok)⟩
       obtain ⟨g5,e6⟩:=Ztw H (n+22) t h3 (fun x hx=>ZL.mpr fun c hc=>by have:=((nm x hx).1.1 c hc).2;lia) (Nat.lt_of_le_of_lt (ZrY (ddS (lf t)) NS (Zpi _) fun x hx=>(nm x ((ZgK x _).mp hx)).2) X.few) (by lia) (by lia);obtain ⟨g,eg⟩:=old h2 r2.up ([DO.lst (t.places.map T.d),DO.lst []]++g5);rw [<- Oz,eh3] at eg;refine ⟨g,?_⟩;rw [<- eg];have x4:xs1 (P.tbl (n+25)) ZmU [Wn (.str a),Wn (.ref o),Wn t.d] h2=.ok (.nx,[Wn (.str a),Wn (.ref o),Wn t.d]) h3:=(Zi t4).trans rfl;cases q:okN t with
       | true =>
         rw [q,if_pos rfl] at e6;rw [if_pos rfl];have w:xs2 (P.tbl (n+25)) ZgN [Wn (.str a),Wo,Wo] h=.ok (.rt t.d,[Wn (.str a),Wn (.ref o),Wn t.d]) (h3++g5):=(Za x1).trans ((Za x2).trans ((Za x3).trans ((Za x4).trans ((Za (Zdk (Zj e6 rfl))).trans (Zb (Zh rfl))))));exact congrArg Ze w
       | false =>
         rw [q,if_neg (by simp)] at e6;rw [if_neg (by simp)];have w:xs2 (P.tbl (n+25)) ZgN [Wn (.str a),Wo,Wo] h=.exc noN (h3++g5):=(Za x1).trans ((Za x2).trans ((Za x3).trans ((Za x4).trans (ZR (Zpc (Zj e6 rfl))))));exact congrArg Ze w
noncomputable def Jd.ks:Jd->List D
 |.ok _=>[]
 |.nt=>[.bl Wp,.bl Wp,.bl Wq,.bl Wq]
 |.nn=>[.bl Wp,.bl Wq,.bl Wp,.bl Wq]
def Zvl{U:Tb}{bs:List (Str×List Bool)}(p:evs U es S h=.ok xs h1)(q:U.C f xs h1=.exc c h2)(l:bs.lookup c=Wn ks):xs1 U (.tre i n f es C Ws bs) S h=.ok (.nx,((S.set n Wo).set i (Wn (.ref h2.length))).set n Wo) (h2++[.lst (ks.map .bl)]):=by rw[xs1,p];show Zjk bs i n S (U.C f xs h1)=_;rw[q];unfold Zjk;simp only[l]
def ZyM{U:Tb}{bs:List (Str×List Bool)}(p:evs U es S h=.ok xs h1)(q:U.C f xs h1=.ok d h2):xs1 U (.tre i n f es C Ws bs) S h=.ok (.nx,S) h2:=by rw[xs1,p];show Zjk bs i n S (U.C f xs h1)=_;rw[q];rfl
def Zos(H:Lw P)(n:Nat)(a:Str)(h:Hd)(X:Txt4 a NS):∃g k,run P (n+27) (O "_law_kinds_of") [.str a] h=.ok (.ref k) (h++g)/\h.length<=k/\(h++g)[k]? = Wn (.lst (jdg (ZO a)).ks):=by
 rw[Zg H.law_kinds_of rfl];have x1:xs1 (P.tbl (n+26)) Zcs [Wn (.str a),Wo,Wo] h=.ok (.nx,[Wn (.str a),Wn (.ref h.length),Wo]) (h++[.lst []]):=Zn (i:=1) rfl;obtain⟨g,e⟩:=Zrf H n a (h++[.lst []]) X;cases q:jdg (ZO a)with
 |ok t=>
  rw[q]at e;have x2:xs1 (P.tbl (n+26)) Zao [Wn (.str a),Wn (.ref h.length),Wo] (h++[.lst []])=.ok (.nx,[Wn (.str a),Wn (.ref h.length),Wo]) (h++[.lst []]++g):=ZyM (Zd rfl rfl) e;refine⟨[.lst []]++g,h.length,?_,Oq _,?_⟩
  . rw[<- Oz];have w:xs2 (P.tbl (n+26)) ZaI [Wn (.str a),Wo,Wo] h=.ok (.rt (.ref h.length),[Wn (.str a),Wn (.ref h.length),Wo]) (h++[.lst []]++g):=(Za x1).trans ((Za x2).trans (Zb (Zh rfl)));exact congrArg Ze w
  . simp[Jd.ks]
 |nt=>
  rw[q]at e;have x2:xs1 (P.tbl (n+26)) Zao [Wn (.str a),Wn (.ref h.length),Wo] (h++[.lst []])=.ok (.nx,[Wn (.str a),Wn (.ref (h++[DO.lst []]++g).length),Wo]) (h++[.lst []]++g++[.lst [.bl Wp,.bl Wp,.bl Wq,.bl Wq]]):=Zvl (c:=noT) (ks:=[Wp,Wp,Wq,Wq]) (Zd rfl rfl) e (by decide +kernel);refine⟨[.lst []]++g++[.lst [.bl Wp,.bl Wp,.bl Wq,.bl Wq]],(h++[DO.lst []]++g).length,?_,by simp,?_⟩
  . rw[<- Oz,<- Oz];have w:xs2 (P.tbl (n+26)) ZaI [Wn (.str a),Wo,Wo] h=.ok (.rt (.ref (h++[DO.lst []]++g).length),[Wn (.str a),Wn (.ref (h++[DO.lst []]++g).length),Wo]) (h++[.lst []]++g++[.lst [.bl Wp,.bl Wp,.bl Wq,.bl Wq]]):=(Za x1).trans ((Za x2).trans (Zb (Zh rfl)));exact congrArg Ze w
  . rw[<- Oz,<- Oz];simp[Jd.ks]
 |nn=>
  rw[q]at e;have x2:xs1 (P.tbl (n+26)) Zao [Wn (.str a),Wn (.ref h.length),Wo] (h++[.lst []])=.ok (.nx,[Wn (.str a),Wn (.ref (h++[DO.lst []]++g).length),Wo]) (h++[.lst []]++g++[.lst [.bl Wp,.bl Wq,.bl Wp,.bl Wq]]):=Zvl (c:=noN) (ks:=[Wp,Wq,Wp,Wq]) (Zd rfl rfl) e (by decide +kernel);refine⟨[.lst []]++g++[.lst [.bl Wp,.bl Wq,.bl Wp,.bl Wq]],(h++[DO.lst []]++g).length,?_,by simp,?_⟩
  . rw[<- Oz,<- Oz];have w:xs2 (P.tbl (n+26)) ZaI [Wn (.str a),Wo,Wo] h=.ok (.rt (.ref (h++[DO.lst []]++g).length),[Wn (.str a),Wn (.ref (h++[DO.lst []]++g).length),Wo]) (h++[.lst []]++g++[.lst [.bl Wp,.bl Wq,.bl Wp,.bl Wq]]):=(Za x1).trans ((Za x2).trans (Zb (Zh rfl)));exact congrArg Ze w
  . rw[<- Oz,<- Oz];simp[Jd.ks]
end
end K04L
namespace K04L
open PySem L2 IV Tm Fr
open K03L (Ok4 Wds ws ow dg Zz Zv ZnQ ZcE Zim)
open Gn (dep Zf Up)
section
variable {P:Pg}
theorem Zpr{U:Tb}{sg:Str}:∀(cs:List Nat) (acc:List D),acc.length+cs.length<=1000->ZG [] (.nm 0) (tsto U Wo) (ev U (.sin (.var 0) (.cst (.str sg)))) (cs.map λc=>.str ⟨#[c]⟩) [Wo] acc h=.ok (acc++cs.map λc=>D.bl (Wr (c∈sg.cps.toList))) h
 |[],acc,_=>by simp[ZG,Wk.stays]
 |c::cs,acc,hz=>by
  rw[Os]at hz;have z:ev U (.sin (.var 0) (.cst (.str sg))) [Wn (.str ⟨#[c]⟩)] h=.ok (.bl (Wr (c∈sg.cps.toList))) h:=by rw[Zsw];exact K03L.Zog sg c
  exact(ZsP (by lia) z).trans ((Zpr (U:=U) (sg:=sg) cs (acc++[.bl (Wr (c∈sg.cps.toList))]) (by simp;lia)).trans (by simp))
def ZkX{U:Tb}{y sg:Str}(hy:y.length<=1000):ev U (.blt .all (.cons (.comp [(O "_law_sign")] [Wo] (.tw (.var 0)) (.nm 0) Wo (.sin (.var 0) (.cst (.str sg)))) .nil)) [Wn (.str y)] h=.ok (.bl (y.cps.toList.all λc=>Wr (c∈sg.cps.toList))) (h++[.lst (y.cps.toList.map λc=>D.bl (Wr (c∈sg.cps.toList)))]):=by
 have lz:=Zv y;refine ZZ (Zd (ZfR (w:=⟨[],y.cps.toList.map λc=>.str ⟨#[c]⟩⟩) rfl (Zpr y.cps.toList [] (by simp at lz ⊢;lia))) rfl) ?_;show Zhe [.ref h.length] _=_;have eb:Zdp ([]++y.cps.toList.map λc=>D.bl (Wr (c∈sg.cps.toList)))=Wn (y.cps.toList.map λc=>Wr (c∈sg.cps.toList)):=by rw[OB,<- ZcE,List.map_map];rfl
 simp only[Zhe,lstOf,Zjz,Yw,eb,Yt];show R.ok (D.bl ((y.cps.toList.map λc=>Wr (c∈sg.cps.toList)).all id)) _=_;rw[List.all_map];rfl
def ZvK{U:Tb}{y:Str}(hz:y.length<=1000000):ev U (.blt .len (.cons (.var 0) .nil)) [Wn (.str y)] h=.ok (.int y.length) h:=ZZ (Zd rfl rfl) (if_pos (by rw[YA];lia))
def Zo3{U:Tb}{y:Str}{es:Exs}{zs:List Str}(p:evs U es [Wn (.str y)] h=.ok (zs.map .str) h)(hz:zs.length<=1000):ev U (.cmp .In (.var 0) (.tupl es)) [Wn (.str y)] h=.ok (.bl (Wr (y∈zs))) h:=by
 refine(Zq (x:=.str y) rfl (Za1 p (by simpa using hz))).trans ?_;show ZaX U.GD Wq (.str y) (.tup (zs.map .str)) h=_;have e:(zs.map D.str).any (λz=>eqF z (.str y))=Wr (y∈zs):=by
  rw[Bool.eq_iff_iff,List.any_eq_true,decide_eq_true_eq];constructor
  . rintro ⟨d,hd,q⟩;obtain⟨z,hz,rfl⟩:=List.mem_map.mp hd;have:z=y:=by simpa[eqF]using q
    rw[<- this];exact hz
  . intro hy;exact⟨.str y,List.mem_map_of_mem hy,by simp[eqF]⟩
 have f:(zs.map D.str).all D.flat=Wp:=OC.mpr λd hd=>by obtain⟨z,_,rfl⟩:=List.mem_map.mp hd;rfl
 show(if ((D.str y).flat&&(zs.map D.str).all D.flat)=Wp then R.ok (D.bl ((zs.map D.str).any λz=>eqF z (.str y))) h else .bad)=_;rw[f,if_pos (show((D.str y).flat&&Wp)=Wp from rfl),e]
theorem Zza (H:Lw P) (n:Nat) (y:Str) (h:Hd) (hz:y.length<=1000000):∃ g,run P (n+1) (O "_law_is_name") [.str y] h=.ok (.bl (isNm y)) (h++g):=by
 rw [Zg H.law_is_name rfl];show ∃ g,Ze (xs2 (P.tbl n) Zat [Wn (.str y)] h)=.ok (.bl (isNm y)) (h++g);have e1:tst (P.tbl n) (.nt (.ex (.cmp2 .LtE .LtE (.ci 1) (.blt .len (.cons (.var 0) .nil)) (.ci 8)))) [Wn (.str y)] h=.ok (!(Wr (1<=(y.length:Int))&&Wr ((y.length:Int)<=8))) h:=Zld (Z7 (Zim rfl (ZvK hz) rfl));have e2:tst (P.tbl n) (.ex (.cmp .In (.var 0) (.tupl (.cons (.Ci_ "fn") (.cons (.Ci_ "rec") (.cons (.Ci_ "call") (.cons (.Ci_ "if") .nil))))))) [Wn (.str y)] h=.ok (Wr (y∈[O "fn",O "rec",O "call",O "if"])) h:=Z7 (Zo3 (zs:=[O "fn",O "rec",O "call",O "if"]) rfl (by simp));unfold isNm;have fls:tst (P.tbl n) ZcV [Wn (.str y)] h=.ok Wp h->∃ g,Ze (xs2 (P.tbl n) Zat [Wn (.str y)] h)=.ok (.bl Wq) (h++g):=fun t1=>⟨[],by
   rw [Yr];have w:xs2 (P.tbl n) Zat [Wn (.str y)] h=.ok (.rt (.bl Wq),[Wn (.str y)]) h:=Zb ((Zt t1).trans (Zb (Zh rfl)));exact congrArg Ze w⟩
 cases b1:(Wr (1<=(y.length:Int))&&Wr ((y.length:Int)<=8)) with
 | false =>
   rw [b1] at e1;simpa using fls (Zw8 e1)
 | true =>
   rw [b1] at e1;cases b2:Wr (y∈[O "fn",O "rec",O "call",O "if"]) with
   | true =>
     rw [b2] at e2;simpa using fls (Zmf e1 e2)
   | false =>
     rw [b2] at e2;rw [Oa,decide_eq_true_eq,decide_eq_true_eq] at b1;refine ⟨[.lst (y.cps.toList.map fun c=>D.bl (Wr (c∈(O "abcdefghijklmnopqrstuvwxyz").cps.toList)))],?_⟩;rw [Bool.true_and,Bool.not_false,Bool.and_true];have w:xs2 (P.tbl n) Zat [Wn (.str y)] h=.ok (.rt (.bl (y.cps.toList.all fun c=>Wr (c∈(O "abcdefghijklmnopqrstuvwxyz").cps.toList))),[Wn (.str y)]) (h++[.lst (y.cps.toList.map fun c=>D.bl (Wr (c∈(O "abcdefghijklmnopqrstuvwxyz").cps.toList)))]):=(Za ((Zi (Zmf e1 e2)).trans rfl)).trans (Zb (Zh (ZkX (by lia))));exact congrArg Ze w
theorem Zy9 (H:Lw P) (n:Nat) (y:Str) (h:Hd) (hz:y.length<=1000000):∃ g,run P (n+1) (O "_law_is_number") [.str y] h=.ok (.bl (Zc2 y)) (h++g):=by
 rw [Zg H.law_is_number rfl];show ∃ g,Ze (xs2 (P.tbl n) ZQ [Wn (.str y)] h)=.ok (.bl (Zc2 y)) (h++g);have e1:tst (P.tbl n) (.nt (.ex (.cmp2 .LtE .LtE (.ci 1) (.blt .len (.cons (.var 0) .nil)) (.ci 6)))) [Wn (.str y)] h=.ok (!(Wr (1<=(y.length:Int))&&Wr ((y.length:Int)<=6))) h:=Zld (Z7 (Zim rfl (ZvK hz) rfl));have fls:tst (P.tbl n) ZaG [Wn (.str y)] h=.ok Wp h->∃ g,Ze (xs2 (P.tbl n) ZQ [Wn (.str y)] h)=.ok (.bl Wq) (h++g):=fun t1=>⟨[],by
   rw [Yr];have w:xs2 (P.tbl n) ZQ [Wn (.str y)] h=.ok (.rt (.bl Wq),[Wn (.str y)]) h:=Zb ((Zt t1).trans (Zb (Zh rfl)));exact congrArg Ze w⟩
 unfold Zc2 Zlt;cases b1:(Wr (1<=(y.length:Int))&&Wr ((y.length:Int)<=6)) with
 | false =>
   rw [b1] at e1;simpa using fls (Zw8 e1)
 | true =>
   rw [b1] at e1;rw [Oa,decide_eq_true_eq,decide_eq_true_eq] at b1;have lc:=Zv y;rcases ec:y.cps.toList with _|⟨c,r⟩
   . rw [ec] at lc;simp at lc;lia
   have ix:ev (P.tbl n) (.ix (.var 0) (.ci 0)) [Wn (.str y)] h=.ok (.str ⟨#[c]⟩) h:=(ZK rfl rfl).trans (by
     show (if y.length<=sizeLine then R.ofO ((atI y.cps.toList 0).map fun c=>D.str ⟨#[c]⟩) h else .bad)=_;rw [if_pos (by rw [YA];lia),ec,ZpC];rfl)
   have i0:(⟨#[c]⟩:Str)=O "0" ↔ (c::r).head? = Wn 48:=by
     rw [List.head?_cons];constructor
     . intro q;have:=congrArg (fun s:Str=>s.cps.toList) q;rw [show (O "0").cps.toList=[48] by decide +kernel] at this;have:c=48:=by simpa using this
       rw [this]
     . intro q;cases q;decide +kernel
   have e2:tst (P.tbl n) (.ex (.cmp .Eq (.ix (.var 0) (.ci 0)) (.Ci_ "0"))) [Wn (.str y)] h=.ok (Wr ((c::r).head? = Wn 48)) h:=Zr (ZhU ix rfl) (decide_eq_decide.mpr i0);have e3:tst (P.tbl n) (.ex (.cmp .NotEq (.var 0) (.Ci_ "0"))) [Wn (.str y)] h=.ok (!Wr (y=O "0")) h:=Zxl rfl rfl;have go:tst (P.tbl n) ZaG [Wn (.str y)] h=.ok Wq h->∃ g,Ze (xs2 (P.tbl n) ZQ [Wn (.str y)] h)=.ok (.bl ((c::r).all fun c=>Wr (c∈(O "0123456789").cps.toList))) (h++g):=fun t1=>⟨_,by
     have w:xs2 (P.tbl n) ZQ [Wn (.str y)] h=.ok (.rt (.bl (y.cps.toList.all fun c=>Wr (c∈(O "0123456789").cps.toList))),[Wn (.str y)]) (h++[.lst (y.cps.toList.map fun c=>D.bl (Wr (c∈(O "0123456789").cps.toList)))]):=(Za ((Zi t1).trans rfl)).trans (Zb (Zh (ZkX (by lia))));rw [ec] at w;exact congrArg Ze w⟩
   rw [Bool.true_and];cases b2:Wr ((c::r).head? = Wn 48) with
   | false =>
     rw [b2] at e2;simpa using go (Zmf e1 (Zm5 e2))
   | true =>
     rw [b2] at e2;cases b3:Wr (y=O "0") with
     | true =>
       rw [b3] at e3;simpa using go (Zmf e1 (ZkW e2 e3))
     | false =>
       rw [b3] at e3;simpa using fls (Zmf e1 (ZkW e2 e3))
end
end K04L
namespace K04L
open PySem L2 IV Tm Fr
open K03L (Ok4 Wds ws ow dg Zz Zv)
open Gn (dep Zf Up)
section
variable {P:Pg}
def sgn(w:Str):Str:=match shp w with
 |none=>O ""
 |some (nb,np)=>⟨(YI nb 110++YI np 101).toArray⟩
def Zoo(H:Lw P)(n:Nat)(w:Str)(h:Hd):run P (n+1) (O "_law_shape") [.str w] h=.ok (.str (sgn w)) h:=by
 rw[Zg H.law_shape rfl];have eq:∀k:Str,tst (P.tbl n) (.ex (.cmp .Eq (.var 0) (.cst (.str k)))) [Wn (.str w)] h=.ok (Wr (w=k)) h:=λk=>ZhU rfl rfl;have e4:tst (P.tbl n) Zeg [Wn (.str w)] h=.ok (Wr (w∈[O "call",O "+",O "-",O "*",O "<"])) h:=Z7 (Zo3 (zs:=[O "call",O "+",O "-",O "*",O "<"]) rfl (by simp));show Ze (xs2 (P.tbl n) Zae [Wn (.str w)] h)=_;by_cases h1:w=O "fn"
 . have s:sgn w=O "ne" := by rw[h1];decide +kernel
   have x:xs2 (P.tbl n) Zae [Wn (.str w)] h=.ok (.rt (.str (O "ne")),[Wn (.str w)]) h:=Zb ((Zt (Zr (eq _) (decide_eq_true h1))).trans (Zb (Zh rfl)));rw[s];exact congrArg Ze x
 have x1:xs1 (P.tbl n) Zev [Wn (.str w)] h=.ok (.nx,[Wn (.str w)]) h:=(Zi (Zr (eq _) (decide_eq_false h1))).trans rfl;by_cases h2:w=O "rec"
 . have s:sgn w=O "nne" := by rw[h2];decide +kernel
   have x:xs2 (P.tbl n) Zae [Wn (.str w)] h=.ok (.rt (.str (O "nne")),[Wn (.str w)]) h:=(Za x1).trans (Zb ((Zt (Zr (eq _) (decide_eq_true h2))).trans (Zb (Zh rfl))));rw[s];exact congrArg Ze x
 have x2:xs1 (P.tbl n) Zeu [Wn (.str w)] h=.ok (.nx,[Wn (.str w)]) h:=(Zi (Zr (eq _) (decide_eq_false h2))).trans rfl;by_cases h3:w=O "if"
 . have s:sgn w=O "eee" := by rw[h3];decide +kernel
   have x:xs2 (P.tbl n) Zae [Wn (.str w)] h=.ok (.rt (.str (O "eee")),[Wn (.str w)]) h:=(Za x1).trans ((Za x2).trans (Zb ((Zt (Zr (eq _) (decide_eq_true h3))).trans (Zb (Zh rfl)))));rw[s];exact congrArg Ze x
 have x3:xs1 (P.tbl n) Zet [Wn (.str w)] h=.ok (.nx,[Wn (.str w)]) h:=(Zi (Zr (eq _) (decide_eq_false h3))).trans rfl;by_cases h4:w∈[O "call",O "+",O "-",O "*",O "<"]
 . have s:sgn w=O "ee" := by
    have f:∀k∈[O "call",O "+",O "-",O "*",O "<"],sgn k=O "ee" := by decide +kernel
    exact f w h4
   have x:xs2 (P.tbl n) Zae [Wn (.str w)] h=.ok (.rt (.str (O "ee")),[Wn (.str w)]) h:=(Za x1).trans ((Za x2).trans ((Za x3).trans (Zb ((Zt (Zr e4 (decide_eq_true h4))).trans (Zb (Zh rfl))))));rw[s];exact congrArg Ze x
 have x4:xs1 (P.tbl n) Zes [Wn (.str w)] h=.ok (.nx,[Wn (.str w)]) h:=(Zi (Zr e4 (decide_eq_false h4))).trans rfl;have s:sgn w=O "" := by simp only[O2,List.not_mem_nil,or_false,not_or]at h4;unfold sgn shp;rw[if_neg h1,if_neg h2,if_neg h4.1,if_neg h3,if_neg h4.2.1,if_neg h4.2.2.1,if_neg h4.2.2.2.1,if_neg h4.2.2.2.2]
 have x:xs2 (P.tbl n) Zae [Wn (.str w)] h=.ok (.rt (.str (O "")),[Wn (.str w)]) h:=(Za x1).trans ((Za x2).trans ((Za x3).trans ((Za x4).trans (Zb (Zh rfl)))));rw[s];exact congrArg Ze x
end
end K04L
namespace K04L
open PySem L2 IV Tm Fr
noncomputable def lay:List Bool->List T->Option (List D×List T)
 |[],p=>Wn ([],p)
 |true::r,.name x::p=>(lay r p).map λq=>(.str x::q.1,q.2)
 |true::_,_=>Wo
 |false::r,t::p=>(lay r p).map λq=>(t.d::q.1,q.2)
 |false::_,[]=>Wo
theorem ZvN:∀(n:Nat) (p:List T),lay (YI n Wq) p=(Zb5 n p).map λq=>(q.1.map T.d,q.2)
 |0,p=>by simp[Zb5,lay]
 |n+1,[]=>by simp[Zb5,lay,List.replicate_succ]
 |n+1,t::p=>by
  rw[List.replicate_succ,lay,ZvN n p];unfold Zb5;by_cases h:n<=p.length
  . rw[if_pos h,if_pos (by simp;exact h)];rfl
  . rw[if_neg h,if_neg (by simp;lia)];rfl
theorem ZvM:∀(n m:Nat) (p:List T),lay (YI n Wp++YI m Wq) p=(Zfv n p).bind λq=>(Zb5 m q.2).map λz=>(q.1.map .str++z.1.map T.d,z.2)
 |0,m,p=>by
  show lay (YI m Wq) p=(Zb5 m p).map λz=>(z.1.map T.d,z.2)
  exact ZvN m p
 |n+1,m,[]=>rfl
 |n+1,m,t::p=>by
  rw[List.replicate_succ];cases t with
  |name x=>
   show(lay (YI n Wp++YI m Wq) p).map (λq=>(D.str x::q.1,q.2))=((Zfv n p).map λq=>(x::q.1,q.2)).bind _;rw[ZvM n m p];cases Zfv n p with
   |none=>rfl
   |some q=>show((Zb5 m q.2).map λz=>(q.1.map D.str++z.1.map T.d,z.2)).map _=(Zb5 m q.2).map _;cases Zb5 m q.2<;>rfl
  |_=>rfl
end K04L
namespace K04L
open PySem L2 IV Tm Fr
open K03L (Ok4 ws ZB)
open Gn (dep Zf Up)
section
variable {P:Pg}
theorem pd:∀t:T,t.d.pure=Wp
 |.num _=>rfl
 |.name _=>rfl
 |.fn x e=>by simp[T.d,D.pure,D.pures,pd e]
 |.rcc f x e=>by simp[T.d,D.pure,D.pures,pd e]
 |.call f a=>by simp[T.d,D.pure,D.pures,pd f,pd a]
 |.iff c a b=>by simp[T.d,D.pure,D.pures,pd c,pd a,pd b]
 |.op w a b=>by simp[T.d,D.pure,D.pures,pd a,pd b]
theorem pds:∀l:List T,D.pures (l.map T.d)=Wp
 |[]=>rfl
 |t::l=>by rw[Op,D.pures,pd t,pds l];rfl
def ZsD{h:Hd}(e:h[p]? = Wn (.lst xs))(pu:D.pures xs=Wp):IV.Zcx Wq (.ref p) (.ref h.length) (h++[.lst []])=.ok (.bl xs.isEmpty) (h++[.lst []]):=by
 obtain⟨ps,e1,_,_⟩:=pys_same (rd:=ZiC (h++[.lst []]) 3) xs pu;have p1:ZjC (h++[.lst []]) (.ref p)=Wn (.list ps):=by show ZiC (h++[.lst []]) 4 p=_;rw[ZiC,ZB e];simp only[e1,Yt]
 have p2:ZjC (h++[DO.lst []]) (.ref h.length)=Wn (.list []):=by show ZiC (h++[.lst []]) 4 h.length=_;rw[ZiC,Zjz];rfl
 unfold IV.Zcx;rw[p1,p2];simp only;have d0:min (PyData.list ps).depth (PyData.list []).depth<=1100:=by
  have:(PyData.list []).depth<=1:=by decide +kernel
  lia
 rw[if_pos d0];cases xs with
 |nil=>cases e1;rfl
 |cons x r=>rw[D.pys]at e1;obtain⟨y,_,e1⟩:=Option.bind_eq_some_iff.mp e1;obtain⟨ys,_,e1⟩:=Oo.mp e1;cases e1;rfl
noncomputable def sgD(b:Bool):D:=.str ⟨#[if b then 110 else 101]⟩
def Zy3(b:Bool):Wr ((⟨#[if b then 110 else 101]⟩:Str)=O "n")=b:=by cases b<;>decide +kernel
def ZyP(t:T):∃w d1 ds,t.d=.tup (.str w::d1::ds)/\((∃x,t=.name x/\d1=.str x/\w=O "name")\/(w≠O "name" /\ ∀x,t≠.name x)):=by
 cases t with
 |num n=>exact⟨_,_,_,rfl,.inr ⟨by simp,by simp⟩⟩
 |name x=>exact⟨_,_,_,rfl,.inl ⟨x,rfl,rfl,rfl⟩⟩
 |fn x e=>exact⟨_,_,_,rfl,.inr ⟨by simp,by simp⟩⟩
 |rcc f x e=>exact⟨_,_,_,rfl,.inr ⟨by simp,by simp⟩⟩
 |call f a=>exact⟨_,_,_,rfl,.inr ⟨by simp,by simp⟩⟩
 |iff c a b=>exact⟨_,_,_,rfl,.inr ⟨by simp,by simp⟩⟩
 |op w a b=>exact⟨_,_,_,rfl,.inr ⟨by cases w<;>simp[Wd.s],by simp⟩⟩
noncomputable def vp(p q:Nat)(w:Str)(s o:Option D):Ev:=[Wn (.ref p),Wn (.str w),Wn (.ref q),s,o]
structure Fb(B_ p:Nat)(h h':Hd):Prop where
 l:h.length<=h'.length
 k:∀m,m<B_->m≠p->h'[m]? = h[m]?
theorem Fb.trans(x:Fb B_ p a b)(y:Fb B_ p b c):Fb B_ p a c:=⟨OE x.l y.l,λm h1 h2=>(y.k m h1 h2).trans (x.k m h1 h2)⟩
def Zr7{U:Tb}(b:Bool)(t:T){r:List T}{h:Hd}(hp:h[p]? = Wn (.lst ((t::r).reverse.map T.d)))(hq:h[q]? = Wn (.lst acc))(pq:p≠q)(hz:acc.length<=100)(hB:B_<=q)(hb:B_<=h.length)(o:Option D):
 (∃d h',((b=Wp/\∃x,t=.name x/\d=.str x)\/(b=Wq/\d=t.d))/\xs2 U Zan (vp p q w (Wn (sgD b)) o) h=.ok (.nx,vp p q w (Wn (sgD b)) (Wn t.d)) h'/\h'[p]? = Wn (.lst (r.reverse.map T.d))/\h'[q]? = Wn (.lst (acc++[d]))/\Fb B_ p h h')
 \/ (b=Wp/\(∀x,t≠.name x)/\∃S h',xs2 U Zan (vp p q w (Wn (sgD b)) o) h=.ok (.rt .non,S) h'/\Fb B_ p h h'):=by
 have t1:tst U ZbK (vp p q w (Wn (sgD b)) o) h=.ok Wq (h++[.lst []]):=Z7 ((Zq rfl (ZbU (xs:=[]) rfl (Yv _))).trans ((ZsD hp (pds _)).trans (by simp)));have hp1:(h++[DO.lst []])[p]? = Wn (.lst (r.reverse.map T.d++[t.d])):=by rw[ZB hp];simp
 have hq1:(h++[DO.lst []])[q]? = Wn (.lst acc):=ZB hq;have f1:Fb B_ p h (h++[DO.lst []]):=⟨by simp,λm h1 _=>Oe (by lia)⟩
 generalize h++[DO.lst []]=h1 at t1 hp1 hq1 f1;have x2:xs1 U ZdC (vp p q w (Wn (sgD b)) o) h1=.ok (.nx,vp p q w (Wn (sgD b)) (Wn t.d)) (h1.set p (.lst (r.reverse.map T.d))):=Zn (i:=4) (Zj0 (i:=p) rfl hp1 rfl (Zr2 hp1));have hp2:(h1.set p (.lst (r.reverse.map T.d)))[p]? = Wn (.lst (r.reverse.map T.d)):=by rw[Ol (Gn.Zs hp1)]
 have hq2:(h1.set p (.lst (r.reverse.map T.d)))[q]? = Wn (.lst acc):=by rw[Oc pq];exact hq1
 have f2:Fb B_ p h (h1.set p (.lst (r.reverse.map T.d))):=⟨by rw[List.length_set];exact f1.l,λm a c=>(Oc (YJ c)).trans (f1.k m a c)⟩
 generalize h1.set p (.lst (r.reverse.map T.d))=h2 at x2 hp2 hq2 f2;have x1:xs1 U ZdD (vp p q w (Wn (sgD b)) o) h=.ok (.nx,vp p q w (Wn (sgD b)) o) h1:=(Zi t1).trans rfl;obtain⟨hw,d1,ds,ed,cs⟩:=ZyP t;have e0:ev U (.ix (.var 4) (.ci 0)) (vp p q w (Wn (sgD b)) (Wn t.d)) h2=.ok (.str hw) h2:=(ZK rfl rfl).trans (by rw[ed];exact Zqd);have e1:ev U (.ix (.var 4) (.ci 1)) (vp p q w (Wn (sgD b)) (Wn t.d)) h2=.ok d1 h2:=(ZK rfl rfl).trans (by rw[ed,Zmg];exact congrArg (λo=>R.ofO o h2) (IV.ZaW (k:=1)));have tn:∀h',tst U (.ex (.cmp .Eq (.var 3) (.Ci_ "n"))) (vp p q w (Wn (sgD b)) (Wn t.d)) h'=.ok b h':=λh'=>Zr (ZhU rfl rfl) (Zy3 b);have en:∀h',ev U (.cmp .Eq (.var 3) (.Ci_ "n")) (vp p q w (Wn (sgD b)) (Wn t.d)) h'=.ok (.bl b) h':=λh'=>(Zq (x:=sgD b) rfl rfl).trans (by unfold sgD;rw[Zb7,ZaE,if_neg (by simp),Zy3]);have tm:tst U (.ex (.cmp .NotEq (.ix (.var 4) (.ci 0)) (.Ci_ "name"))) (vp p q w (Wn (sgD b)) (Wn t.d)) h2=.ok (!Wr (hw=O "name")) h2:=Zxl e0 rfl;have go:∀d,atI [t.d,d1] (if b then 1 else 0)=Wn d->tst U ZbJ (vp p q w (Wn (sgD b)) (Wn t.d)) h2=.ok Wq h2->∃h',xs2 U Zan (vp p q w (Wn (sgD b)) o) h=.ok (.nx,vp p q w (Wn (sgD b)) (Wn t.d)) h'/\h'[p]? = Wn (.lst (r.reverse.map T.d))/\h'[q]? = Wn (.lst (acc++[d]))/\Fb B_ p h h':=λd ea tf=>by
  have hq3:(h2++[DO.lst [t.d,d1]])[q]? = Wn (.lst acc):=ZB hq2;refine⟨(h2++[DO.lst [t.d,d1]]).set q (.lst (acc++[d])),?_,?_,?_,?_,?_⟩
  . exact(Za x1).trans ((Za x2).trans ((Za ((Zi tf).trans rfl)).trans ((Za (Zdk (Zj0 (i:=q) rfl hq2 (Zd (ZhA (xs:=[t.d,d1]) (z:=if b then 1 else 0) ea (Zd rfl (Zd e1 rfl)) (ZZ (Zd (en _) rfl) rfl) (show 2<=1000 by decide)) rfl) (Zby hq3 (by rw[YA];lia))))).trans rfl)))
  . rw[Oc (YJ pq)];exact ZB hp2
  . rw[Ol (Gn.Zs hq3)]
  . rw[List.length_set,OA];have:=f2.l;lia
  . intro m a c;have:=f2.l;rw[Oc (by lia),Oe (by lia)];exact f2.k m a c
 rcases cs with ⟨x,rfl,rfl,rfl⟩|⟨ne,nn⟩
 . have tf:tst U ZbJ (vp p q w (Wn (sgD b)) (Wn (T.name x).d)) h2=.ok Wq h2:=by
    cases b
    . exact Zm5 (tn h2)
    . exact ZkW (tn h2) (Zr tm (by simp))
   cases b
   . obtain⟨h',q1,q2,q3,q4⟩:=go _ rfl tf;exact .inl ⟨_,h',.inr ⟨rfl,rfl⟩,q1,q2,q3,q4⟩
   . obtain⟨h',q1,q2,q3,q4⟩:=go (.str x) rfl tf;exact .inl ⟨_,h',.inl ⟨rfl,x,rfl,rfl⟩,q1,q2,q3,q4⟩
 . cases b
   . obtain⟨h',q1,q2,q3,q4⟩:=go _ rfl (Zm5 (tn h2));exact .inl ⟨_,h',.inr ⟨rfl,rfl⟩,q1,q2,q3,q4⟩
   . exact .inr ⟨rfl,nn,_,h2,(Za x1).trans ((Za x2).trans (Zb ((Zt (ZkW (tn h2) (Zr tm (by rw[decide_eq_false ne];rfl)))).trans (Zb (Zh rfl))))),f2⟩
def Zxs{t:T}(nn:∀x,t≠.name x):lay (Wp::bs) (t::r)=Wo:=by
 cases t with
 |name x=>exact absurd rfl (nn x)
 |_=>rfl
theorem Zsb{U:Tb}(pq:p≠q)(hB:B_<=q):∀(bs:List Bool) (pile:List T) (acc:List D) (h:Hd) (s o:Option D),h[p]? = Wn (.lst (pile.reverse.map T.d))->h[q]? = Wn (.lst acc)->acc.length+bs.length<=100->B_<=h.length ->
 (∃ds rest h' s' o',lay bs pile=Wn (ds,rest)/\ZH [] (.nm 3) (xs2 U Zan) (bs.map sgD) (vp p q w s o) h=.ok (.nx,vp p q w s' o') h'/\h'[p]? = Wn (.lst (rest.reverse.map T.d))/\h'[q]? = Wn (.lst (acc++ds))/\Fb B_ p h h')
 \/ (lay bs pile=Wo/\∃S h',ZH [] (.nm 3) (xs2 U Zan) (bs.map sgD) (vp p q w s o) h=.ok (.rt .non,S) h'/\Fb B_ p h h')
 |[],pile,acc,h,s,o,hp,hq,_,_=>.inl ⟨[],pile,h,s,o,rfl,rfl,hp,by rw[Yr];exact hq,⟨Oq _,λ_ _ _=>rfl⟩⟩
 |b::bs,[],acc,h,s,o,hp,hq,hz,hb=>by have t1:tst U ZbK (vp p q w (Wn (sgD b)) o) h=.ok Wp (h++[.lst []]):=Z7 ((Zq rfl (ZbU (xs:=[]) rfl (Yv _))).trans ((ZsD hp (pds _)).trans rfl));exact .inr ⟨by cases b<;>rfl,_,_,Zsq (ρ1:=vp p q w (Wn (sgD b)) o) rfl (Zb ((Zt t1).trans (Zb (Zh rfl)))),⟨by simp,λm h1 _=>Oe (by lia)⟩⟩
 |b::bs,t::r,acc,h,s,o,hp,hq,hz,hb=>by
  rw[Os]at hz;rcases Zr7 (U:=U) (w:=w) b t hp hq pq (by lia) hB hb o with ⟨d,h1,c,e1,p1,q1,f1⟩|⟨rfl,nn,S,h1,e1,f1⟩
  . have hl:lay (b::bs) (t::r)=(lay bs r).map λz=>(d::z.1,z.2):=by rcases c with ⟨rfl,x,rfl,rfl⟩|⟨rfl,rfl⟩<;>rfl
    rcases Zsb (U:=U) (w:=w) pq hB bs r (acc++[d]) h1 (Wn (sgD b)) (Wn t.d) p1 q1 (by simp;lia) (OE hb f1.l)with ⟨ds,rest,h',s',o',el,e2,p2,q2,f2⟩|⟨el,S,h',e2,f2⟩
    . exact .inl ⟨d::ds,rest,h',s',o',by rw[hl,el];rfl,(Zca (ρ1:=vp p q w (Wn (sgD b)) o) rfl e1).trans e2,p2,by rw[q2,Oz];rfl,f1.trans f2⟩
    . exact .inr ⟨by rw[hl,el];rfl,S,h',(Zca (ρ1:=vp p q w (Wn (sgD b)) o) rfl e1).trans e2,f1.trans f2⟩
  . exact .inr ⟨Zxs nn,S,h1,Zsq (ρ1:=vp p q w (Wn (sgD Wp)) o) rfl e1,f1⟩
def ZwG(H:Lw P)(n:Nat)(w:Str){h:Hd}{pile:List T}(es:shp w=Wn (nb,np))(hp:h[p]? = Wn (.lst (pile.reverse.map T.d))):
 (∃t rest h',push w pile=Wn (t::rest)/\run P (n+2) (O "_law_laid") [.ref p,.str w] h=.ok (T.d t) h'/\h'[p]? = Wn (.lst (rest.reverse.map T.d))/\Up p h h')
 \/ (push w pile=Wo/\∃h',run P (n+2) (O "_law_laid") [.ref p,.str w] h=.ok .non h'/\Up p h h'):=by
 rw[Zg H.law_laid rfl];obtain⟨b1,b2,b3,mk⟩:=ZkB es;have pl:=Gn.Zs hp;have x1:xs1 (P.tbl (n+1)) Zge [Wn (.ref p),Wn (.str w),Wo,Wo,Wo] h=.ok (.nx,vp p h.length w Wo Wo) (h++[.lst [.str w]]):=Zn (i:=2) (ZbU (xs:=[_]) rfl (show 1<=1000 by decide));have sw:(sgn w).cps.toList.map (λc=>D.str ⟨#[c]⟩)=(YI nb Wp++YI np Wq).map sgD:=by unfold sgn;rw[es];simp[sgD]
 have ei:evi (P.tbl (n+1)) ZfJ (vp p h.length w Wo Wo) (h++[.lst [.str w]])=.ok ⟨[],(YI nb Wp++YI np Wq).map sgD⟩ (h++[.lst [.str w]]):=by show evi (P.tbl (n+1)) (.tw (.call (O "_law_shape") (.cons (.var 1) .nil))) _ _=_;rw[ZxQ,Zj (Zoo H n w (h++[.lst [.str w]])) rfl,Zk];exact congrArg (λz=>R.ok (⟨[],z⟩:Wk) (h++[.lst [.str w]])) sw
 have ep:∀q,lay (YI nb Wp++YI np Wq) pile=q->push w pile=(Zfv nb pile).bind (λp=>(Zb5 np p.2).map λz=>mkT w p.1 z.1::z.2)/\(Zfv nb pile).bind (λq=>(Zb5 np q.2).map λz=>(q.1.map D.str++z.1.map T.d,z.2))=q:=λq e=>⟨by unfold push;rw[es],(ZvM nb np pile).symm.trans e⟩
 rcases Zsb (U:=P.tbl (n+1)) (w:=w) (p:=p) (q:=h.length) (B_:=h.length) (by lia) (Oq _) (YI nb Wp++YI np Wq) pile [.str w] (h++[.lst [.str w]]) Wo Wo (ZB hp) (by simp) (by simp;lia) (by simp)with ⟨ds,rest,h',s',o',el,e2,p2,q2,f2⟩|⟨el,S,h',e2,f2⟩
 . obtain⟨q1,q3⟩:=ep _ el;obtain⟨⟨xs,r1⟩,z1,z2⟩:=Option.bind_eq_some_iff.mp q3;obtain⟨⟨us,r2⟩,z3,z4⟩:=Oo.mp z2;cases z4;have l1:=(Zch z1).1;have l2:us.length=np:=by
    unfold Zb5 at z3;split at z3
    . rename_i hl;cases z3;rw[List.length_take];exact Nat.min_eq_left hl
    . cases z3
   refine .inl ⟨mkT w xs us,r2,h',by rw[q1,z1];exact(congrArg (Option.map _) z3).trans rfl,?_,p2,⟨by have:=f2.l;simp at this;lia,λm a c=>(f2.k m a c).trans (Oe a)⟩⟩;have w:xs2 (P.tbl (n+1)) Zfb [Wn (.ref p),Wn (.str w),Wo,Wo,Wo] h=.ok (.rt (.tup ([.str w]++(xs.map .str++us.map T.d))),vp p h.length w s' o') h':=(Za x1).trans ((Za ((Zax ei).trans e2)).trans (Zb (Zh (ZZ (Zd rfl rfl) (Zvk q2)))));rw[(mk xs us l1 l2).2.2.2];exact congrArg Ze w
 . obtain⟨q1,q3⟩:=ep _ el;refine .inr ⟨?_,h',?_,⟨by have:=f2.l;simp at this;lia,λm a c=>(f2.k m a c).trans (Oe a)⟩⟩
   . rw[q1];cases z1:Zfv nb pile with
     |none=>rfl
     |some q=>rw[z1]at q3;have q3:(Zb5 np q.2).map (λz=>(q.1.map D.str++z.1.map T.d,z.2))=Wo:=q3;have q3:=Option.map_eq_none_iff.mp q3;show(Zb5 np q.2).map _=Wo;rw[q3];rfl
   . have w:xs2 (P.tbl (n+1)) Zfb [Wn (.ref p),Wn (.str w),Wo,Wo,Wo] h=.ok (.rt .non,S) h':=(Za x1).trans (Zb ((Zax ei).trans e2));exact congrArg Ze w
end
end K04L
namespace K04L
open PySem L2 IV Tm Fr
open K03L (Ok4 ws ZB dg ZbH)
open Gn (dep Zf Up)
section
variable {P:Pg}
theorem ZoO:∀(a r:List Str),lp r=Wo->lp (a++r)=Wo
 |[],r,h=>h
 |x::a,r,h=>by show(lp (a++r)).bind (push x)=Wo;rw[ZoO a r h];rfl
noncomputable def vr(wl p:Nat)(s o:Option D):Ev:=[Wn (.ref wl),Wn (.ref p),s,o]
def ZqO(t:T):t.d≠.non:=by cases t<;>simp[T.d]
def ZwA(es:shp w=Wn (nb,np)):sgn w≠O "" := λe=>by
 obtain⟨_,_,b3,_⟩:=ZkB es;have:=congrArg (λs:Str=>s.cps.toList.length) e;unfold sgn at this;rw[es,show(O "").cps.toList=[] by decide +kernel]at this;simp at this
 lia
def Zq1(es:shp w=Wo):sgn w=O "" := by unfold sgn;rw[es]
def Zs1{U:Tb}{h:Hd}{pile:List T}{e:Ex}{t:T}(hp:h[p]? = Wn (.lst (pile.reverse.map T.d)))(hz:pile.length<=100000)(q:ev U e (vr wl p s o) h=.ok t.d h):xs1 U (.drp (.meth .app (.var 1) (.cons e .nil))) (vr wl p s o) h=.ok (.nx,vr wl p s o) (h.set p (.lst ((t::pile).reverse.map T.d))):=Zdk (Zj0 (i:=p) rfl hp (Zd q rfl) ((Zby (d:=t.d) hp (by rw[YA];simp;lia)).trans (by rw[List.reverse_cons,List.map_append];rfl)))
def Zq8(H:Lw P)(n:Nat)(w:Str){h:Hd}{pile:List T}(hw:w.length<=1000000)(hp:h[p]? = Wn (.lst (pile.reverse.map T.d)))(hz:pile.length<=100000)(o:Option D):
 (∃pile' h' o',push w pile=Wn pile'/\pile'.length<=pile.length+1/\xs2 (P.tbl (n+2)) ZaF (vr wl p (Wn (.str w)) o) h=.ok (.nx,vr wl p (Wn (.str w)) o') h'/\h'[p]? = Wn (.lst (pile'.reverse.map T.d))/\Up p h h')
 \/ (push w pile=Wo/\∃S h',xs2 (P.tbl (n+2)) ZaF (vr wl p (Wn (.str w)) o) h=.ok (.rt .non,S) h'/\Up p h h'):=by
 have tc:tst (P.tbl (n+2)) Zdn (vr wl p (Wn (.str w)) o) h=.ok (!Wr (sgn w=O "")) h:=Zxl (Zj (Zoo H (n+1) w h) rfl) rfl;cases es:shp w with
 |some q=>
  obtain⟨nb,np⟩:=q;have tt:=Zr tc (show(!Wr (sgn w=O ""))=Wp by rw[decide_eq_false (ZwA es)];rfl);rcases ZwG H n w es hp with ⟨t,rest,h1,ep,e1,p1,u1⟩|⟨ep,h1,e1,u1⟩
  . have y1:xs1 (P.tbl (n+2)) ZaH (vr wl p (Wn (.str w)) o) h=.ok (.nx,vr wl p (Wn (.str w)) (Wn t.d)) h1:=Zn (i:=3) (Zj e1 rfl);have rl:rest.length<=pile.length:=by
     unfold push at ep;rw[es]at ep;obtain⟨⟨xs,r1⟩,z1,z2⟩:=Option.bind_eq_some_iff.mp (show(Zfv nb pile).bind _=_ from ep);obtain⟨⟨us,r2⟩,z3,z4⟩:=Oo.mp z2;cases z4;have:=congrArg List.length (Zch z1).2;rw[OA]at this;unfold Zb5 at z3;split at z3
     . cases z3;show(r1.drop np).length<=_;rw[List.length_drop]
       lia
     . cases z3
    refine .inl ⟨t::rest,_,Wn t.d,ep,by simp;exact rl,(Za ((Zt tt).trans ((Za y1).trans ((Za ((Zi (ZzX rfl (ZqO t))).trans rfl)).trans ((Za (Zs1 p1 (by lia) rfl)).trans rfl))))).trans rfl,?_,u1.trans Up.set⟩;rw[Ol (Gn.Zs p1)]
  . have y1:xs1 (P.tbl (n+2)) ZaH (vr wl p (Wn (.str w)) o) h=.ok (.nx,vr wl p (Wn (.str w)) (Wn .non)) h1:=Zn (i:=3) (Zj e1 rfl);exact .inr ⟨ep,_,h1,Zb ((Zt tt).trans ((Za y1).trans (Zb ((Zt (ZzW rfl)).trans (Zb (Zh rfl)))))),u1⟩
 |none=>
  have tf:=Zr tc (show(!Wr (sgn w=O ""))=Wq by rw[decide_eq_true (Zq1 es)];rfl);have ep:push w pile=(leaf w).map λt=>t::pile:=by unfold push;rw[es]
  obtain⟨g1,e1⟩:=Zza H (n+1) w h hw;have t1:tst (P.tbl (n+2)) ZbZ (vr wl p (Wn (.str w)) o) h=.ok (isNm w) (h++g1):=Z7 (Zj e1 rfl);have p1:(h++g1)[p]? = Wn (.lst (pile.reverse.map T.d)):=ZB hp;cases b1:isNm w with
  |true=>refine .inl ⟨.name w::pile,_,o,by rw[ep];unfold leaf;rw[if_pos b1];rfl,by simp,(Za ((Zi tf).trans ((Za ((Zt (Zr t1 b1)).trans ((Za (Zs1 (t:=.name w) p1 hz (Za1 (xs:=[_,_]) rfl (show 2<=1000 by decide)))).trans rfl))).trans rfl))).trans rfl,?_,Up.app.trans Up.set⟩;rw[Ol (Gn.Zs p1)]
  |false=>
   obtain⟨g2,e2⟩:=Zy9 H (n+1) w (h++g1) hw;have t2:tst (P.tbl (n+2)) Za2 (vr wl p (Wn (.str w)) o) (h++g1)=.ok (Zc2 w) (h++g1++g2):=Z7 (Zj e2 rfl);have p2:(h++g1++g2)[p]? = Wn (.lst (pile.reverse.map T.d)):=ZB p1;have nn:¬ isNm w=Wp:=by rw[b1];simp
   cases b2:Zc2 w with
   |true=>
    obtain⟨m,hm,em⟩:=Zlc b2;have it:intText? w=Wn (m:Int):=by rw[em];exact ZoZ m hm
    have wl6:w.length<=640:=by have:=ZbH m hm;rw[em];lia
    have e4:∀h:Hd,ZbN P.GD .itx [.str w] h=.ok (.int (m:Int)) h:=λh=>by
     show(match intText? w with
      |some n=>if w.length<=640 then R.ok (D.int n) h else .bad
      |none=>.bad)=_
     rw[it];exact if_pos wl6
    refine .inl ⟨.num (m:Int)::pile,_,o,by rw[ep];unfold leaf;rw[if_neg nn,if_pos b2,it];rfl,by simp,(Za ((Zi tf).trans ((Za ((Zi (Zr t1 b1)).trans ((Za ((Zt (Zr t2 b2)).trans ((Za (Zs1 (t:=.num (m:Int)) p2 hz (Za1 (xs:=[_,_]) (Zd rfl (Zd (ZZ (Zd rfl rfl) (e4 _)) rfl)) (show 2<=1000 by decide)))).trans rfl))).trans rfl))).trans rfl))).trans rfl,?_,(Up.app.trans Up.app).trans Up.set⟩;rw[Ol (Gn.Zs p2)]
   |false=>exact .inr ⟨by rw[ep];unfold leaf;rw[if_neg nn,if_neg (by rw[b2];simp)];rfl,_,_,Zb ((Zi tf).trans (Zb ((Zi (Zr t1 b1)).trans (Zb ((Zi (Zr t2 b2)).trans (Zb (Zh rfl))))))),Up.app.trans Up.app⟩
def ZxM{g:Tg}{body:Ev->Hd->R (Fl×Ev)}(e:h[j]? = Wn (.lst L))(b:Za4 g d S=Wn ρ1)(q:body ρ1 h=.ok (.rt x,ρ2) h2):ZH [(j,L)] g body (d::ds) S h=.ok (.rt x,ρ2) h2:=by
 have:Wk.stays [(j,L)] h=Wp:=by simp[Wk.stays,e]
 rw[ZH,if_pos this,b];simp only;rw[q];rfl
theorem Zsa(H:Lw P)(n:Nat)(wp:wl≠p):∀(rs dn:List Str) (pile:List T) (h:Hd) (s o:Option D),(∀w∈rs,w.length<=1000000)->lp dn=Wn pile->pile.length+rs.length<=100000->h[wl]? = Wn (.lst L)->h[p]? = Wn (.lst (pile.reverse.map T.d)) ->
 (∃pile' h' s' o',lp (rs.reverse++dn)=Wn pile'/\ZH [(wl,L)] (.nm 2) (xs2 (P.tbl (n+2)) ZaF) (rs.map .str) (vr wl p s o) h=.ok (.nx,vr wl p s' o') h'/\h'[p]? = Wn (.lst (pile'.reverse.map T.d))/\Up p h h')
 \/ (lp (rs.reverse++dn)=Wo/\∃S h',ZH [(wl,L)] (.nm 2) (xs2 (P.tbl (n+2)) ZaF) (rs.map .str) (vr wl p s o) h=.ok (.rt .non,S) h'/\Up p h h')
 |[],dn,pile,h,s,o,_,hd,_,hw,hp=>.inl ⟨pile,h,s,o,hd,ZfL hw,hp,Up.refl⟩
 |w::rs,dn,pile,h,s,o,hs,hd,hz,hw,hp=>by
  rw[Os]at hz;have el:(w::rs).reverse++dn=rs.reverse++(w::dn):=by simp
  rw[el];have ed:lp (w::dn)=push w pile:=by show(lp dn).bind (push w)=_;rw[hd];rfl
  rcases Zq8 H n w (wl:=wl) (hs w (.head _)) hp (by lia) o with ⟨pile',h1,o1,ep,lz,e1,p1,u1⟩|⟨ep,S,h1,e1,u1⟩
  . have w1:=u1.at hw wp;rcases Zsa H n wp rs (w::dn) pile' h1 (Wn (.str w)) o1 (λx hx=>hs x (.tail _ hx)) (ed.trans ep) (by lia) w1 p1 with ⟨pile2,h2,s2,o2,e2,e3,p2,u2⟩|⟨e2,S,h2,e3,u2⟩
    . exact .inl ⟨pile2,h2,s2,o2,e2,(ZgG hw (ρ1:=vr wl p (Wn (.str w)) o) rfl e1).trans e3,p2,u1.trans u2⟩
    . exact .inr ⟨e2,S,h2,(ZgG hw (ρ1:=vr wl p (Wn (.str w)) o) rfl e1).trans e3,u1.trans u2⟩
  . exact .inr ⟨ZoO _ _ (ed.trans ep),S,h1,ZxM hw (ρ1:=vr wl p (Wn (.str w)) o) rfl e1,u1⟩
noncomputable def tdO:Option T->D
 |some t=>t.d
 |none=>.non
def ZBr{U:Tb}{a b:Ex}(p:ev U a S h=.ok (.int x) h1)(q:ev U b S h1=.ok (.int y) h2):tst U (.ex (.cmp .NotEq a b)) S h=.ok (!Wr (x=y)) h2:=Z7 ((Zq p q).trans (by rw[Zk7,Zc7];rfl))
def Ztv(H:Lw P)(n:Nat){h:Hd}{W:List Str}(hw:h[wl]? = Wn (.lst (W.map .str)))(hl:W.length<=60000)(hs:∀w∈W,w.length<=1000000):∃g,run P (n+3) (O "_law_read") [.ref wl] h=.ok (tdO (ZbT W)) (h++g):=by
 rw[Zg H.law_read rfl];have wll:=Gn.Zs hw;have x1:xs1 (P.tbl (n+2)) Zf8 [Wn (.ref wl),Wo,Wo,Wo] h=.ok (.nx,vr wl h.length Wo Wo) (h++[.lst []]):=Zn (i:=1) (ZbU (xs:=[]) rfl (Yv _));have hw1:(h++[DO.lst []])[wl]? = Wn (.lst (W.map .str)):=ZB hw;have old:∀h',Up h.length (h++[.lst []]) h'->∃g,h'=h++g:=λh' u=>kept (by have:=u.1;simp at this;lia) λm hm=>(u.2 m (by simp;lia) (by lia)).trans (Oe hm);have ei:evi (P.tbl (n+2)) ZfI (vr wl h.length Wo Wo) (h++[.lst []])=.ok ⟨[(wl,W.map .str)],W.reverse.map .str⟩ (h++[.lst []]):=by show evi (P.tbl (n+2)) (.rev (.var 0)) _ _=_;rw[ZuH];show R.ofO ((Zl0 (.ref wl) (h++[.lst []])).map λw=>(⟨w.src,w.xs.reverse⟩:Wk)) (h++[.lst []])=_;simp only[Zl0,hw1,Yt];rw[List.map_reverse];rfl
 have fin:∀r:D,∀h' S,xs2 (P.tbl (n+2)) Ze8 [Wn (.ref wl),Wo,Wo,Wo] h=.ok (.rt r,S) h'->Up h.length (h++[.lst []]) h'->∃g,Ze (xs2 (P.tbl (n+2)) Ze8 [Wn (.ref wl),Wo,Wo,Wo] h)=.ok r (h++g):=λr h' S e u=>by obtain⟨g,rfl⟩:=old h' u;exact⟨g,congrArg Ze e⟩
 rcases Zsa H n (wl:=wl) (p:=h.length) (L:=W.map .str) (by lia) W.reverse [] [] (h++[.lst []]) Wo Wo (λw hw=>hs w (List.mem_reverse.mp hw)) rfl (by simp;lia) hw1 (by simp)with ⟨pile,h1,s1,o1,el,e1,p1,u1⟩|⟨el,S,h1,e1,u1⟩
 . rw[List.reverse_reverse,Yr]at el;have t3:tst (P.tbl (n+2)) ZfU (vr wl h.length s1 o1) h1=.ok (!Wr (((pile.reverse.map T.d).length:Int)=1)) h1:=ZBr (ZZ (Zd rfl rfl) (ZcM p1)) rfl;have xs:=(Za x1).trans (Za (r:=.cons Zf4 (.cons Zf3 .nil)) ((Zax ei).trans e1));by_cases one:pile.length=1
   . obtain⟨t,rfl⟩:=List.length_eq_one_iff.mp one;rw[show ZbT W=Wn t by unfold ZbT;rw[el]];exact fin t.d h1 _ (xs.trans ((Za ((Zi (Zr t3 rfl)).trans rfl)).trans (Zb (Zh ((ZK rfl rfl).trans ((ZN p1).trans rfl)))))) u1
   . have e:ZbT W=Wo:=by
      unfold ZbT;rw[el]
      match pile,one with
      |[],_=>rfl
      |_::_::_,_=>rfl
     rw[e];exact fin .non h1 _ (xs.trans (Zb ((Zt (Zr t3 (by rw[decide_eq_false (by simp;lia)];rfl))).trans (Zb (Zh rfl))))) u1
 . rw[List.reverse_reverse,Yr]at el;rw[show ZbT W=Wo by unfold ZbT;rw[el]];exact fin .non h1 _ ((Za x1).trans (Zb ((Zax ei).trans e1))) u1
end
end K04L
namespace K04L
open PySem L2 IV Tm Fr
open K03L (Ok4 ws ZB dg ZbH)
open Gn (dep Zf Up isT)
section
variable {P:Pg}
theorem Zv3 (H:Lw P) (m:Nat) (t:T) (h:Hd) (hc:∀ s∈t.parts,∀ h,∃ g,run P m (O "_law_deep") [s.d] h=.ok (.int (dep s:Int)) (h++g)):∃ g,run P (m+1) (O "_law_deep") [t.d] h=.ok (.int (dep t:Int)) (h++g):=by
 rw [Zg H.law_deep rfl];obtain ⟨g,e⟩:=Gn.Ze3 (U:=P.tbl m) (e:=.bin .Add (.ci 1) (.call (O "_law_deep") (.cons (.var 0) .nil))) (f:=fun s=>1+(dep s:Int)) t.parts [] h (fun s hs h1=>by
   obtain ⟨g,e⟩:=hc s hs h1;exact ⟨g,(Zc rfl (Zj e rfl)).trans rfl⟩) (by cases t<;>simp [T.parts])
 have e1:=Gn.Ze4 (U:=P.tbl m) (e:=.bin .Add (.ci 1) (.call (O "_law_deep") (.cons (.var 0) .nil))) (acc:=[]) (rest:=t.parts.map T.d) (h:=h) (fr t).tail (ZkY t) (by rw [YA];simp);rw [e,OB] at e1;refine ⟨g++[.lst (t.parts.map fun s=>.int (1+(dep s:Int)))],?_⟩;have sm:ZpB (.ref (h++g).length) (.int 0) (h++g++[.lst (t.parts.map fun s=>D.int (1+(dep s:Int)))])=.ok (.int (dep t)) (h++g++[.lst (t.parts.map fun s=>D.int (1+(dep s:Int)))]):=by
   have q:intsOf (t.parts.map fun s=>D.int (1+(dep s:Int)))=Wn (t.parts.map fun s=>1+(dep s:Int)):=Gn.ints_map (fun s=>1+(dep s:Int)) t.parts;simp only [ZpB,lstOf,Zjz,Yw,q,Yt,Gn.Zx5,IV.ofO_some]
 have w:xs2 (P.tbl m) Zjw [Wn t.d] h=.ok (.rt (.int (dep t:Int)),[Wn t.d]) (h++g++[.lst (t.parts.map fun s=>D.int (1+(dep s:Int)))]):=Zb (Zh (by
   rw [ZuJ,ZfR (Zje (ZqZ rfl)) e1,Zk,Zsz,Zk];exact sm))
 rw [<- Oz];exact congrArg Ze w
theorem Zor(H:Lw P):∀(d n:Nat) (t:T) (h:Hd),dep t<=d->∃g,run P (n+d+1) (O "_law_deep") [t.d] h=.ok (.int (dep t:Int)) (h++g)
 |0,n,t,h,hd=>Zv3 H (n+0) t h λs q=>by have:=Zf q;lia
 |d+1,n,t,h,hd=>Zv3 H (n+(d+1)) t h λs q h'=>Zor H d n s h' (by have:=Zf q;lia)
def gdB(bs:List Str)(t:T):Bool:=(lf t).all (λx=>Wr (x∈bs))&&!t.places.any tw
def ZxJ(t:T):gdB [] t=okN t:=by unfold gdB okN;congr 1;cases lf t<;>simp
def ZjA{l:List Str}{p q:Str->Bool}:(l.filter p).all q=l.all λx=>!p x || q x:=by
 induction l with
 |nil=>rfl
 |cons x l ih=>
  rw[List.filter_cons];cases h:p x
  . simp[h,ih]
  . simp[h,ih]
def Zz4(bs:List Str)(x:Str)(e:T):gdB bs (.fn x e)=gdB (bs++[x]) e:=by
 unfold gdB;have e1:((T.fn x e).places.any tw)=e.places.any tw:=by simp[T.places,tw]
 rw[e1];congr 1;show((lf e).filter _).all _=_;rw[ZjA];congr 1;funext y;by_cases hy:y=x<;>simp[hy]
def ZxI(bs:List Str)(f x:Str)(e:T):gdB bs (.rcc f x e)=(!Wr (f=x)&&gdB (bs++[f,x]) e):=by
 unfold gdB;have e1:((T.rcc f x e).places.any tw)=(Wr (f=x) || e.places.any tw):=by simp[T.places,tw]
 rw[e1];have e2:(lf (.rcc f x e)).all (λy=>Wr (y∈bs))=(lf e).all λy=>Wr (y∈bs++[f,x]):=by show((lf e).filter _).all _=_;rw[ZjA];congr 1;funext y;by_cases h1:y=x<;>by_cases h2:y=f<;>simp[h1,h2]
 rw[e2];cases Wr (f=x)<;>cases (lf e).all _<;>cases e.places.any tw<;>rfl
def Zsm(bs:List Str)(t:T)(h1:bnd t=[])(h2:∀x,t≠.name x):gdB bs t=t.parts.all (gdB bs):=by
 unfold gdB;cases t with
 |num n=>rfl
 |name x=>exact absurd rfl (h2 x)
 |fn x e=>cases h1
 |rcc f x e=>cases h1
 |call f a=>
  have e1:((T.call f a).places.any tw)=(f.places.any tw || a.places.any tw):=by simp[T.places,tw]
  have e2:(lf (.call f a))=lf f++lf a:=rfl;rw[e1,e2,List.all_append];simp only[T.parts,List.all_cons,List.all_nil,Bool.and_true];generalize (lf f).all _=b1;generalize (lf a).all _=b2;generalize f.places.any tw=b3;generalize a.places.any tw=b4;cases b1<;>cases b2<;>cases b3<;>cases b4<;>rfl
 |op w f a=>
  have e1:((T.op w f a).places.any tw)=(f.places.any tw || a.places.any tw):=by simp[T.places,tw]
  have e2:(lf (.op w f a))=lf f++lf a:=rfl;rw[e1,e2,List.all_append];simp only[T.parts,List.all_cons,List.all_nil,Bool.and_true];generalize (lf f).all _=b1;generalize (lf a).all _=b2;generalize f.places.any tw=b3;generalize a.places.any tw=b4;cases b1<;>cases b2<;>cases b3<;>cases b4<;>rfl
 |iff c f a=>
  have e1:((T.iff c f a).places.any tw)=(c.places.any tw || (f.places.any tw || a.places.any tw)):=by simp[T.places,tw]
  have e2:(lf (.iff c f a))=lf c++(lf f++lf a):=rfl;rw[e1,e2,List.all_append,List.all_append];simp only[T.parts,List.all_cons,List.all_nil,Bool.and_true];generalize (lf f).all _=b1;generalize (lf a).all _=b2;generalize f.places.any tw=b3;generalize a.places.any tw=b4;generalize (lf c).all _=b5;generalize c.places.any tw=b6;cases b1<;>cases b2<;>cases b3<;>cases b4<;>cases b5<;>cases b6<;>rfl
abbrev ZsH:Ex:=.call (O "_law_good") (.c (.v 0) (.c (.v 1) .n))
theorem Zpq{U:Tb}{acc rest:List D}:∀ds:List D,(∀d∈ds,Gn.ZcD d=Wp)->acc.length<sizeLine->ZG [] (.nm 0) (tsto U (Wn isT)) (ev U ZsH) (ds++rest) [Wo,Wn m] acc h=ZG [] (.nm 0) (tsto U (Wn isT)) (ev U ZsH) rest [Wo,Wn m] acc h
 |[],_,_=>rfl
 |d::ds,hd,hz=>by have i:=ZvS (U:=U) (e:=.var 0) (S:=[Wn d,Wn m]) (h:=h) (hd d (.head _)) rfl;rw[List.cons_append,Z4,if_pos ⟨rfl,hz⟩];show(tst U isT [Wn d,Wn m] h).plain.bnd _=_;rw[i];exact Zpq ds (λx hx=>hd x (.tail _ hx)) hz
theorem ZmN{U:Tb}{bs:List Str}:∀(ts:List T) (acc:List D) (h:Hd),(∀t∈ts,∀h:Hd,h[m]? = Wn (.lst (bs.map .str))->∃g,U.C (O "_law_good") [t.d,.ref m] h=.ok (.bl (gdB bs t)) (h++g))->h[m]? = Wn (.lst (bs.map .str))->acc.length+ts.length<=1000->∃g,ZG [] (.nm 0) (tsto U (Wn isT)) (ev U ZsH) (ts.map T.d) [Wo,Wn (.ref m)] acc h=.ok (acc++ts.map λt=>.bl (gdB bs t)) (h++g)
 |[],acc,h,_,_,_=>⟨[],by simp[ZG,Wk.stays]⟩
 |t::ts,acc,h,ht,hm,hz=>by simp only[Os]at hz;obtain⟨g1,e1⟩:=ht t (.head _) h hm;obtain⟨g2,e2⟩:=ZmN (U:=U) (bs:=bs) ts (acc++[.bl (gdB bs t)]) (h++g1) (λx hx=>ht x (.tail _ hx)) (ZB hm) (by simp;lia);refine⟨g1++g2,?_⟩;have i:=Zo0 (U:=U) (e:=.var 0) (S:=[Wn t.d,Wn (.ref m)]) (h:=h) t rfl;have z:ev U ZsH [Wn t.d,Wn (.ref m)] h=.ok (.bl (gdB bs t)) (h++g1):=Zj e1 rfl;rw[Op,Z4,if_pos ⟨rfl,by rw[YA];lia⟩];show(tst U isT [Wn t.d,Wn (.ref m)] h).plain.bnd _=_;rw[i];show(ev U ZsH [Wn t.d,Wn (.ref m)] h).plain.bnd _=_;rw[z,<- Oz];exact e2.trans (by simp)
def Zyh{bs:List Str}(ts:List T)(h:Hd):ZbN GD .all [.ref h.length] (h++[.lst (ts.map λt=>D.bl (gdB bs t))])=.ok (.bl (ts.all (gdB bs))) (h++[.lst (ts.map λt=>D.bl (gdB bs t))]):=by
 show Zhe [.ref h.length] _=_;have eb:Zdp (ts.map λt=>D.bl (gdB bs t))=Wn (ts.map (gdB bs)):=by rw[<- K03L.ZcE,List.map_map];rfl
 simp only[Zhe,lstOf,Zjz,Yw,eb,Yt];show R.ok (D.bl ((ts.map (gdB bs)).all id)) _=_;rw[List.all_map];rfl
noncomputable def vg(t:T)(m:Nat)(o:Option D):Ev:=[Wn t.d,Wn (.ref m),o]
def ZvU(H:Lw P)(k:Nat)(t:T){h:Hd}{bs:List Str}(hm:h[m]? = Wn (.lst (bs.map .str)))(hz:bs.length<=100000)(hc:∀s∈t.parts,∀(h:Hd) (m:Nat) (bs':List Str),bs'.length<=bs.length+2->h[m]? = Wn (.lst (bs'.map .str))->∃g,run P k (O "_law_good") [s.d,.ref m] h=.ok (.bl (gdB bs' s)) (h++g)):∃g,run P (k+1) (O "_law_good") [t.d,.ref m] h=.ok (.bl (gdB bs t)) (h++g):=by
 rw[Zg H.law_good rfl];have hd:∀(w:Str) (ds:List D) (o:Option D) (h:Hd),t.d=.tup (.str w::ds)->ev (P.tbl k) (.ix (.var 0) (.ci 0)) (vg t m o) h=.ok (.str w) h:=λw ds o h e=>(ZK rfl rfl).trans (by rw[e];exact Zqd);have q:∀(w:Str) (ds:List D) (o:Option D) (h:Hd) (z:Str),t.d=.tup (.str w::ds)->tst (P.tbl k) (.ex (.cmp .Eq (.ix (.var 0) (.ci 0)) (.cst (.str z)))) (vg t m o) h=.ok (Wr (w=z)) h:=λw ds o h z e=>ZhU (hd w ds o h e) rfl;have x2:xs1 (P.tbl k) Zgi (vg t m Wo) h=.ok (.nx,vg t m (Wn (.ref h.length))) (h++[.lst (bs.map .str)]):=Zn (i:=2) (ZZ (Zd rfl rfl) (by simp only[ZbN,Zu9,seqOf,lstOf,hm];rfl));have m1:(h++[DO.lst (bs.map .str)])[h.length]? = Wn (.lst (bs.map .str)):=by simp
 have fin:∀(h1:Hd) (m1:Nat) (bs':List Str),(∃g,h1=h++g)->bs'.length<=bs.length+2->h1[m1]? = Wn (.lst (bs'.map .str))->xs2 (P.tbl k) ZaO (vg t m Wo) h=xs2 (P.tbl k) (.cons ZcG .nil) (vg t m (Wn (.ref m1))) h1->∃g,Ze (xs2 (P.tbl k) ZaO (vg t m Wo) h)=.ok (.bl (t.parts.all (gdB bs'))) (h++g):=λh1 m1 bs' hg hl hm1 ex=>by obtain⟨g0,rfl⟩:=hg;obtain⟨g1,e1⟩:=ZmN (U:=P.tbl k) (bs:=bs') (m:=m1) t.parts [] (h++g0) (λs hs h' hm'=>hc s hs h' m1 bs' hl hm') hm1 (by cases t<;>simp[T.parts]);have e2:=Zpq (U:=P.tbl k) (m:=.ref m1) (acc:=[]) (rest:=t.parts.map T.d) (h:=h++g0) (fr t).tail (ZkY t) (by rw[YA];simp);rw[e1,OB]at e2;refine⟨g0++g1++[.lst (t.parts.map λs=>.bl (gdB bs' s))],?_⟩;have w:xs2 (P.tbl k) (.cons ZcG .nil) (vg t m (Wn (.ref m1))) (h++g0)=.ok (.rt (.bl (t.parts.all (gdB bs'))),vg t m (Wn (.ref m1))) (h++g0++g1++[.lst (t.parts.map λs=>.bl (gdB bs' s))]):=Zb (Zh (ZZ (Zd (ZfR (Zje (ZqZ rfl)) e2) rfl) (Zyh t.parts _)));rw[ex,w,<- Oz,<- Oz];rfl
 have pl:∀(w:Str) (ds:List D),t.d=.tup (.str w::ds)->w≠O "name" -> w≠O "fn" -> w≠O "rec" -> bnd t=[]->(∀x,t≠.name x)->∃g,Ze (xs2 (P.tbl k) ZaO (vg t m Wo) h)=.ok (.bl (gdB bs t)) (h++g):=λw ds e n1 n2 n3 b0 nn=>by rw[Zsm bs t b0 nn];exact fin _ h.length bs ⟨_,rfl⟩ (by lia) m1 ((Za ((Zi (Zr (q w ds Wo h _ e) (decide_eq_false n1))).trans rfl)).trans ((Za x2).trans ((Za ((Zi (Zr (q w ds _ _ _ e) (decide_eq_false n2))).trans rfl)).trans (Za ((Zi (Zr (q w ds _ _ _ e) (decide_eq_false n3))).trans rfl)))))
 cases t with
 |num z=>exact pl _ _ rfl (by simp) (by simp) (by simp) rfl (by simp)
 |call f a=>exact pl _ _ rfl (by simp) (by simp) (by simp) rfl (by simp)
 |iff c f a=>exact pl _ _ rfl (by simp) (by simp) (by simp) rfl (by simp)
 |op w f a=>exact pl _ _ rfl (by cases w<;>simp[Wd.s]) (by cases w<;>simp[Wd.s]) (by cases w<;>simp[Wd.s]) rfl (by simp)
 |name x=>
  refine⟨[],?_⟩;rw[Yr];have oi:opC P.GD .In (.str x) (.ref m) h=.ok (.bl (Wr (x∈bs))) h:=by show ZaX P.GD Wq (.str x) (.ref m) h=_;unfold ZaX;simp only[seqOf,lstOf,hm,ZeX,any_words];rfl
  have w:xs2 (P.tbl k) ZaO (vg (.name x) m Wo) h=.ok (.rt (.bl (Wr (x∈bs))),vg (.name x) m Wo) h:=Zb ((Zt (Zr (q _ _ Wo h _ rfl) (decide_eq_true rfl))).trans (Zb (Zh ((Zq (x:=.str x) (y:=.ref m) rfl rfl).trans oi))));have eg:gdB bs (.name x)=Wr (x∈bs):=by simp[gdB,lf,T.places,tw]
  rw[eg];exact congrArg Ze w
 |fn x e=>rw[Zz4];have y3:xs1 (P.tbl k) ZcH (vg (.fn x e) m (Wn (.ref h.length))) (h++[.lst (bs.map .str)])=.ok (.nx,vg (.fn x e) m (Wn (.ref h.length))) (h++[.lst ((bs++[x]).map .str)]):=(Zt (Zr (q _ _ _ _ _ rfl) (decide_eq_true rfl))).trans ((Za (Zdk (Zj0 (i:=h.length) rfl m1 (Zd (x:=.str x) rfl rfl) ((Zby (d:=.str x) m1 (by rw[YA];simp;lia)).trans (by rw[Zzl];simp;rfl))))).trans rfl);have:=fin (h++[.lst ((bs++[x]).map .str)]) h.length (bs++[x]) ⟨_,rfl⟩ (by simp) (by simp) ((Za ((Zi (Zr (q _ _ Wo h _ rfl) (decide_eq_false (by simp)))).trans rfl)).trans ((Za x2).trans ((Za y3).trans (Za ((Zi (Zr (q _ _ _ _ _ rfl) (decide_eq_false (by simp)))).trans rfl)))));rw[show(T.fn x e).parts.all (gdB (bs++[x]))=gdB (bs++[x]) e by simp[T.parts]]at this;exact this
 |rcc f x e=>
  rw[ZxI];have z:tst (P.tbl k) ZcW (vg (.rcc f x e) m (Wn (.ref h.length))) (h++[.lst (bs.map .str)])=.ok (Wr (f=x)) (h++[.lst (bs.map .str)]):=ZhU (x:=f) (y:=x) rfl rfl;have t4:=Zr (q _ _ (Wn (.ref h.length)) (h++[.lst (bs.map .str)]) (O "rec") rfl) (decide_eq_true rfl);have x1:xs1 (P.tbl k) Zgj (vg (.rcc f x e) m Wo) h=.ok (.nx,vg (.rcc f x e) m Wo) h:=(Zi (Zr (q _ _ Wo h _ rfl) (decide_eq_false (by simp)))).trans rfl;have x3:xs1 (P.tbl k) ZcH (vg (.rcc f x e) m (Wn (.ref h.length))) (h++[.lst (bs.map .str)])=.ok (.nx,vg (.rcc f x e) m (Wn (.ref h.length))) (h++[.lst (bs.map .str)]):=(Zi (Zr (q _ _ _ _ _ rfl) (decide_eq_false (by simp)))).trans rfl;by_cases fx:f=x
  . refine⟨[.lst (bs.map .str)],?_⟩;rw[decide_eq_true fx];have w:xs2 (P.tbl k) ZaO (vg (.rcc f x e) m Wo) h=.ok (.rt (.bl Wq),vg (.rcc f x e) m (Wn (.ref h.length))) (h++[.lst (bs.map .str)]):=(Za x1).trans ((Za x2).trans ((Za x3).trans (Zb ((Zt t4).trans (Zb ((Zt (Zr z (decide_eq_true fx))).trans (Zb (Zh rfl))))))));exact congrArg Ze w
  . rw[decide_eq_false fx,Bool.not_false,Bool.true_and];have a4:ev (P.tbl k) (.bin .Add (.var 2) (.lstl (.cons (.ix (.var 0) (.ci 1)) (.cons (.ix (.var 0) (.ci 2)) .nil)))) (vg (.rcc f x e) m (Wn (.ref h.length))) (h++[.lst (bs.map .str)])=.ok (.ref (h++[DO.lst (bs.map .str)]++[DO.lst [.str f,.str x]]).length) (h++[.lst (bs.map .str)]++[.lst [.str f,.str x]]++[.lst ((bs++[f,x]).map .str)]):=(Zc rfl (ZbU (xs:=[.str f,.str x]) (Zd rfl (Zd rfl rfl)) (show 2<=1000 by decide))).trans ((add_l (ZB m1) (ys:=[.str f,.str x]) (by simp) (by simp;lia)).trans (by simp));have y4:xs1 (P.tbl k) Zgh (vg (.rcc f x e) m (Wn (.ref h.length))) (h++[.lst (bs.map .str)])=.ok (.nx,vg (.rcc f x e) m (Wn (.ref (h++[DO.lst (bs.map .str)]++[DO.lst [.str f,.str x]]).length))) (h++[.lst (bs.map .str)]++[.lst [.str f,.str x]]++[.lst ((bs++[f,x]).map .str)]):=(Zt t4).trans ((Za ((Zi (Zr z (decide_eq_false fx))).trans rfl)).trans ((Za (Zn (i:=2) a4)).trans rfl));have:=fin (h++[.lst (bs.map .str)]++[.lst [.str f,.str x]]++[.lst ((bs++[f,x]).map .str)]) (h++[DO.lst (bs.map .str)]++[DO.lst [.str f,.str x]]).length (bs++[f,x]) ⟨[DO.lst (bs.map .str)]++[.lst [.str f,.str x]]++[.lst ((bs++[f,x]).map .str)],by simp⟩ (by simp) (by simp) ((Za x1).trans ((Za x2).trans ((Za x3).trans (Za y4))));rw[show(T.rcc f x e).parts.all (gdB (bs++[f,x]))=gdB (bs++[f,x]) e by simp[T.parts]]at this;exact this
theorem Zoq(H:Lw P):∀(d n:Nat) (t:T) (h:Hd) (m:Nat) (bs:List Str),dep t<=d->bs.length+2 * d<=100000->h[m]? = Wn (.lst (bs.map .str))->∃g,run P (n+d+1) (O "_law_good") [t.d,.ref m] h=.ok (.bl (gdB bs t)) (h++g)
 |0,n,t,h,m,bs,hd,hz,hm=>ZvU H (n+0) t hm (by lia) λs q=>by have:=Zf q;lia
 |d+1,n,t,h,m,bs,hd,hz,hm=>ZvU H (n+(d+1)) t hm (by lia) λs q h' m' bs' hl hm'=>Zoq H d n s h' m' bs' (by have:=Zf q;lia) (by lia) hm'
end
end K04L
namespace K04L
open PySem L2 IV Tm Fr
open K03L (Ok4 ws ow Zz dg)
open Gn (dep Zf)
noncomputable def dmx:List Nat->Nat
 |[]=>0
 |x::l=>max x (dmx l)
def ar(w:Str):Nat:=match shp w with
 |none=>0
 |some (nb,np)=>nb+np
def stp(w:Str)(p:List Nat):List Nat:=(min 1 (ar w)+dmx (p.take (ar w)))::p.drop (ar w)
def rn:List Str->List Nat->List Nat
 |[],p=>p
 |w::r,p=>stp w (rn r p)
def dw(W:List Str):Nat:=dmx (rn W [])
theorem Zq6:∀(A B_:List Str) (p:List Nat),rn (A++B_) p=rn A (rn B_ p)
 |[],B_,p=>rfl
 |w::A,B_,p=>by show stp w (rn (A++B_) p)=stp w (rn A (rn B_ p));rw[Zq6 A B_ p]
def Sm(M:Nat):List Nat->List Nat->Prop
 |[],l=>dmx l<=M
 |a::q,b::l=>a<=b/\b<=a+M/\Sm M q l
 |_::_,[]=>False
theorem Zjh:∀(a:Nat) (l:List Nat),dmx (l.drop a)<=dmx l/\dmx (l.take a)<=dmx l/\dmx l<=max (dmx (l.take a)) (dmx (l.drop a))
 |0,l=>by simp[dmx]
 |a+1,[]=>by simp[dmx]
 |a+1,x::l=>by
  have:=Zjh a l;simp only[List.drop_succ_cons,List.take_succ_cons,dmx]
  lia
theorem ZqW{M:Nat}:∀(a:Nat) (q l:List Nat),Sm M q l->dmx (q.take a)<=dmx (l.take a)/\dmx (l.take a)<=dmx (q.take a)+M/\Sm M (q.drop a) (l.drop a)
 |0,q,l,h=>by simp[dmx];exact h
 |a+1,[],l,h=>by have:=Zjh (a+1) l;have h:dmx l<=M:=h;refine⟨by simp[dmx],by simp[dmx];lia,?_⟩;rw[List.drop_nil];exact OE this.1 h
 |a+1,x::q,[],h=>h.elim
 |a+1,x::q,y::l,⟨h1,h2,h3⟩=>by have:=ZqW a q l h3;simp only[List.drop_succ_cons,List.take_succ_cons,dmx];exact⟨by lia,by lia,this.2.2⟩
theorem Zvv{M:Nat}:∀(q l:List Nat),Sm M q l->dmx q<=dmx l/\dmx l<=dmx q+M
 |[],l,h=>by have h:dmx l<=M:=h;simp[dmx];exact h
 |x::q,[],h=>h.elim
 |x::q,y::l,⟨h1,h2,h3⟩=>by have:=Zvv q l h3;simp only[dmx];lia
theorem Zvu{M:Nat}(hp:dmx p<=M):∀A,Sm M (rn A []) (rn A p)
 |[]=>hp
 |w::A=>by obtain⟨h1,h2,h3⟩:=ZqW (ar w) _ _ (Zvu hp A);exact⟨by lia,by lia,h3⟩
def Zxm(w:Str)(p:List Nat):dmx p<=dmx (stp w p):=by
 have:=Zjh (ar w) p;unfold stp;simp only[dmx]
 lia
theorem ZvG:∀(A:List Str) (p:List Nat),dmx p<=dmx (rn A p)
 |[],p=>Oq _
 |w::A,p=>OE (ZvG A p) (Zxm w _)
def Zlx(A B_:List Str):dw (A++B_)<=dw A+dw B_/\dw A<=dw (A++B_)/\dw B_<=dw (A++B_):=by unfold dw;rw[Zq6];have h:=Zvv _ _ (Zvu (M:=dmx (rn B_ [])) (Oq _) A);exact⟨h.2,h.1,ZvG A _⟩
def Zx1(w:Str):dw [w]<=1:=by
 show dmx (stp w [])<=1;unfold stp;simp only[List.take_nil,List.drop_nil,dmx]
 lia
def Zlw(A B_ C:List Str){W:List Str}(e:A++B_=W)(hc:C=[]\/∃x,C=[x])(a:Nat):dw (A++(C++B_.drop a))<=2 * dw W+1:=by
 have h1:=Zlx A (C++B_.drop a);have h2:=Zlx C (B_.drop a);have h3:=Zlx A B_;have h4:=Zlx (B_.take a) (B_.drop a);rw[List.take_append_drop]at h4;rw[e]at h3;have h5:dw C<=1:=by
  rcases hc with rfl|⟨x,rfl⟩
  . exact Yv _
  . exact Zx1 x
 lia
theorem Zpe:∀(a b:List Nat),dmx (a++b)=max (dmx a) (dmx b)
 |[],b=>by simp[dmx]
 |x::a,b=>by rw[List.cons_append,dmx,Zpe a b,dmx];lia
def Zx3(t:T)(h:t.parts≠[]):dep t=1+dmx (t.parts.map dep):=by
 cases t with
 |num n=>exact absurd rfl h
 |name x=>exact absurd rfl h
 |fn x e=>simp[T.parts,dmx,dep];lia
 |rcc f x e=>simp[T.parts,dmx,dep];lia
 |call f a=>simp only[T.parts,dmx,dep,Op,Oy];lia
 |iff c f a=>simp only[T.parts,dmx,dep,Op,Oy];lia
 |op w f a=>simp only[T.parts,dmx,dep,Op,Oy];lia
theorem ZkM:∀(xs:List Str),dmx ((xs.map T.name).map dep)=0
 |[]=>rfl
 |x::xs=>by rw[Op,Op,dmx,ZkM xs];rfl
theorem ZvJ:∀{W ts},lp W=Wn ts->rn W []=ts.map dep
 |[],ts,h=>by cases h;rfl
 |w::r,ts,h=>by
  obtain⟨pile,e1,h⟩:=Option.bind_eq_some_iff.mp (show(lp r).bind (push w)=_ from h);have ih:=ZvJ e1;show stp w (rn r [])=_;rw[ih];unfold push at h;split at h
  . rename_i es;obtain⟨t,e2,e3⟩:=Oo.mp h;cases e3;obtain⟨_,_,_,d0⟩:=Zgy e2;unfold stp;rw[show ar w=0 by unfold ar;rw[es]];simp[dmx,d0]
  . rename_i nb np es;obtain⟨⟨xs,r1⟩,e2,h⟩:=Option.bind_eq_some_iff.mp h;obtain⟨⟨us,r2⟩,e3,e4⟩:=Oo.mp h;cases e4;obtain⟨l1,ep⟩:=Zch e2;unfold Zb5 at e3;split at e3
    . rename_i hl;cases e3;obtain⟨_,_,n1,mk⟩:=ZkB es;have l2:(r1.take np).length=np:=by rw[List.length_take];exact Nat.min_eq_left hl
      obtain⟨_,_,m3,_⟩:=mk xs (r1.take np) l1 l2;have ne:(mkT w xs (r1.take np)).parts≠[]:=by rw[m3];intro e;rw[e]at l2;simp at l2;lia
      have pe:pile.map dep=(xs.map T.name).map dep++((r1.take np).map dep++(r1.drop np).map dep):=by rw[ep,List.map_append,<- List.map_append (f:=dep) (l₁:=r1.take np),List.take_append_drop]
      have la:((xs.map T.name).map dep++(r1.take np).map dep).length=nb+np:=by simp[l1];lia
      unfold stp;rw[show ar w=nb+np by unfold ar;rw[es],pe,<- Oz,List.take_left' la,List.drop_left' la,Zpe,ZkM];show _=dep (mkT w xs (r1.take np))::(r1.drop np).map dep;rw[Zx3 _ ne,m3,Nat.min_eq_left (by lia),Nat.max_eq_right (Yv _)]
    . cases e3
def ZsI(h:ZbT W=Wn t):dw W=dep t:=by
 unfold ZbT at h;split at h
 . rename_i e;cases h;unfold dw;rw[ZvJ e];show max _ 0=_
   lia
 . cases h
def Zms:∀k∈["fn", "rec", "call", "if", "+", "-", "*", "<"],(∀c∈(Str.ofString k).cps.toList,32<c)/\1<=(Str.ofString k).length:=by decide +kernel
def ZAi{n:Int}(h0:0<=n)(h1:n<1000000):(∀c∈(dg n).cps.toList,32<c)/\1<=(dg n).length:=by
 obtain⟨m,rfl⟩:∃m:Nat,n=m:=⟨n.toNat,by lia⟩
 exact⟨λc hc=>by have:=(K03L.Zdl m c hc).1;lia,(K03L.ZbH m (by lia)).1⟩
def ZoH(h:NmW x):(∀c∈x.cps.toList,32<c)/\1<=x.length:=⟨λc hc=>by have:=(h.1 c hc).1;lia,h.2.1⟩
def Zzw{t:T}(ok:Ok4 t):∀w∈ow t,(∀c∈w.cps.toList,32<c)/\1<=w.length:=by
 cases t with
 |num n=>intro w hw;rw[Ox.mp hw];exact ZAi ok.1 ok.2
 |name x=>intro w hw;rw[Ox.mp hw];exact ZoH ok
 |fn x e=>intro w hw;simp[ow]at hw;rcases hw with rfl|rfl;exact Zms _ (by simp);exact ZoH ok.1
 |rcc f x e=>intro w hw;simp[ow]at hw;rcases hw with rfl|rfl|rfl;exact Zms _ (by simp);exact ZoH ok.1;exact ZoH ok.2.1
 |call f e=>intro w hw;simp[ow]at hw;rw[hw];exact Zms _ (by simp)
 |iff c f e=>intro w hw;simp[ow]at hw;rw[hw];exact Zms _ (by simp)
 |op v f e=>intro w hw;simp[ow]at hw;rw[hw];cases v<;>exact Zms _ (by simp)
def Zyy{t:T}(ok:Ok4 t):∀w∈ws t,(∀c∈w.cps.toList,32<c)/\1<=w.length:=λw hw=>by obtain⟨s,hs,hw⟩:=List.mem_flatMap.mp hw;exact Zzw (K03L.ZP ok s hs) w hw
def ZiP{W:List Str}(hw:w∈W)(h:w.length=0\/∃c∈w.cps.toList,c<=32):ZbT W=Wo:=by
 cases e:ZbT W with
 |none=>rfl
 |some t=>
  obtain⟨rfl,ok⟩:=(ZfB t).mp e;have:=Zyy ok w hw;rcases h with h|⟨c,hc,h⟩
  . lia
  . have:=this.1 c hc;lia
def Zmu(h:ZbT W=Wo):jdg W=.nt:=by
 unfold jdg;cases e:rdT W with
 |none=>rfl
 |some t=>have:=((Zk2 t).mp e).1;rw[h]at this;cases this
def Zsg(h:ZbT W=Wn t):jdg W=if 20<dep t\/100<t.size then .nt else if okN t=Wp then .ok t else .nn:=by
 unfold jdg;by_cases hd:dep t<=20
 . rw[(Zk2 t).mpr ⟨h,hd⟩];simp only;by_cases hs:100<t.size
   . rw[if_pos hs,if_pos (.inr hs)]
   . rw[if_neg hs,if_neg (show ¬ (20<dep t\/100<t.size) by lia)]
 . rw[if_pos (.inl (by lia))];cases e:rdT W with
   |none=>rfl
   |some s=>obtain⟨q,hs⟩:=(Zk2 s).mp e;rw[h]at q;cases q;exact absurd hs hd
end K04L
namespace K04L
open PySem L2 IV Tm Fr
open K03L (Ok4 ws ZB ZL Zv Wdb Zbq ZaZ ZfQ Zcd)
open Gn (dep Zf Up)
section
variable {P:Pg}
noncomputable def bls(ks:List Bool):List D:=ks.map .bl
theorem Zro(rd:Nat->Option PyData):∀ys:List Bool,D.pys rd (bls ys)=Wn (ys.map PyData.bool)
 |[]=>rfl
 |y::ys=>by show(D.py rd (.bl y)).bind (λd=>(D.pys rd (bls ys)).map λds=>d::ds)=_;rw[Zro rd ys];rfl
def ZsE{h:Hd}(as bs:List Bool)(n:Bool)(e:h[a]? = Wn (.lst (bls as)))(e':h[b]? = Wn (.lst (bls bs)))(hd:(PyData.list (bs.map PyData.bool)).depth<=1100)(q:YN (.list (as.map PyData.bool)) (.list (bs.map PyData.bool))=r):IV.Zcx n (.ref a) (.ref b) h=.ok (.bl (if n then !r else r)) h:=by
 have p:∀(k:Nat) (cs:List Bool),h[k]? = Wn (.lst (bls cs))->ZjC h (.ref k)=Wn (.list (cs.map .bool)):=λk cs e=>by show ZiC h 4 k=_;rw[ZiC,e];simp only[Zro,Yt]
 unfold IV.Zcx;rw[p a as e,p b bs e'];simp only;rw[if_pos (by lia),q]
noncomputable def Jd.kb:Jd->List Bool
 |.ok _=>[]
 |.nt=>[Wp,Wp,Wq,Wq]
 |.nn=>[Wp,Wq,Wp,Wq]
def ZvR(j:Jd):j.ks=bls j.kb:=by cases j<;>rfl
def ZiW(H:Lw P)(n:Nat)(op:CmpOp)(ng:Bool)(hop:∀x y h,opC P.GD op x y h=IV.Zcx ng x y h)(e:Ex){S:Ev}{h h1:Hd}(p:ev (P.tbl (n+27)) e S h=.ok (.str a) h1)(X:Txt4 a NS)(j:jdg (ZO a)=.nt):∃g,ev (P.tbl (n+27)) (.cmp op (.call (O "_law_kinds_of") (.cons e .nil)) (.lstl (.cons (.cst (.bl Wp)) (.cons (.cst (.bl Wp)) (.cons (.cst (.bl Wq)) (.cons (.cst (.bl Wq)) .nil)))))) S h=.ok (.bl (!ng)) (h1++g):=by
 obtain⟨g,k,e1,_,e2⟩:=Zos H n a h1 X;rw[j,ZvR]at e2;refine⟨g++[.lst (bls [Wp,Wp,Wq,Wq])],(Zq (Zj e1 (Zd p rfl)) (ZbU (xs:=[.bl Wp,.bl Wp,.bl Wq,.bl Wq]) rfl (by decide))).trans ((hop _ _ _).trans ?_)⟩;rw[<- Oz];have e3:(h1++g++[DO.lst (bls [Wp,Wp,Wq,Wq])])[(h1++g).length]? = Wn (.lst (bls [Wp,Wp,Wq,Wq])):=by simp
 have e4:=ZsE (r:=true) [Wp,Wp,Wq,Wq] [Wp,Wp,Wq,Wq] ng (ZB (g:=[DO.lst (bls [Wp,Wp,Wq,Wq])]) e2) e3 (by decide +kernel) (by decide +kernel);rw[show(if ng=Wp then !Wp else Wp)=!ng by cases ng<;>rfl]at e4;exact e4
def Zsd(H:Lw P)(n:Nat)(e:Ex){S:Ev}{h h1:Hd}(p:ev (P.tbl (n+27)) e S h=.ok (.str a) h1)(X:Txt4 a NS)(j:jdg (ZO a)=.nn):∃g,ev (P.tbl (n+27)) (.cmp .Eq (.call (O "_law_kinds_of") (.cons e .nil)) (.lstl (.cons (.cst (.bl Wp)) (.cons (.cst (.bl Wq)) (.cons (.cst (.bl Wp)) (.cons (.cst (.bl Wq)) .nil)))))) S h=.ok (.bl Wp) (h1++g):=by
 obtain⟨g,k,e1,_,e2⟩:=Zos H n a h1 X;rw[j,ZvR]at e2;refine⟨g++[.lst (bls [Wp,Wq,Wp,Wq])],(Zq (Zj e1 (Zd p rfl)) (ZbU (xs:=[.bl Wp,.bl Wq,.bl Wp,.bl Wq]) rfl (by decide))).trans ?_⟩;rw[<- Oz];have e3:(h1++g++[DO.lst (bls [Wp,Wq,Wp,Wq])])[(h1++g).length]? = Wn (.lst (bls [Wp,Wq,Wp,Wq])):=by simp
 exact ZsE (r:=true) [Wp,Wq,Wp,Wq] [Wp,Wq,Wp,Wq] Wq (ZB (g:=[DO.lst (bls [Wp,Wq,Wp,Wq])]) e2) e3 (by decide +kernel) (by decide +kernel)
theorem Zoc:∀(u v:List Nat),ZY (u++32::v)=ZY u++ZY v
 |[],v=>rfl
 |c::u,v=>by
  rw[List.cons_append,ZY,ZY,Zoc u v];split
  . rfl
  . cases e:ZY u with
    |nil=>exact absurd e (Zne u)
    |cons w ws=>rfl
theorem Zob(hc:c≠32){v f:List Nat}{R:List (List Nat)}(ev:ZY v=f::R):∀u:List Nat,∃I l,ZY u=I++[l]/\ZY (u++c::v)=I++(l++c::f)::R
 |[]=>⟨[],[],rfl,by rw[OB,ZY,if_neg hc,ev];rfl⟩
 |d::u=>by
  obtain⟨I,l,e1,e2⟩:=Zob hc ev u;by_cases hd:d=32
  . exact⟨[]::I,l,by rw[ZY,if_pos hd,e1];rfl,by rw[List.cons_append,ZY,if_pos hd,e2];rfl⟩
  . cases I with
    |nil=>exact⟨[],d::l,by rw[ZY,if_neg hd,e1];rfl,by rw[List.cons_append,ZY,if_neg hd,e2];rfl⟩
    |cons x I=>exact⟨(d::x)::I,l,by rw[ZY,if_neg hd,e1];rfl,by rw[List.cons_append,ZY,if_neg hd,e2];rfl⟩
def Zwv(hc:c≠32)(u v:List Nat):(∃w∈ZY (u++c::v),c∈w)/\∀w∈ZY (u++c::v),c∈w\/w∈ZY u\/w∈ZY v:=by
 cases e:ZY v with
 |nil=>exact absurd e (Zne v)
 |cons f R=>
  obtain⟨I,l,e1,e2⟩:=Zob hc e u;rw[e1,e2];refine⟨⟨l++c::f,by simp,by simp⟩,λw hw=>?_⟩;rcases OD.mp hw with q|q
  . exact .inr (.inl (Yq _ q))
  . rcases O2.mp q with rfl|q
    . exact .inl (by simp)
    . exact .inr (.inr (.tail _ q))
def Zlz(xs:List D)(k:Nat):cutD xs Wo (Wn (k:Int))=xs.take k:=by
 unfold cutD;rw[HT.Zl7,HT.Zii,List.drop_zero,Nat.sub_zero];rcases Nat.le_total k xs.length with q|q
 . rw[Nat.min_eq_left q]
 . rw[Nat.min_eq_right q,List.take_length,List.take_of_length_le q]
def ZlA(xs:List D)(k:Nat):cutD xs (Wn (k:Int)) Wo=xs.drop k:=by
 unfold cutD;rw[HT.Zl7,HT.Zii];rcases Nat.le_total k xs.length with q|q
 . rw[Nat.min_eq_left q,List.take_of_length_le (by rw[List.length_drop];exact Oq _)]
 . rw[Nat.min_eq_right q,List.drop_length,List.take_nil,List.drop_of_length_le q]
def ZuP(xs:List D)(k:Nat):cutD xs (Wn (k:Int)) (Wn ((k+1:Nat):Int))=(xs.drop k).take 1:=by
 unfold cutD;rw[HT.Zii,HT.Zii];rcases Nat.lt_or_ge k xs.length with q|q
 . rw[Nat.min_eq_left (Nat.le_of_lt q),Nat.min_eq_left q];congr 1
   lia
 . rw[Nat.min_eq_right q,List.drop_length,List.take_nil,List.drop_of_length_le q];rfl
theorem Zwy{U:Tb}{a:Ex}{lo hi:Option Ex}{l u:Option Int}{h:Hd}{W V:List Str}(p:ev U a S h=.ok (.ref r) h)(e:h[r]? = Wn (.lst (W.map .str)))(q:evo U lo S h=.ok l h)(z:evo U hi S h=.ok u h)(c:cutD (W.map .str) l u=V.map .str):ev U (.sl a lo hi) S h=.ok (.ref h.length) (h++[.lst (V.map .str)]):=(Gn.Zoe p q z).trans (by
 show (match lstOf (.ref r) h with
   | some xs=>Zbf (.lst (cutD xs l u)) h
   | none=>.bad)=_
 simp only [lstOf,e,c];rfl)
def ZnN{U:Tb}{e:Ex}{a:Str}(p:ev U e S h=.ok (.str a) h1)(ok:Yo a=Wp)(al:a.length<=50000):ev U (.tmt .spl e (.Ci_ " ")) S h=.ok (.ref h1.length) (h1++[.lst ((ZO a).map .str)]):=by have sl:=Zix a;rw[Zsv,p,Zk];show txm .spl (.str a) (.str (O " ")) h1=_;simp only[txm];rw[if_pos ⟨rfl,by lia,by lia,OC.mpr λw hw=>ZL.mpr λc hc=>ZL.mp ok c ((Zig hw).1 c hc).1⟩];rfl
def Gl(NS:List Str)(l:List Nat):Prop:=∀w∈ZY l,NmW (tx w)->tx w∈NS
def ZrV:¬ NmW (tx []):=λh=>by have:=h.2.1;rw[Zv,ZbI]at this;simp at this
def Zsk(g:Gl NS l):Gl NS (32::l):=λw hw n=>by
 rw[ZY,if_pos rfl]at hw;rcases O2.mp hw with rfl|hw
 . exact absurd n ZrV
 . exact g w hw n
def ZnJ:Gl NS []:=λw hw n=>by rw[Ox.mp hw]at n;exact absurd n ZrV
structure Gw(NS:List Str)(w:Str):Prop where
 b:Wdb w
 n:32 ∉ w.cps.toList
 m:NmW w->w∈NS
def ZnK{A:List Str}(g:∀w∈A,Gw NS w):Gl NS (Zb8 (A.map (·.cps.toList))):=by
 cases A with
 |nil=>exact ZnJ
 |cons x A=>intro w hw n;rw[Zfp (by simp) λw hw=>by obtain⟨p,hp,rfl⟩:=List.mem_map.mp hw;exact(g p hp).n]at hw;obtain⟨p,hp,rfl⟩:=List.mem_map.mp hw;rw[Zgr]at n ⊢;exact(g p hp).m n
def ZqI{a:Str}{u v:List Nat}(e:a.cps.toList=u++c::v)(hc:c=9\/c=10)(gu:Gl NS u)(gv:Gl NS v)(ok:Yo a=Wp)(hl:a.length<=50000)(few:NS.length<64):Txt4 a NS/\jdg (ZO a)=.nt:=by
 obtain⟨⟨w0,h0,c0⟩,hs⟩:=Zwv (c:=c) (by lia) u v;refine⟨⟨ok,hl,λx hx n=>?_,few⟩,?_⟩
 . obtain⟨w,hw,rfl⟩:=List.mem_map.mp hx;rw[e]at hw;rcases hs w hw with q|q|q
   . have:=n.1 c (by rw[ZbI];exact q);lia
   . exact gu w q n
   . exact gv w q n
 . refine Zmu (ZiP (w:=tx w0) (List.mem_map.mpr ⟨w0,by rw[e];exact h0,rfl⟩) (.inr ⟨c,by rw[ZbI];exact c0,by lia⟩))
def ZdX(x y:Str):(x++y).cps.toList=x.cps.toList++y.cps.toList:=by show(x.cps++y.cps).toList=_;simp
def len_app(x y:Str):(x++y).length=x.length+y.length:=by rw[Zv,ZdX,OA,<- Zv,<- Zv]
def Zk8{x y:Str}(h:Yo x=Wp)(h':Yo y=Wp):Yo (x++y)=Wp:=ZL.mpr λc hc=>by
 rw[ZdX]at hc;rcases OD.mp hc with q|q
 . exact ZL.mp h c q
 . exact ZL.mp h' c q
def ZpF{x y:Str}(h:x.length+y.length<=100000):opB .Add (.str x) (.str y) hh=.ok (.str (x++y)) hh:=if_pos (by rw[YA];lia)
def ZBs(z:Int)(xs:List D)(h3:xs.length=3):∃d∈xs,atI xs (z % 3)=Wn d:=by
 obtain⟨k,hk,e⟩:∃k:Nat,k<3/\z % 3=k:=⟨(z % 3).toNat,by lia,by lia⟩
 rw[e,IV.ZaW];exact⟨xs[k]'(by lia),List.getElem_mem _,Og (by lia)⟩
def Zw7:∀o∈[O "\n",O "\t",O "\n "],∃c r,o.cps.toList=c::r/\(c=9\/c=10)/\(r=[]\/r=[32])/\o.length<=2/\Yo o=Wp:=by
 have f:∀o∈[O "\n",O "\t",O "\n "],(o.cps.toList=[10]\/o.cps.toList=[9]\/o.cps.toList=[10,32])/\o.length<=2/\Yo o=Wp:=by decide +kernel
 intro o ho;obtain⟨h1,h2,h3⟩:=f o ho;rcases h1 with h1|h1|h1
 . exact⟨10,[],h1,.inr rfl,.inl rfl,h2,h3⟩
 . exact⟨9,[],h1,.inl rfl,.inl rfl,h2,h3⟩
 . exact⟨10,[32],h1,.inr rfl,.inr rfl,h2,h3⟩
abbrev Zx0:Ex:=.cmp .Eq (.call (O "_law_kinds_of") (.c (.v 0) .n)) (.lstl (.c (.cst (.bl Wp)) (.c (.cst (.bl Wp)) (.c (.cst (.bl Wq)) (.c (.cst (.bl Wq)) .n)))))
theorem Zps(H:Lw P)(n:Nat):∀(as:List Str) (acc:List D) (h:Hd),(∀a∈as,Txt4 a NS/\jdg (ZO a)=.nt)->h[k]? = Wn (.lst L)->acc.length+as.length<=1000->∃g,ZG [(k,L)] (.nm 0) (tsto (P.tbl (n+27)) Wo) (ev (P.tbl (n+27)) Zx0) (as.map .str) [Wo] acc h=.ok (acc++as.map λ_=>.bl Wp) (h++g)
 |[],acc,h,_,hk,_=>⟨[],by simp[ZG,Wk.stays,hk]⟩
 |a::as,acc,h,ha,hk,hz=>by
  simp only[Os]at hz;obtain⟨X,j⟩:=ha a (.head _);obtain⟨g1,e1⟩:=ZiW H n .Eq Wq (λ_ _ _=>rfl) (.var 0) (S:=[Wn (.str a)]) (h:=h) rfl X j;obtain⟨g2,e2⟩:=Zps H n as (acc++[.bl Wp]) (h++g1) (λx hx=>ha x (.tail _ hx)) (ZB hk) (by simp;lia);refine⟨g1++g2,?_⟩;have st:Wk.stays [(k,L)] h=Wp:=by simp[Wk.stays,hk]
  rw[Op,Z4,if_pos ⟨st,by rw[YA];lia⟩];show(ev (P.tbl (n+27)) Zx0 [Wn (.str a)] h).plain.bnd _=_;rw[e1,<- Oz];exact e2.trans (by simp)
def Zyg{xs:List Str}(h:Hd):ZbN GD .all [.ref h.length] (h++[.lst (xs.map λ_=>D.bl Wp)])=.ok (.bl Wp) (h++[.lst (xs.map λ_=>D.bl Wp)]):=by
 show Zhe [.ref h.length] _=_;have eb:Zdp (xs.map λ_=>D.bl Wp)=Wn (xs.map λ_=>Wp):=by rw[<- K03L.ZcE,List.map_map];rfl
 simp only[Zhe,lstOf,Zjz,Yw,eb,Yt];show R.ok (D.bl ((xs.map λ_=>Wp).all id)) _=_;rw[List.all_map];simp
noncomputable def vb(a:Str)(c:Int)(x y z w:Option D):Ev:=[Wn (.str a),Wn (.int c),x,y,z,w]
theorem Zrk (H:Lw P) (n:Nat) (c:Int) (h:Hd) {W:List Str} (ne:W≠[]) (g:∀ w∈W,Gw NS w) (hl:W.length<=4500) (few:NS.length<64):∃ g,run P (n+28) (O "_law_other_blanks") [.str (ZE W),.int c] h=.ok (.bl Wp) (h++g):=by
 rw [Zg H.law_other_blanks rfl];have gb:∀ w∈W,Wdb w:=fun w hw=>(g w hw).b;have ok:=Zbq gb;have jl:=ZaZ gb;have sp:=Zcd ne fun w hw=>(g w hw).n;have al:(ZE W).length<=50000:=by lia
 generalize ea:ZE W=a at *;have wl:0<W.length:=List.length_pos_iff.mpr ne;obtain ⟨k,hk,ek⟩:∃ k:Nat,k<W.length/\c % (W.length:Int)=k:=⟨(c % (W.length:Int)).toNat,by have:=Int.emod_lt_of_pos c (show (0:Int)<W.length by lia);have:=Int.emod_nonneg c (show (W.length:Int)≠0 by lia);lia,by have:=Int.emod_nonneg c (show (W.length:Int)≠0 by lia);lia⟩
 have x1:xs1 (P.tbl (n+27)) Za9 (vb a c Wo Wo Wo Wo) h=.ok (.nx,vb a c (Wn (.int k)) Wo Wo Wo) (h++[.lst (W.map .str)]):=Zn (i:=2) ((Zc rfl (ZZ (Zd ((ZnN rfl ok al).trans (by rw [sp])) rfl) (ZcM (ys:=W.map .str) (by simp)))).trans ((ZC (by rw [Ys];lia)).trans (by rw [Ys,ek])));obtain ⟨od,ho,ea3⟩:=ZBs (c / 100) [D.str (O "\n"),.str (O "\t"),.str (O "\n ")] rfl;obtain ⟨o,ho',rfl⟩:∃ o∈[O "\n",O "\t",O "\n "],od=.str o:=by
   simp only [O2,List.not_mem_nil,or_false] at ho;rcases ho with rfl|rfl|rfl
   . exact ⟨_,.head _,rfl⟩
   . exact ⟨_,.tail _ (.head _),rfl⟩
   . exact ⟨_,.tail _ (.tail _ (.head _)),rfl⟩
 obtain ⟨s,r,eo,hs,hr,ol,ook⟩:=Zw7 o ho';have x2:xs1 (P.tbl (n+27)) Za8 (vb a c (Wn (.int k)) Wo Wo Wo) (h++[.lst (W.map .str)])=.ok (.nx,vb a c (Wn (.int k)) (Wn (.str o)) Wo Wo) (h++[.lst (W.map .str)]++[.lst [.str (O "\n"),.str (O "\t"),.str (O "\n ")]]):=Zn (i:=3) (ZhA (xs:=[.str (O "\n"),.str (O "\t"),.str (O "\n ")]) (z:=c / 100 % 3) ea3 rfl ((Zc ((Zc rfl rfl).trans (ZT (by decide))) rfl).trans (ZC (by decide))) (show 3<=1000 by decide));generalize eh:h++[DO.lst (W.map .str)]++[DO.lst [.str (O "\n"),.str (O "\t"),.str (O "\n ")]]=h2 at x2;have x3:xs1 (P.tbl (n+27)) Za7 (vb a c (Wn (.int k)) (Wn (.str o)) Wo Wo) h2=.ok (.nx,vb a c (Wn (.int k)) (Wn (.str o)) (Wn (.ref h2.length)) Wo) (h2++[.lst (W.map .str)]):=Zn (i:=4) ((ZnN rfl ok al).trans (by rw [sp]));have hw:(h2++[DO.lst (W.map .str)])[h2.length]? = Wn (.lst (W.map .str)):=by simp
 have gA:∀ w∈W.take k,Gw NS w:=fun w hw=>g w (List.mem_of_mem_take hw);have gB:∀ w∈W.drop k,Gw NS w:=fun w hw=>g w (List.mem_of_mem_drop hw);have lA:(W.take k).length<=W.length:=by rw [List.length_take];lia
 have lB:(W.drop k).length<=W.length:=by rw [List.length_drop];lia
 have lAB:(W.take k).length+(W.drop k).length=W.length:=by rw [List.length_take,List.length_drop];lia
 have jA:=ZaZ fun w hw=>(gA w hw).b;have jB:=ZaZ fun w hw=>(gB w hw).b;have oA:=Zbq fun w hw=>(gA w hw).b;have oB:=Zbq fun w hw=>(gB w hw).b;have cA:Gl NS (ZE (W.take k)).cps.toList:=by unfold ZE;rw [ZbI];exact ZnK gA
 have cB:Gl NS (ZE (W.drop k)).cps.toList:=by unfold ZE;rw [ZbI];exact ZnK gB
 have ca:Gl NS a.cps.toList:=by rw [<- ea];unfold ZE;rw [ZbI];exact ZnK g
 have rest:∀ {l:List Nat},Gl NS l->Gl NS (r++l):=fun q=>by
   rcases hr with rfl|rfl
   . exact q
   . exact Zsk q
 have T1:Txt4 (a++o) NS/\jdg (ZO (a++o))=.nt:=ZqI (by rw [ZdX,eo]) hs ca (by rw [<- Yr r];exact rest ZnJ) (Zk8 ok ook) (by rw [len_app];lia) few;have T2:Txt4 (o++a) NS/\jdg (ZO (o++a))=.nt:=ZqI (u:=[]) (by rw [ZdX,eo];rfl) hs ZnJ (rest ca) (Zk8 ook ok) (by rw [len_app];lia) few;have T3:Txt4 (ZE (W.take k)++o++ZE (W.drop k)) NS/\jdg (ZO (ZE (W.take k)++o++ZE (W.drop k)))=.nt:=ZqI (u:=(ZE (W.take k)).cps.toList) (v:=r++(ZE (W.drop k)).cps.toList) (by rw [ZdX,ZdX,eo];simp) hs cA (rest cB) (Zk8 (Zk8 oA ook) oB) (by rw [len_app,len_app];lia) few;have s1:ev (P.tbl (n+27)) (.sl (.var 4) Wo (Wn (.var 2))) (vb a c (Wn (.int k)) (Wn (.str o)) (Wn (.ref h2.length)) Wo) (h2++[.lst (W.map .str)])=.ok (.ref (h2++[DO.lst (W.map .str)]).length) (h2++[.lst (W.map .str)]++[.lst ((W.take k).map .str)]):=Zwy rfl hw rfl rfl ((Zlz _ k).trans (List.map_take ..).symm);have s2:ev (P.tbl (n+27)) (.sl (.var 4) (Wn (.var 2)) Wo) (vb a c (Wn (.int k)) (Wn (.str o)) (Wn (.ref h2.length)) Wo) (h2++[.lst (W.map .str)]++[.lst ((W.take k).map .str)])=.ok (.ref (h2++[DO.lst (W.map .str)]++[DO.lst ((W.take k).map .str)]).length) (h2++[.lst (W.map .str)]++[.lst ((W.take k).map .str)]++[.lst ((W.drop k).map .str)]):=Zwy rfl (ZB hw) rfl rfl ((ZlA _ k).trans (List.map_drop ..).symm);have i1:(h2++[DO.lst (W.map .str)]++[DO.lst ((W.take k).map .str)])[(h2++[DO.lst (W.map .str)]).length]? = Wn (.lst ((W.take k).map .str)):=by simp
 have i2:(h2++[DO.lst (W.map .str)]++[DO.lst ((W.take k).map .str)]++[DO.lst ((W.drop k).map .str)])[(h2++[DO.lst (W.map .str)]++[DO.lst ((W.take k).map .str)]).length]? = Wn (.lst ((W.drop k).map .str)):=by simp
 have j1:=ZfQ s1 i1 (fun w hw=>(gA w hw).b) (by lia);have j2:=ZfQ s2 i2 (fun w hw=>(gB w hw).b) (by lia);generalize eh4:h2++[DO.lst (W.map .str)]++[DO.lst ((W.take k).map .str)]++[DO.lst ((W.drop k).map .str)]=h4 at j2;have e4:ev (P.tbl (n+27)) (.lstl (.cons (.bin .Add (.var 0) (.var 3)) (.cons (.bin .Add (.var 3) (.var 0)) (.cons (.bin .Add (.bin .Add (.tmt .joi (.Ci_ " ") (.sl (.var 4) Wo (Wn (.var 2)))) (.var 3)) (.tmt .joi (.Ci_ " ") (.sl (.var 4) (Wn (.var 2)) Wo))) .nil)))) (vb a c (Wn (.int k)) (Wn (.str o)) (Wn (.ref h2.length)) Wo) (h2++[.lst (W.map .str)])=.ok (.ref h4.length) (h4++[.lst ([a++o,o++a,ZE (W.take k)++o++ZE (W.drop k)].map .str)]) :=
   ZbU (xs:=[.str (a++o),.str (o++a),.str (ZE (W.take k)++o++ZE (W.drop k))]) (Zd ((Zc rfl rfl).trans (ZpF (by lia))) (Zd ((Zc rfl rfl).trans (ZpF (by lia))) (Zd ((Zc ((Zc j1 rfl).trans (ZpF (by lia))) j2).trans (ZpF (by rw [len_app];lia))) rfl))) (show 3<=1000 by decide)
 obtain ⟨g0,rfl⟩:∃ g0,h4=h++g0:=⟨_,by rw [<- eh4,<- eh];simp only [Oz];rfl⟩
 obtain ⟨g5,e5⟩:=Zps H n (NS:=NS) (k:=(h++g0).length) (L:=[a++o,o++a,ZE (W.take k)++o++ZE (W.drop k)].map .str) [a++o,o++a,ZE (W.take k)++o++ZE (W.drop k)] [] (h++g0++[.lst ([a++o,o++a,ZE (W.take k)++o++ZE (W.drop k)].map .str)]) (fun x hx=>by
   simp only [O2,List.not_mem_nil,or_false] at hx;rcases hx with rfl|rfl|rfl
   . exact T1
   . exact T2
   . exact T3) (by simp) (by simp)
 have x4:xs1 (P.tbl (n+27)) Za6 (vb a c (Wn (.int k)) (Wn (.str o)) (Wn (.ref h2.length)) Wo) (h2++[.lst (W.map .str)])=.ok (.nx,vb a c (Wn (.int k)) (Wn (.str o)) (Wn (.ref h2.length)) (Wn (.ref (h++g0).length))) (h++g0++[.lst ([a++o,o++a,ZE (W.take k)++o++ZE (W.drop k)].map .str)]):=Zn (i:=5) e4;generalize el:[a++o,o++a,ZE (W.take k)++o++ZE (W.drop k)]=as at *;have e6:=ZfR (U:=P.tbl (n+27)) (NC:=[(O "_law_one")]) (js:=[Wo]) (S:=vb a c (Wn (.int k)) (Wn (.str o)) (Wn (.ref h2.length)) (Wn (.ref (h++g0).length))) (it:=.pl (.var 5)) (e:=Zx0) (g:=.nm 0) (c:=Wo) (Zjf (e:=.var 5) (h:=h++g0++[DO.lst (as.map .str)]) rfl (ys:=as.map .str) (by simp)) e5;have w:xs2 (P.tbl (n+27)) ZbP (vb a c Wo Wo Wo Wo) h=.ok (.rt (.bl Wp),vb a c (Wn (.int k)) (Wn (.str o)) (Wn (.ref h2.length)) (Wn (.ref (h++g0).length))) (h++g0++[.lst (as.map .str)]++g5++[.lst (as.map fun _=>D.bl Wp)]):=(Za x1).trans ((Za x2).trans ((Za x3).trans ((Za x4).trans (Zb (Zh (ZZ (Zd e6 rfl) (Zyg _)))))));exact ⟨g0++[.lst (as.map .str)]++g5++[.lst (as.map fun _=>D.bl Wp)],by simp only [<- Oz];exact congrArg Ze w⟩
def Zp9(es:shp w=Wo)(d:Nat)(r:List Str):rdE d (w::r)=Wo\/∃t,rdE d (w::r)=Wn (t,r):=by
 cases d with
 |zero=>exact .inl rfl
 |succ d=>
  have e:rdE (d+1) (w::r)=(leaf w).map λt=>(t,r):=by rw[rdE];rw[es]
  rw[e];cases leaf w with
  |none=>exact .inl rfl
  |some t=>exact .inr ⟨t,rfl⟩
theorem Zn7{d:Nat}{r:List Str}(hr:rdE d r=Wo):∀(ls:List Str) (m:Nat),(∀w∈ls,shp w=Wo)->tkL (rdE d) (ls.length+1+m) (ls++r)=Wo
 |[],m,_=>by rw[show [].length+1+m=m+1 by simp;lia];show(rdE d r).bind _=Wo;rw[hr];rfl
 |w::ls,m,h=>by
  rw[show(w::ls).length+1+m=(ls.length+1+m)+1 by simp;lia];show(rdE d (w::(ls++r))).bind _=Wo;rcases Zp9 (h w (.head _)) d (ls++r)with q|⟨t,q⟩
  . rw[q];rfl
  . rw[q];show(tkL (rdE d) (ls.length+1+m) (ls++r)).map _=Wo;rw[Zn7 hr ls m λx hx=>h x (.tail _ hx)];rfl
structure Ah(s:Str)(A:List Str):Prop where
 c:s.cps.toList=Zb8 (A.map (·.cps.toList))
 ne:A≠[]
 nb:∀w∈A,32 ∉ w.cps.toList
 nm:∀w∈A,isNm w=Wp->w∈[O "a",O "f"]
 ok:Yo s=Wp
 l:1<=s.length/\s.length<=7
 r:∀d r,rdE d r=Wo->rdE (d+1) (A++r)=Wo
def Zqu{w:Str}{xs ls:List Str}{m:Nat}(es:shp w=Wn (xs.length,ls.length+1+m))(hx:∀x∈xs,isNm x=Wp)(hl:∀x∈ls,shp x=Wo)(d:Nat)(r:List Str)(hr:rdE d r=Wo):rdE (d+1) (w::(xs++ls)++r)=Wo:=by
 have e:rdE (d+1) (w::(xs++ls)++r)=(tkN xs.length (xs++(ls++r))).bind λp=>(tkL (rdE d) (ls.length+1+m) p.2).map λq=>(mkT w p.1 q.1,q.2):=by rw[List.cons_append,Oz,rdE];rw[es]
 rw[e,Znc λx h=>Z6.mp (hx x h)];show(tkL (rdE d) (ls.length+1+m) (ls++r)).map _=Wo;rw[Zn7 hr ls m hl];rfl
def ah0:Ah (O "fn a") [O "fn",O "a"]:=⟨by decide +kernel,by simp,by decide +kernel,by decide +kernel,by decide +kernel,by decide +kernel,Zqu (w:=O "fn") (xs:=[O "a"]) (ls:=[]) (m:=0) (by decide +kernel) (by decide +kernel) (by simp)⟩
def ah1:Ah (O "+ 1") [O "+",O "1"]:=⟨by decide +kernel,by simp,by decide +kernel,by decide +kernel,by decide +kernel,by decide +kernel,Zqu (w:=O "+") (xs:=[]) (ls:=[O "1"]) (m:=0) (by decide +kernel) (by simp) (by decide +kernel)⟩
def ah2:Ah (O "call f") [O "call",O "f"]:=⟨by decide +kernel,by simp,by decide +kernel,by decide +kernel,by decide +kernel,by decide +kernel,Zqu (w:=O "call") (xs:=[]) (ls:=[O "f"]) (m:=0) (by decide +kernel) (by simp) (by decide +kernel)⟩
def ah3:Ah (O "if 1 2") [O "if",O "1",O "2"]:=⟨by decide +kernel,by simp,by decide +kernel,by decide +kernel,by decide +kernel,by decide +kernel,Zqu (w:=O "if") (xs:=[]) (ls:=[O "1",O "2"]) (m:=0) (by decide +kernel) (by simp) (by decide +kernel)⟩
def ah4:Ah (O "rec f a") [O "rec",O "f",O "a"]:=⟨by decide +kernel,by simp,by decide +kernel,by decide +kernel,by decide +kernel,by decide +kernel,Zqu (w:=O "rec") (xs:=[O "f",O "a"]) (ls:=[]) (m:=0) (by decide +kernel) (by decide +kernel) (by simp)⟩
def ah5:Ah (O "*") [O "*"]:=⟨by decide +kernel,by simp,by decide +kernel,by decide +kernel,by decide +kernel,by decide +kernel,Zqu (w:=O "*") (xs:=[]) (ls:=[]) (m:=1) (by decide +kernel) (by simp) (by simp)⟩
noncomputable def Zhf:List Str:=[O "fn a",O "+ 1",O "call f",O "if 1 2",O "rec f a",O "*"]
def Zs4:∀s∈Zhf,∃A,Ah s A:=by
 intro s hs;simp only[Zhf,O2,List.not_mem_nil,or_false]at hs;rcases hs with rfl|rfl|rfl|rfl|rfl|rfl
 . exact⟨_,ah0⟩
 . exact⟨_,ah1⟩
 . exact⟨_,ah2⟩
 . exact⟨_,ah3⟩
 . exact⟨_,ah4⟩
 . exact⟨_,ah5⟩
def Zsf(w:List Nat){r:List (List Nat)}(h:r≠[]):Zb8 (w::r)=w++32::Zb8 r:=by
 cases r with
 |nil=>exact absurd rfl h
 |cons v r=>rfl
theorem Zok{l z:List Nat}{A:List (List Nat)}(hl:ZY l=A)(hz:32 ∉ z):∀k:Nat,ZY (Zb8 (YI k l++[z]))=(YI k A).flatten++[z]/\(Zb8 (YI k l++[z])).length=k * (l.length+1)+z.length/\∀c∈Zb8 (YI k l++[z]),c=32\/c∈l\/c∈z
 |0=>⟨Zk0 hz,by simp[Zb8],λc hc=>.inr (.inr hc)⟩
 |k+1=>by
  obtain⟨i1,i2,i3⟩:=Zok hl hz k;rw[List.replicate_succ,List.cons_append,Zsf _ (by simp)];refine⟨?_,?_,λc hc=>?_⟩
  . rw[Zoc,hl,i1,List.replicate_succ,List.flatten_cons,Oz]
  . rw[OA,Os,i2,Nat.succ_mul]
    lia
  . rcases OD.mp hc with q|q
    . exact .inr (.inl q)
    . rcases O2.mp q with q|q
      . exact .inl q
      . exact i3 c q
theorem Zq9{A:List Str}(hr:∀d r,rdE d r=Wo->rdE (d+1) (A++r)=Wo)(z:List Str):∀(d k:Nat),d<=k->rdE d ((YI k A).flatten++z)=Wo
 |0,k,_=>rfl
 |d+1,0,h=>absurd h (by lia)
 |d+1,k+1,h=>by rw[List.replicate_succ,List.flatten_cons,Oz];exact hr d _ (Zq9 hr z d k (by lia))
noncomputable def zs3:List Str:=[O "7",O "a",O ""]
def Zyt:∀z∈zs3,32 ∉ z.cps.toList/\z.length<=1/\Yo z=Wp/\(isNm z=Wp->z∈[O "a",O "f"]):=by decide +kernel
def ZxO{s z:Str}(hs:s∈Zhf)(hz:z∈zs3)(k:Nat)(h21:21<=k)(hk:k * (s.length+1)<=20000):Txt4 (ZE (YI k s++[z])) [O "a",O "f"]/\jdg (ZO (ZE (YI k s++[z])))=.nt:=by
 obtain⟨A,ah⟩:=Zs4 s hs;obtain⟨z1,z2,z3,z4⟩:=Zyt z hz;have sl:ZY s.cps.toList=A.map (·.cps.toList):=by rw[ah.c];exact Zfp (by simpa using ah.ne) λw hw=>by obtain⟨p,hp,rfl⟩:=List.mem_map.mp hw;exact ah.nb p hp
 obtain⟨i1,i2,i3⟩:=Zok sl z1 k;have ej:(ZE (YI k s++[z])).cps.toList=Zb8 (YI k s.cps.toList++[z.cps.toList]):=by unfold ZE;rw[ZbI];simp
 have es:ZO (ZE (YI k s++[z]))=(YI k A).flatten++[z]:=by unfold ZO;rw[ej,i1,List.map_append,List.map_flatten,List.map_replicate,List.map_map];have:A.map (tx ∘ λx=>x.cps.toList)=A:=(List.map_congr_left (g:=id) λp _=>Zgr p).trans (List.map_id _);rw[this];simp[Zgr]
 have inA:∀w∈(YI k A).flatten++[z],w∈A\/w=z:=λw hw=>by
  rcases OD.mp hw with q|q
  . obtain⟨l,hl,hw⟩:=List.mem_flatten.mp q;rw[(List.mem_replicate.mp hl).2]at hw;exact .inl hw
  . exact .inr (Ox.mp q)
 refine⟨⟨ZL.mpr λc hc=>?_,?_,λx hx n=>?_,by simp⟩,?_⟩
 . rw[ej]at hc;rcases i3 c hc with q|q|q
   . lia
   . exact ZL.mp ah.ok c q
   . exact ZL.mp z3 c q
 . rw[Zv,ej,i2,<- Zv,<- Zv]
   lia
 . rw[es]at hx;rcases inA x hx with q|q
   . exact ah.nm x q (Z6.mpr n)
   . rw[q]at n ⊢;exact z4 (Z6.mpr n)
 . rw[es];unfold jdg rdT;rw[Zq9 ah.r [z] 21 k h21]
def ZnA(z:Int)(m:Nat)(xs:List Str)(hl:xs.length=m)(hm:0<m):∃d∈xs,atI (xs.map D.str) (z % (m:Int))=Wn (.str d):=by
 obtain⟨k,hk,e⟩:∃k:Nat,k<m/\z % (m:Int)=k:=⟨(z % (m:Int)).toNat,by have:=Int.emod_lt_of_pos z (show(0:Int)<m by lia);have:=Int.emod_nonneg z (show(m:Int)≠0 by lia);lia,by have:=Int.emod_nonneg z (show(m:Int)≠0 by lia);lia⟩
 rw[e,IV.ZaW,On,Og (show k<xs.length by lia)];exact⟨_,List.getElem_mem _,rfl⟩
def Zzc(H:Lw P)(n:Nat)(c:Int)(h:Hd):∃a g,run P (n+1) (O "_law_far") [.int c] h=.ok (.str a) (h++g)/\Txt4 a [O "a",O "f"]/\jdg (ZO a)=.nt:=by
 rw[Zg H.law_far rfl];obtain⟨s,hs,es⟩:=ZnA c 6 Zhf rfl (by decide);obtain⟨z,hz,ez⟩:=ZnA (c / 97) 3 zs3 rfl (by decide);obtain⟨A,ah⟩:=Zs4 s hs;have sl:=ah.l;have x1:xs1 (P.tbl n) ZhH [Wn (.int c),Wo,Wo] h=.ok (.nx,[Wn (.int c),Wn (.str s),Wo]) (h++[.lst (Zhf.map .str)]):=Zn (i:=1) (ZhA (xs:=Zhf.map .str) (z:=c % 6) es rfl ((Zc rfl rfl).trans (ZC (by decide))) (show 6<=1000 by decide));have x2:∀h:Hd,xs1 (P.tbl n) ZhG [Wn (.int c),Wn (.str s),Wo] h=.ok (.nx,[Wn (.int c),Wn (.str s),Wn (.int (21+c / 6 % 180))]) h:=λh=>Zn (i:=2) ((Zc rfl ((Zc ((Zc rfl rfl).trans (ZT (by decide))) rfl).trans (ZC (by decide)))).trans rfl);have fin:∀(k:Nat) (h1:Hd),21<=k->k * (s.length+1)<=20000->(∃g,h1=h++g)->xs2 (P.tbl n) ZgY [Wn (.int c),Wo,Wo] h=xs2 (P.tbl n) (.cons ZdF .nil) [Wn (.int c),Wn (.str s),Wn (.int (k:Int))] h1->∃a g,Ze (xs2 (P.tbl n) ZgY [Wn (.int c),Wo,Wo] h)=.ok (.str a) (h++g)/\Txt4 a [O "a",O "f"]/\jdg (ZO a)=.nt:=λk h1 h21 hk hg ex=>by
  obtain⟨q1,q2⟩:=ZxO hs hz k h21 hk;have kb:k<=20000:=OE (by have:=Nat.mul_le_mul_left k (show 1<=s.length+1 by lia);lia) hk;have l1:ev (P.tbl n) (.lmu (.lstl (.cons (.var 1) .nil)) (.var 2)) [Wn (.int c),Wn (.str s),Wn (.int (k:Int))] h1=.ok (.ref (h1++[DO.lst [.str s]]).length) (h1++[.lst [.str s]]++[.lst ((YI k s).map .str)]):=by
   rw[ZxT,ZbU (xs:=[.str s]) rfl (show 1<=1000 by decide),Zk];show Zqt (.ref h1.length) (.int (k:Int)) (h1++[.lst [.str s]])=_;simp only[Zqt,Zjz];rw[if_pos ⟨by lia,by lia,by simp;lia⟩];have:(YI (k:Int).toNat [D.str s]).flatten=(YI k s).map .str:=by
    rw[Int.toNat_natCast,List.map_replicate];induction k with
    |zero=>rfl
    |succ k ih=>simp[List.replicate_succ]at ih ⊢
   rw[this];rfl
  have zz:ev (P.tbl n) (.lstl (.cons (.ix (.lstl (.cons (.Ci_ "7") (.cons (.Ci_ "a") (.cons (.Ci_ "") .nil)))) (.bin .Mod (.bin .FloorDiv (.var 0) (.ci 97)) (.ci 3))) .nil)) [Wn (.int c),Wn (.str s),Wn (.int (k:Int))] (h1++[.lst [.str s]]++[.lst ((YI k s).map .str)])=.ok (.ref (h1++[DO.lst [.str s]]++[DO.lst ((YI k s).map .str)]++[DO.lst (zs3.map .str)]).length) (h1++[.lst [.str s]]++[.lst ((YI k s).map .str)]++[.lst (zs3.map .str)]++[.lst ([z].map .str)]):=ZbU (xs:=[.str z]) (Zd (ZhA (xs:=zs3.map .str) (z:=c / 97 % 3) ez rfl ((Zc ((Zc rfl rfl).trans (ZT (by decide))) rfl).trans (ZC (by decide))) (show 3<=1000 by decide)) rfl) (show 1<=1000 by decide);have i1:(h1++[DO.lst [.str s]]++[DO.lst ((YI k s).map .str)])[(h1++[DO.lst [.str s]]).length]? = Wn (.lst ((YI k s).map .str)):=by simp
  have i2:(h1++[DO.lst [.str s]]++[DO.lst ((YI k s).map .str)]++[DO.lst (zs3.map .str)]++[DO.lst ([z].map .str)])[(h1++[DO.lst [.str s]]++[DO.lst ((YI k s).map .str)]++[DO.lst (zs3.map .str)]).length]? = Wn (.lst ([z].map .str)):=by simp
  have ad:=(Zc (op:=.Add) l1 zz).trans ((add_l (ZB (ZB i1)) i2 (by simp;lia)).trans (by rw[<- List.map_append]));have wd:∀w∈YI k s++[z],Wdb w:=λw hw=>by
   rcases OD.mp hw with q|q
   . rw[(List.mem_replicate.mp q).2];exact⟨ZL.mp ah.ok,by lia⟩
   . rw[Ox.mp q];obtain⟨_,z2,z3,_⟩:=Zyt z hz;exact⟨ZL.mp z3,by lia⟩
  generalize eh:h1++[DO.lst [.str s]]++[DO.lst ((YI k s).map .str)]++[DO.lst (zs3.map .str)]++[DO.lst ([z].map .str)]=h5 at ad;obtain⟨g0,rfl⟩:=hg;obtain⟨g5,rfl⟩:∃g5,h5=h++g5:=⟨_,by rw[<- eh];simp only[Oz];rfl⟩
  refine⟨_,g5++[.lst ((YI k s++[z]).map .str)],?_,q1,q2⟩;have w:xs2 (P.tbl n) (.cons ZdF .nil) [Wn (.int c),Wn (.str s),Wn (.int (k:Int))] (h++g0)=.ok (.rt (.str (ZE (YI k s++[z]))),[Wn (.int c),Wn (.str s),Wn (.int (k:Int))]) (h++g5++[.lst ((YI k s++[z]).map .str)]):=Zb (Zh (ZfQ ad (by simp) wd (by simp;lia)));rw[ex,w,<- Oz];rfl
 have t3:∀(v:Option D) (h:Hd),tst (P.tbl n) Zhz [Wn (.int c),Wn (.str s),v] h=.ok (Wr (c / 1080 % 4=1)) h:=λv h=>Ze2 ((Zc ((Zc rfl rfl).trans (ZT (by decide))) rfl).trans (ZC (by decide))) rfl;by_cases h4:c / 1080 % 4=1
 . obtain⟨m,hm1,hm2,hm3⟩:∃m:Nat,19500 / ((s.length:Int)+1) - 199=m/\0<m/\(m+199) * (s.length+1)<=19500:=by
    have f:∀l:Fin 8,1<=l.val->∃m:Fin 10000,(19500:Int) / ((l.val:Int)+1) - 199=m.val/\0<m.val/\(m.val+199) * (l.val+1)<=19500:=λl h=>⟨⟨(19500 / (l.val+1) - 199) % 10000,Nat.mod_lt _ (by decide)⟩,by revert h;revert l;decide⟩
    obtain⟨m,e⟩:=f ⟨s.length,by lia⟩ sl.1;exact⟨m.val,e⟩
   obtain⟨k,hk,ek⟩:∃k:Nat,k<m/\c / 4320 % (m:Int)=k:=⟨(c / 4320 % (m:Int)).toNat,by have:=Int.emod_lt_of_pos (c / 4320) (show(0:Int)<m by lia);have:=Int.emod_nonneg (c / 4320) (show(m:Int)≠0 by lia);lia,by have:=Int.emod_nonneg (c / 4320) (show(m:Int)≠0 by lia);lia⟩
   have y3:∀h:Hd,xs1 (P.tbl n) ZdG [Wn (.int c),Wn (.str s),Wn (.int (21+c / 6 % 180))] h=.ok (.nx,[Wn (.int c),Wn (.str s),Wn (.int ((200+k:Nat):Int))]) h:=λh=>(Zt (Zr (t3 _ h) (decide_eq_true h4))).trans ((Za (Zn (i:=2) ((Zc rfl ((Zc ((Zc rfl rfl).trans (ZT (by decide))) ((Zc ((Zc rfl ((Zc (ZZ (Zd rfl rfl) (show ZbN P.GD .len [.str s] h=.ok (.int s.length) h from if_pos (by rw[YA];lia))) rfl).trans rfl)).trans (ZT (by lia))) rfl).trans (show _=R.ok (D.int (m:Int)) h by rw[<- hm1];rfl))).trans ((ZC (by lia)).trans (by rw[ek])))).trans (show _=R.ok (D.int ((200+k:Nat):Int)) h by rw[Int.natCast_add];rfl)))).trans rfl);exact fin (200+k) _ (by lia) (OE (Nat.mul_le_mul_right _ (show 200+k<=m+199 by lia)) (by lia)) ⟨_,rfl⟩ ((Za x1).trans ((Za (x2 _)).trans (Za (y3 _))))
 . obtain⟨k,hk,ek⟩:∃k:Nat,k<180/\c / 6 % 180=k:=⟨(c / 6 % 180).toNat,by lia,by lia⟩
   have y3:∀h:Hd,xs1 (P.tbl n) ZdG [Wn (.int c),Wn (.str s),Wn (.int (21+c / 6 % 180))] h=.ok (.nx,[Wn (.int c),Wn (.str s),Wn (.int ((21+k:Nat):Int))]) h:=λh=>(Zi (Zr (t3 _ h) (decide_eq_false h4))).trans (by rw[ek,Int.natCast_add];rfl);exact fin (21+k) _ (by lia) (OE (Nat.mul_le_mul (show 21+k<=201 by lia) (show s.length+1<=8 by lia)) (by decide)) ⟨_,rfl⟩ ((Za x1).trans ((Za (x2 _)).trans (Za (y3 _))))
end
end K04L
namespace K04L
open PySem L2 IV Tm Fr
open K03L (Ok4 ws ZB ZL Zv Wdb)
open Gn (dep Zf Up)
section
variable {P:Pg}
noncomputable def ZaM:List Str:=[O "",O "0",O "00",O "07",O "999999",O "1000000",O "-1",O "A",O "a1",O "abcdefghi",O "fn",O "rec",O "call",O "if",O "+",O "-"]
noncomputable def Zbo:List Str:=[O "*",O "<",O "=",O "(",O "a",O "abcdefgh",O "fnn",O "Fn",O "\n",O "0x1",O "re",O "calls"]
noncomputable def Zbn:List Str:=[O "w",O "a",O "abcdefgh",O "fnn",O "re",O "calls"]
def ZrS:∀w∈ZaM++Zbo,((∀c∈w.cps.toList,c<1114112)/\w.length<=9)/\32 ∉ w.cps.toList/\(isNm w=Wp->w∈Zbn):=by decide +kernel
def ZzH{NS:List Str}(n:NmW x)(h:x∈NS):Gw NS x:=⟨⟨λc hc=>by have:=(n.1 c hc).2;lia,by have:=n.2.2.1;lia⟩,λq=>by have:=(n.1 32 q).1;lia,λ_=>h⟩
def Zy8(H:Lw P)(n:Nat)(c:Int){h:Hd}{ns:List Str}(h5:ns.length=5)(hm:h[m]? = Wn (.lst (ns.map .str)))(nw:∀x∈ns,NmW x):∃w g,run P (n+1) (O "_law_odd") [.int c,.ref m] h=.ok (.str w) (h++g)/\Gw (ns++Zbn) w:=by
 rw[Zg H.law_odd rfl];obtain⟨w,hw,ew⟩:=ZnA c 33 (ZaM++Zbo++ns) (by simp[ZaM,Zbo,h5]) (by decide);have gw:Gw (ns++Zbn) w:=by
  rcases OD.mp hw with q|q
  . obtain⟨a,b,d⟩:=ZrS w q;exact⟨a,b,λk=>Ov _ (d (Z6.mpr k))⟩
  . exact ZzH (nw w q) (Yq _ q)
 have x1:xs1 (P.tbl n) ZhE [Wn (.int c),Wn (.ref m),Wo] h=.ok (.nx,[Wn (.int c),Wn (.ref m),Wn (.ref h.length)]) (h++[.lst (ZaM.map .str)]):=Zn (i:=2) (ZbU (xs:=ZaM.map .str) rfl (show 16<=1000 by decide));have a1:(h++[DO.lst (ZaM.map .str)]++[.lst (Zbo.map .str)])[h.length]? = Wn (.lst (ZaM.map .str)):=by simp
 have x2:xs1 (P.tbl n) ZhD [Wn (.int c),Wn (.ref m),Wn (.ref h.length)] (h++[.lst (ZaM.map .str)])=.ok (.nx,[Wn (.int c),Wn (.ref m),Wn (.ref (h++[DO.lst (ZaM.map .str)]++[DO.lst (Zbo.map .str)]).length)]) (h++[.lst (ZaM.map .str)]++[.lst (Zbo.map .str)]++[.lst ((ZaM++Zbo).map .str)]):=Zn (i:=2) ((Zc rfl (ZbU (xs:=Zbo.map .str) rfl (show 12<=1000 by decide))).trans ((add_l a1 (ys:=Zbo.map .str) (by simp) (by simp[ZaM,Zbo])).trans (by rw[<- List.map_append])));generalize eh:h++[DO.lst (ZaM.map .str)]++[DO.lst (Zbo.map .str)]=h2 at x2;obtain⟨g2,rfl⟩:∃g2,h2=h++g2:=⟨_,by rw[<- eh];simp only[Oz];rfl⟩
 have a2:(h++g2++[DO.lst ((ZaM++Zbo).map .str)])[(h++g2).length]? = Wn (.lst ((ZaM++Zbo).map .str)):=by simp
 have a3:(h++g2++[DO.lst ((ZaM++Zbo).map .str)])[m]? = Wn (.lst (ns.map .str)):=ZB (ZB hm);have ad:ev (P.tbl n) (.bin .Add (.var 2) (.var 1)) [Wn (.int c),Wn (.ref m),Wn (.ref (h++g2).length)] (h++g2++[.lst ((ZaM++Zbo).map .str)])=.ok (.ref (h++g2++[DO.lst ((ZaM++Zbo).map .str)]).length) (h++g2++[.lst ((ZaM++Zbo).map .str)]++[.lst ((ZaM++Zbo++ns).map .str)]):=(Zc rfl rfl).trans ((add_l a2 a3 (by simp[ZaM,Zbo,h5])).trans (by rw[<- List.map_append]));refine⟨w,g2++[.lst ((ZaM++Zbo).map .str)]++[.lst ((ZaM++Zbo++ns).map .str)],?_,gw⟩;have w:xs2 (P.tbl n) ZkU [Wn (.int c),Wn (.ref m),Wo] h=.ok (.rt (.str w),[Wn (.int c),Wn (.ref m),Wn (.ref (h++g2).length)]) (h++g2++[.lst ((ZaM++Zbo).map .str)]++[.lst ((ZaM++Zbo++ns).map .str)]):=(Za x1).trans ((Za x2).trans (Zb (Zh ((ZK ad ((Zc rfl rfl).trans (ZC (by decide)))).trans ((ZN (xs:=(ZaM++Zbo++ns).map .str) (by simp)).trans (by rw[show(33:Int)=((33:Nat):Int)from rfl,ew];rfl))))));rw[<- Oz,<- Oz];exact congrArg Ze w
def EvL(U:Tb)(e:Ex)(S:Ev)(h:Hd)(X:List Str):Prop:=∀g0,∃g k,ev U e S (h++g0)=.ok (.ref k) (h++g0++g)/\(h++g0++g)[k]? = Wn (.lst (X.map .str))
def EvL.add{U:Tb}{ea eb:Ex}{S:Ev}{h:Hd}{X Y:List Str}(a:EvL U ea S h X)(b:EvL U eb S h Y)(hz:X.length+Y.length<=100000):EvL U (.bin .Add ea eb) S h (X++Y):=λg0=>by
 obtain⟨g1,i,e1,i1⟩:=a g0;obtain⟨g2,j,e2,j2⟩:=b (g0++g1);rw[<- Oz]at e2 j2;refine⟨g1++g2++[.lst ((X++Y).map .str)],(h++g0++g1++g2).length,?_,?_⟩
 . rw[<- Oz,<- Oz];exact(Zc e1 e2).trans ((add_l (ZB i1) j2 (by simp;lia)).trans (by rw[<- List.map_append]))
 . rw[<- Oz,<- Oz];simp
def EvL.one{U:Tb}{e:Ex}{S:Ev}{h:Hd}(q:∀h,ev U e S h=.ok (.str x) h):EvL U (.lstl (.cons e .nil)) S h [x]:=λg0=>⟨[.lst [.str x]],_,ZbU (xs:=[.str x]) (Zd (q _) rfl) (show 1<=1000 by decide),by simp⟩
theorem EvL.sl{U:Tb}{a:Ex}{lo hi:Option Ex}{l u:Option Int}{S:Ev}{h:Hd}{W V:List Str}(p:∀h,ev U a S h=.ok (.ref r) h)(e:h[r]? = Wn (.lst (W.map .str)))(q:∀h,evo U lo S h=.ok l h)(z:∀h,evo U hi S h=.ok u h)(c:cutD (W.map .str) l u=V.map .str):EvL U (.sl a lo hi) S h V:=λg0=>⟨[.lst (V.map .str)],_,Zwy (p _) (ZB e) (q _) (z _) c,by simp⟩
theorem EvL.ret{P:Pg}{n:Nat}{e:Ex}{S:Ev}{h:Hd}(a:EvL (P.tbl n) e S h X):∃g k,xs1 (P.tbl n) (.ret e) S h=.ok (.rt (.ref k),S) (h++g)/\(h++g)[k]? = Wn (.lst (X.map .str)):=by obtain⟨g,k,e1,e2⟩:=a [];rw[Yr]at e1 e2;exact⟨g,k,Zh e1,e2⟩
noncomputable def vs6(wl m:Nat)(c:Int)(a b w:Option D):Ev:=[Wn (.ref wl),Wn (.int c),Wn (.ref m),a,b,w]
def Zre(H:Lw P)(n:Nat)(c:Int){h:Hd}{ns W:List Str}(h5:ns.length=5)(hm:h[m]? = Wn (.lst (ns.map .str)))(nw:∀x∈ns,NmW x)(hw:h[wl]? = Wn (.lst (W.map .str)))(hz:W.length<=10000)(gW:∀w∈W,Gw (ns++Zbn) w):
 ∃W' g k,run P (n+2) (O "_law_spoilt") [.ref wl,.int c,.ref m] h=.ok (.ref k) (h++g)/\(h++g)[k]? = Wn (.lst (W'.map .str))/\W'.length<=W.length+1/\(∀w∈W',Gw (ns++Zbn) w)/\dw W'<=2 * dw W+1:=by
 rw[Zg H.law_spoilt rfl];obtain⟨k,hk,ek⟩:∃k:Nat,k<W.length+1/\c / 4 % ((W.length:Int)+1)=k:=⟨(c / 4 % ((W.length:Int)+1)).toNat,by have:=Int.emod_lt_of_pos (c / 4) (show(0:Int)<(W.length:Int)+1 by lia);have:=Int.emod_nonneg (c / 4) (show(W.length:Int)+1≠0 by lia);lia,by have:=Int.emod_nonneg (c / 4) (show(W.length:Int)+1≠0 by lia);lia⟩
 have x1:xs1 (P.tbl (n+1)) Zdw (vs6 wl m c Wo Wo Wo) h=.ok (.nx,vs6 wl m c (Wn (.int k)) Wo Wo) h:=Zn (i:=3) ((Zc ((Zc rfl rfl).trans (ZT (by decide))) ((Zc (ZZ (Zd rfl rfl) (ZcM hw)) rfl).trans rfl)).trans ((ZC (by rw[Ys];lia)).trans (by rw[Ys,ek])));obtain⟨w,g1,e1,gw⟩:=Zy8 H n (c / 2400) h5 hm nw;have x2:xs1 (P.tbl (n+1)) Zdv (vs6 wl m c (Wn (.int k)) Wo Wo) h=.ok (.nx,vs6 wl m c (Wn (.int k)) (Wn (.str w)) Wo) (h++g1):=Zn (i:=4) (Zj e1 (Zd ((Zc rfl rfl).trans (ZT (by decide))) rfl));have x3:xs1 (P.tbl (n+1)) Zdu (vs6 wl m c (Wn (.int k)) (Wn (.str w)) Wo) (h++g1)=.ok (.nx,vs6 wl m c (Wn (.int k)) (Wn (.str w)) (Wn (.int (c % 4)))) (h++g1):=Zn (i:=5) ((Zc rfl rfl).trans (ZC (by decide)));have hw1:(h++g1)[wl]? = Wn (.lst (W.map .str)):=ZB hw;have q:∀z:Int,tst (P.tbl (n+1)) (.ex (.cmp .Eq (.var 5) (.cst (.int z)))) (vs6 wl m c (Wn (.int k)) (Wn (.str w)) (Wn (.int (c % 4)))) (h++g1)=.ok (Wr (c % 4=z)) (h++g1):=λz=>Ze2 rfl rfl;have sA:EvL (P.tbl (n+1)) (.sl (.var 0) Wo (Wn (.var 3))) (vs6 wl m c (Wn (.int k)) (Wn (.str w)) (Wn (.int (c % 4)))) (h++g1) (W.take k):=EvL.sl (λ_=>rfl) hw1 (λ_=>rfl) (λ_=>rfl) ((Zlz _ k).trans (List.map_take ..).symm);have sB:EvL (P.tbl (n+1)) (.sl (.var 0) (Wn (.var 3)) Wo) (vs6 wl m c (Wn (.int k)) (Wn (.str w)) (Wn (.int (c % 4)))) (h++g1) (W.drop k):=EvL.sl (λ_=>rfl) hw1 (λ_=>rfl) (λ_=>rfl) ((ZlA _ k).trans (List.map_drop ..).symm);have sC:EvL (P.tbl (n+1)) (.sl (.var 0) (Wn (.bin .Add (.var 3) (.ci 1))) Wo) (vs6 wl m c (Wn (.int k)) (Wn (.str w)) (Wn (.int (c % 4)))) (h++g1) (W.drop (k+1)):=EvL.sl (l:=Wn ((k+1:Nat):Int)) (λ_=>rfl) hw1 (λ_=>rfl) (λ_=>rfl) ((ZlA _ (k+1)).trans (List.map_drop ..).symm);have sD:EvL (P.tbl (n+1)) (.sl (.var 0) (Wn (.var 3)) (Wn (.bin .Add (.var 3) (.ci 1)))) (vs6 wl m c (Wn (.int k)) (Wn (.str w)) (Wn (.int (c % 4)))) (h++g1) ((W.drop k).take 1):=EvL.sl (l:=Wn (k:Int)) (u:=Wn ((k+1:Nat):Int)) (λ_=>rfl) hw1 (λ_=>rfl) (λ_=>rfl) ((ZuP _ k).trans (by rw[List.map_take,List.map_drop]));have sO:EvL (P.tbl (n+1)) (.lstl (.cons (.var 4) .nil)) (vs6 wl m c (Wn (.int k)) (Wn (.str w)) (Wn (.int (c % 4)))) (h++g1) [w]:=EvL.one λ_=>rfl;have lA:(W.take k).length<=W.length:=by rw[List.length_take];lia
 have lB:(W.drop k).length<=W.length:=by rw[List.length_drop];lia
 have lC:(W.drop (k+1)).length<=W.length:=by rw[List.length_drop];lia
 have l1:((W.drop k).take 1).length<=1:=by rw[List.length_take];lia
 have lAB:(W.take k).length+(W.drop k).length=W.length:=by rw[List.length_take,List.length_drop];lia
 have lAC:(W.take k).length+(W.drop (k+1)).length<=W.length:=by rw[List.length_take,List.length_drop];lia
 have ab:W.take k++W.drop k=W:=List.take_append_drop ..;have dc:W.drop (k+1)=(W.drop k).drop 1:=by rw[List.drop_drop]
 have tk:(W.drop k).take 1=[]\/∃x,(W.drop k).take 1=[x]:=by
  cases W.drop k with
  |nil=>exact .inl rfl
  |cons x r=>exact .inr ⟨x,rfl⟩
 have gA:∀x∈W.take k,Gw (ns++Zbn) x:=λx hx=>gW x (List.mem_of_mem_take hx);have gB:∀x∈W.drop k,Gw (ns++Zbn) x:=λx hx=>gW x (List.mem_of_mem_drop hx);have gC:∀x∈W.drop (k+1),Gw (ns++Zbn) x:=λx hx=>gW x (List.mem_of_mem_drop hx);have gD:∀x∈(W.drop k).take 1,Gw (ns++Zbn) x:=λx hx=>gB x (List.mem_of_mem_take hx);have gO:∀x∈[w],Gw (ns++Zbn) x:=λx hx=>by rw[Ox.mp hx];exact gw
 have gj:∀{X Y:List Str},(∀x∈X,Gw (ns++Zbn) x)->(∀x∈Y,Gw (ns++Zbn) x)->∀x∈X++Y,Gw (ns++Zbn) x:=λa b x hx=>by
  rcases OD.mp hx with q|q
  . exact a x q
  . exact b x q
 have fin:∀(e:Ex) (X:List Str),EvL (P.tbl (n+1)) e (vs6 wl m c (Wn (.int k)) (Wn (.str w)) (Wn (.int (c % 4)))) (h++g1) X->(∀(g:Hd) (r:Nat),xs1 (P.tbl (n+1)) (.ret e) (vs6 wl m c (Wn (.int k)) (Wn (.str w)) (Wn (.int (c % 4)))) (h++g1)=.ok (.rt (.ref r),vs6 wl m c (Wn (.int k)) (Wn (.str w)) (Wn (.int (c % 4)))) (h++g1++g)->xs2 (P.tbl (n+1)) (.cons Zdt (.cons Zds (.cons Zdr (.cons Zdq .nil)))) (vs6 wl m c (Wn (.int k)) (Wn (.str w)) (Wn (.int (c % 4)))) (h++g1)=.ok (.rt (.ref r),vs6 wl m c (Wn (.int k)) (Wn (.str w)) (Wn (.int (c % 4)))) (h++g1++g))->X.length<=W.length+1->(∀w∈X,Gw (ns++Zbn) w)->dw X<=2 * dw W+1->∃W' g k,Ze (xs2 (P.tbl (n+1)) Zf2 (vs6 wl m c Wo Wo Wo) h)=.ok (.ref k) (h++g)/\(h++g)[k]? = Wn (.lst (W'.map .str))/\W'.length<=W.length+1/\(∀w∈W',Gw (ns++Zbn) w)/\dw W'<=2 * dw W+1:=λe X a b c1 c2 c3=>by obtain⟨g,r,e1,e2⟩:=a.ret;rw[Oz]at e2;refine⟨X,g1++g,r,?_,e2,c1,c2,c3⟩;have w:=(Za x1).trans ((Za x2).trans ((Za x3).trans (b g r e1)));rw[<- Oz];exact congrArg Ze w
 have four:c % 4=0\/c % 4=1\/c % 4=2\/c % 4=3:=by lia
 rcases four with z|z|z|z
 . exact fin _ _ (sA.add sC (by lia)) (λg r e=>Zb ((Zt (Zr (q 0) (decide_eq_true z))).trans (Zb e))) (by rw[OA];lia) (gj gA gC) (by rw[dc];exact Zlw _ _ [] ab (.inl rfl) 1)
 . exact fin _ _ ((sA.add sD (by lia)).add sB (by rw[OA];lia)) (λg r e=>(Za ((Zi (Zr (q 0) (decide_eq_false (by lia)))).trans rfl)).trans (Zb ((Zt (Zr (q 1) (decide_eq_true z))).trans (Zb e)))) (by rw[OA,OA];lia) (gj (gj gA gD) gB) (by rw[Oz];exact Zlw _ _ _ ab tk 0)
 . exact fin _ _ ((sA.add sO (by simp;lia)).add sC (by rw[OA];simp;lia)) (λg r e=>(Za ((Zi (Zr (q 0) (decide_eq_false (by lia)))).trans rfl)).trans ((Za ((Zi (Zr (q 1) (decide_eq_false (by lia)))).trans rfl)).trans (Zb ((Zt (Zr (q 2) (decide_eq_true z))).trans (Zb e))))) (by rw[OA,OA];simp;lia) (gj (gj gA gO) gC) (by rw[Oz,dc];exact Zlw _ _ _ ab (.inr ⟨w,rfl⟩) 1)
 . exact fin _ _ ((sA.add sO (by simp;lia)).add sB (by rw[OA];simp;lia)) (λg r e=>(Za ((Zi (Zr (q 0) (decide_eq_false (by lia)))).trans rfl)).trans ((Za ((Zi (Zr (q 1) (decide_eq_false (by lia)))).trans rfl)).trans ((Za ((Zi (Zr (q 2) (decide_eq_false (by lia)))).trans rfl)).trans (Zb e)))) (by rw[OA,OA];simp;lia) (gj (gj gA gO) gB) (by rw[Oz];exact Zlw _ _ _ ab (.inr ⟨w,rfl⟩) 0)
def ZwD(H:Lw P){NS:List Str}(hw:O "w" ∈ NS):∀(k n:Nat) (s:Int) (h:Hd),s<2 ^ (k+1)->∃t,run P (n+k+1) (O "_law_wide") [.int s] h=.ok (T.d t) h/\Nm NS t/\dep t<=k:=by
 have lo:∀(k:Nat) (s:Int) (h:Hd),s<2->run P (k+1) (O "_law_wide") [.int s] h=.ok (T.num 7).d h:=λk s h hs=>by rw[Zg H.law_wide rfl];have w:xs2 (P.tbl k) ZcF [Wn (.int s)] h=.ok (.rt (T.num 7).d,[Wn (.int s)]) h:=Zb ((Zt (Zr (Zp7 rfl rfl) (decide_eq_true hs))).trans (Zb (Zh (Za1 (xs:=[_,_]) rfl (show 2<=1000 by decide)))));exact congrArg Ze w
 intro k;induction k with
 |zero=>exact λn s h hs=>⟨.num 7,lo _ s h hs,⟨by decide,by decide⟩,Oq _⟩
 |succ k ih=>
  intro n s h hs;by_cases h2:s<2
  . exact⟨.num 7,lo _ s h h2,⟨by decide,by decide⟩,Yv _⟩
  . have x1:xs1 (P.tbl (n+(k+1))) ZfY [Wn (.int s)] h=.ok (.nx,[Wn (.int s)]) h:=(Zi (Zr (Zp7 rfl rfl) (decide_eq_false h2))).trans rfl;have t2:tst (P.tbl (n+(k+1))) ZfT [Wn (.int s)] h=.ok (Wr (s=2)) h:=Ze2 rfl rfl;by_cases e2:s=2
    . refine⟨.fn (O "w") (.num 0),?_,⟨hw,by decide,by decide⟩,by simp only[dep];lia⟩;rw[Zg H.law_wide rfl];have w:xs2 (P.tbl (n+(k+1))) ZcF [Wn (.int s)] h=.ok (.rt (T.fn (O "w") (.num 0)).d,[Wn (.int s)]) h:=(Za x1).trans (Zb ((Zt (Zr t2 (decide_eq_true e2))).trans (Zb (Zh (Za1 (xs:=[_,_,_]) (Zd rfl (Zd rfl (Zd (Za1 (xs:=[_,_]) rfl (show 2<=1000 by decide)) rfl))) (show 3<=1000 by decide))))));exact congrArg Ze w
    . rw[Int.pow_succ]at hs;obtain⟨t1,q1,n1,d1⟩:=ih n ((s - 1) / 2) h (by lia);obtain⟨u1,q2,n2,d2⟩:=ih n (s - 1 - (s - 1) / 2) h (by lia);refine⟨.op .add t1 u1,?_,⟨n1,n2⟩,by simp only[dep];lia⟩;rw[Zg H.law_wide rfl];have s1:∀h,ev (P.tbl (n+(k+1))) (.bin .Sub (.var 0) (.ci 1)) [Wn (.int s)] h=.ok (.int (s - 1)) h:=λh=>(Zc rfl rfl).trans rfl;have s2:∀h,ev (P.tbl (n+(k+1))) (.bin .FloorDiv (.bin .Sub (.var 0) (.ci 1)) (.ci 2)) [Wn (.int s)] h=.ok (.int ((s - 1) / 2)) h:=λh=>(Zc (s1 h) rfl).trans (ZT (by decide));have w:xs2 (P.tbl (n+(k+1))) ZcF [Wn (.int s)] h=.ok (.rt (T.op .add t1 u1).d,[Wn (.int s)]) h:=(Za x1).trans ((Za ((Zi (Zr t2 (decide_eq_false e2))).trans rfl)).trans (Zb (Zh (Za1 (xs:=[_,_,_]) (Zd rfl (Zd (Zj q1 (Zd (s2 h) rfl)) (Zd (Zj q2 (Zd ((Zc (s1 h) (s2 h)).trans rfl) rfl)) rfl))) (show 3<=1000 by decide)))));exact congrArg Ze w
end
end K04L
namespace K04L
open PySem L2 IV Tm Fr
open K03L (Ok4 ws ow Zz dg ZB ZL Zv Wdb Zc6 Zft)
open Gn (dep Zf Up)
section
variable {P:Pg}
def Z1(t:T):(ws t).length=(ow t).length+(t.parts.map λs=>(ws s).length).sum:=by
 rw[Zz,OA];congr 1;induction t.parts with
 |nil=>rfl
 |cons s l ih=>rw[List.flatMap_cons,OA,ih,Op,OI]
theorem Zbs:∀(d:Nat) (t:T),dep t<=d->2 * (ws t).length+1<=3 ^ (d+1)
 |d,.num _,_=>by have:3 ^ 1<=3 ^ (d+1):=Nat.pow_le_pow_right (by decide) (by lia);rw[Z1];simp[ow,T.parts];lia
 |d,.name _,_=>by have:3 ^ 1<=3 ^ (d+1):=Nat.pow_le_pow_right (by decide) (by lia);rw[Z1];simp[ow,T.parts];lia
 |0,.fn x e,h=>by simp[dep]at h
 |0,.rcc f x e,h=>by simp[dep]at h
 |0,.call f e,h=>by simp[dep]at h
 |0,.iff c x e,h=>by simp[dep]at h
 |0,.op c x e,h=>by simp[dep]at h
 |d+1,.fn x e,h=>by have:=Zbs d e (by simp[dep]at h;lia);have:3 ^ 1<=3 ^ (d+1):=Nat.pow_le_pow_right (by decide) (by lia);rw[Z1,Nat.pow_succ];simp[ow,T.parts];lia
 |d+1,.rcc f x e,h=>by have:=Zbs d e (by simp[dep]at h;lia);have:3 ^ 1<=3 ^ (d+1):=Nat.pow_le_pow_right (by decide) (by lia);rw[Z1,Nat.pow_succ];simp[ow,T.parts];lia
 |d+1,.call f a,h=>by have:=Zbs d f (by simp[dep]at h;lia);have:=Zbs d a (by simp[dep]at h;lia);rw[Z1,Nat.pow_succ];simp[ow,T.parts];lia
 |d+1,.op w f a,h=>by have:=Zbs d f (by simp[dep]at h;lia);have:=Zbs d a (by simp[dep]at h;lia);rw[Z1,Nat.pow_succ];simp[ow,T.parts];lia
 |d+1,.iff c f a,h=>by have:=Zbs d c (by simp[dep]at h;lia);have:=Zbs d f (by simp[dep]at h;lia);have:=Zbs d a (by simp[dep]at h;lia);rw[Z1,Nat.pow_succ];simp[ow,T.parts];lia
theorem ZaR{ns NS:List Str}(hs:∀x∈ns,x∈NS):∀{t:T},Nm ns t->Nm NS t
 |.num _,n=>n
 |.name x,n=>hs x n
 |.fn x e,n=>⟨hs x n.1,ZaR hs n.2⟩
 |.rcc f x e,n=>⟨hs f n.1,hs x n.2.1,ZaR hs n.2.2⟩
 |.call f a,n=>⟨ZaR hs n.1,ZaR hs n.2⟩
 |.iff c a b,n=>⟨ZaR hs n.1,ZaR hs n.2.1,ZaR hs n.2.2⟩
 |.op w a b,n=>⟨ZaR hs n.1,ZaR hs n.2⟩
theorem Zbx{NS:List Str}(hs:∀x∈NS,NmW x):∀{t:T},Nm NS t->Ok4 t
 |.num _,n=>n
 |.name x,n=>hs x n
 |.fn x e,n=>⟨hs x n.1,Zbx hs n.2⟩
 |.rcc f x e,n=>⟨hs f n.1,hs x n.2.1,Zbx hs n.2.2⟩
 |.call f a,n=>⟨Zbx hs n.1,Zbx hs n.2⟩
 |.iff c a b,n=>⟨Zbx hs n.1,Zbx hs n.2.1,Zbx hs n.2.2⟩
 |.op w a b,n=>⟨Zbx hs n.1,Zbx hs n.2⟩
def ZzT:∀k∈["fn", "rec", "call", "if", "+", "-", "*", "<"],isNm (Str.ofString k)=Wq:=by decide +kernel
def Zzu{NS:List Str}{t:T}(n:Nm NS t):∀w∈ow t,NmW w->w∈NS:=by
 have kw:∀k∈["fn", "rec", "call", "if", "+", "-", "*", "<"],NmW (Str.ofString k)->Str.ofString k∈NS:=λk hk n=>by have:=Z6.mpr n;rw[ZzT k hk]at this;cases this
 cases t with
 |num z=>
  intro w hw n';rw[Ox.mp hw]at n';obtain⟨m,rfl⟩:∃m:Nat,z=m:=⟨z.toNat,by have:=n.1;lia⟩
  have:=Zkz n';rw[ZrU m (by have:=n.2;lia)]at this;cases this
 |name x=>intro w hw _;rw[Ox.mp hw];exact n
 |fn x e=>intro w hw;simp[ow]at hw;rcases hw with rfl|rfl;exact kw _ (by simp);exact λ_=>n.1
 |rcc f x e=>intro w hw;simp[ow]at hw;rcases hw with rfl|rfl|rfl;exact kw _ (by simp);exact λ_=>n.1;exact λ_=>n.2.1
 |call f e=>intro w hw;simp[ow]at hw;rw[hw];exact kw _ (by simp)
 |iff c f e=>intro w hw;simp[ow]at hw;rw[hw];exact kw _ (by simp)
 |op v f e=>intro w hw;simp[ow]at hw;rw[hw];cases v<;>exact kw _ (by simp)
theorem Zar{NS:List Str}:∀{t:T},Nm NS t->∀s∈t.places,Nm NS s
 |.num _,n,s,h=>by rw[Ox.mp h];exact n
 |.name _,n,s,h=>by rw[Ox.mp h];exact n
 |.fn x e,n,s,h=>by rcases O2.mp h with rfl|h;exact n;exact Zar n.2 s h
 |.rcc f x e,n,s,h=>by rcases O2.mp h with rfl|h;exact n;exact Zar n.2.2 s h
 |.call f a,n,s,h=>by
  rcases O2.mp h with rfl|h
  . exact n
  . rcases OD.mp h with h|h;exact Zar n.1 s h;exact Zar n.2 s h
 |.iff c a b,n,s,h=>by
  rcases O2.mp h with rfl|h
  . exact n
  . rcases OD.mp h with h|h
    . exact Zar n.1 s h
    . rcases OD.mp h with h|h;exact Zar n.2.1 s h;exact Zar n.2.2 s h
 |.op w f a,n,s,h=>by
  rcases O2.mp h with rfl|h
  . exact n
  . rcases OD.mp h with h|h;exact Zar n.1 s h;exact Zar n.2 s h
def Zyx{NS:List Str}{t:T}(hs:∀x∈NS,NmW x)(n:Nm NS t):∀w∈ws t,Gw NS w:=λw hw=>by obtain⟨s,hp,hw'⟩:=List.mem_flatMap.mp hw;have:=K03L.Zvi (Zbx hs n) w hw;exact⟨K03L.Zyz this,λq=>(this.1 32 q).2 rfl,Zzu (Zar n s hp) w hw'⟩
structure Bt(NS:List Str)(d l:Nat)(t:T):Prop where
 n:Nm NS t
 d:dep t<=d
 l:(ws t).length<=l
noncomputable def vt(i m:Nat)(t c a k w z:Option D):Ev:=[Wn (.ref i),Wn (.ref m),t,c,a,k,w,z]
theorem ZzQ{U:Tb}{NS:List Str}(hm:h[m]? = Wn (.lst L)):∀(xs:List Str) (t:T) (d l:Nat) (o:Option D),(∀x∈xs,x∈NS)->Bt NS d l t->∃u o',ZH [(m,L)] (.nm 4) (xs2 U Zcm) (xs.map .str) (vt i m (Wn t.d) c o k w z) h=.ok (.nx,vt i m (Wn (T.d u)) c o' k w z) h/\Bt NS (d+xs.length) (l+2 * xs.length) u
 |[],t,d,l,o,_,b=>⟨t,o,ZfL hm,b⟩
 |x::xs,t,d,l,o,hx,b=>by
  obtain⟨u,o',e,b'⟩:=ZzQ (U:=U) (NS:=NS) (i:=i) (c:=c) (k:=k) (w:=w) (z:=z) hm xs (.fn x t) (d+1) (l+2) (Wn (.str x)) (λy hy=>hx y (.tail _ hy)) ⟨⟨hx x (.head _),b.n⟩,by have:=b.d;simp only[dep];lia,by have:=b.l;rw[Z1];simp[ow,T.parts];lia⟩;refine⟨u,o',(ZgG hm (ρ1:=vt i m (Wn t.d) c (Wn (.str x)) k w z) rfl ((Za (Zn (i:=2) (Za1 (xs:=[_,_,_]) rfl (show 3<=1000 by decide)))).trans rfl)).trans e,b'.n,?_,?_⟩
  . have:=b'.d;rw[Os];lia
  . have:=b'.l;rw[Os];lia
theorem ZzS{U:Tb}{ns NS:List Str}(h5:ns.length=5)(hm:h[m]? = Wn (.lst (ns.map .str)))(hN:∀x∈ns,x∈NS):∀(ks:List Int) (t:T) (d l:Nat) (o:Option D),Bt NS d l t->∃u o',ZH [] (.nm 5) (xs2 U Zcl) (ks.map .int) (vt i m (Wn t.d) c a o w z) h=.ok (.nx,vt i m (Wn (T.d u)) c a o' w z) h/\Bt NS (d+ks.length) (l+2 * ks.length) u
 |[],t,d,l,o,b=>⟨t,o,rfl,b⟩
 |q::ks,t,d,l,o,b=>by
  obtain⟨x,hx,e0⟩:=ZoI (U:=U) (S:=vt i m (Wn t.d) c a (Wn (.int q)) w z) (h:=h) (a:=.var 1) (e:=.var 5) (z:=q) h5 hm rfl rfl;obtain⟨u,o',e,b'⟩:=ZzS (U:=U) (NS:=NS) (i:=i) (c:=c) (a:=a) (w:=w) (z:=z) h5 hm hN ks (.fn x t) (d+1) (l+2) (Wn (.int q)) ⟨⟨hN x hx,b.n⟩,by have:=b.d;simp only[dep];lia,by have:=b.l;rw[Z1];simp[ow,T.parts];lia⟩;refine⟨u,o',(Zca (ρ1:=vt i m (Wn t.d) c a (Wn (.int q)) w z) rfl ((Za (Zn (i:=2) (Za1 (xs:=[_,_,_]) (Zd rfl (Zd e0 rfl)) (show 3<=1000 by decide)))).trans rfl)).trans e,b'.n,?_,?_⟩
  . have:=b'.d;rw[Os];lia
  . have:=b'.l;rw[Os];lia
theorem ZzR(H:Lw P)(n:Nat){ns:List Str}(h5:ns.length=5)(nw:∀x∈ns,NmW x):∀(ks:List Int) (W:List Str) (h:Hd) (wl:Nat) (o:Option D) (B_:Nat),(∀k∈ks,0<=k/\k<1000)->h[m]? = Wn (.lst (ns.map .str))->h[wl]? = Wn (.lst (W.map .str))->W.length+ks.length<=9000->(∀w∈W,Gw (ns++Zbn) w)->dw W+1<=B_ ->
 ∃W' g wl' o',ZH [] (.nm 5) (xs2 (P.tbl (n+2)) Zea) (ks.map .int) (vt i m t (Wn (.int c)) a o (Wn (.ref wl)) z) h=.ok (.nx,vt i m t (Wn (.int c)) a o' (Wn (.ref wl')) z) (h++g)/\(h++g)[wl']? = Wn (.lst (W'.map .str))/\W'.length<=W.length+ks.length/\(∀w∈W',Gw (ns++Zbn) w)/\dw W'+1<=B_ * 2 ^ ks.length
 |[],W,h,wl,o,B_,_,_,hw,_,gW,hB=>⟨W,[],wl,o,by simp,by rw[Yr];exact hw,by simp,gW,by simpa using hB⟩
 |k::ks,W,h,wl,o,B_,hk,hm,hw,hz,gW,hB=>by
  rw[Os]at hz;have e1:=Zij H.m (n+1) c k h (hk k (.head _));obtain⟨W1,g1,w1,e2,i2,l2,G2,d2⟩:=Zre H n (mix c k) h5 hm nw hw (by lia) gW;obtain⟨W',g2,wl',o',e3,i3,l3,G3,d3⟩:=ZzR H n (i:=i) (t:=t) (c:=c) (a:=a) (z:=z) h5 nw ks W1 (h++g1) w1 (Wn (.int k)) (2 * B_) (λx hx=>hk x (.tail _ hx)) (ZB hm) i2 (by lia) G2 (by lia);rw[Oz]at e3 i3;refine⟨W',g1++g2,wl',o',(Zca (ρ1:=vt i m t (Wn (.int c)) a (Wn (.int k)) (Wn (.ref wl)) z) rfl ((Za (Zn (i:=6) (Zj e2 (Zd rfl (Zd (Zj e1 rfl) (Zd rfl rfl)))))).trans rfl)).trans e3,i3,by rw[Os];lia,G3,?_⟩;rw[Os,Nat.pow_succ];have:B_ * (2 ^ ks.length * 2)=2 * B_ * 2 ^ ks.length:=by rw[Nat.mul_comm (2 ^ ks.length) 2,<- Nat.mul_assoc,Nat.mul_comm B_ 2]
  rw[this];exact d3
def Zvx{U:Tb}{e:Ex}(k:Nat)(hk:k<=1000)(p:ev U e S h=.ok (.int (k:Int)) h1):evi U (.rng e) S h=.ok ⟨[],((List.range k).map λ(i:Nat)=>(i:Int)).map .int⟩ h1:=by rw[Zo7,p,Zk];show(if Zau (k:Int)=Wp then R.ok (⟨[],ZM 0 (k:Int).toNat⟩:Wk) h1 else .bad)=_;rw[if_pos (by simp only[Zau,Oa,decide_eq_true_eq];lia),Int.toNat_natCast];congr 2;unfold ZM;rw[List.map_map];exact List.map_congr_left λi _=>by show D.int (0+(i:Int))=D.int (i:Int);rw[Int.zero_add]
def Zyu:∀w∈Zbn,isNm w=Wp:=by decide +kernel
def Zhm{j:Int}{k:Int}(hj:0<j/\j<1073741824)(hk:0<k){U:Tb}{e:Ex}(p:∀h,ev U e S h=.ok (.int c) h)(h:Hd):ev U (.bin .Mod (.bin .FloorDiv e (.cst (.int j))) (.cst (.int k))) S h=.ok (.int (c / j % k)) h:=(Zc ((Zc (p h) rfl).trans (ZT hj)) rfl).trans (ZC hk)
inductive Bs(U:Tb)(s:Sx)(i m:Nat)(t:T)(c:Int)(a k:Option D)(h:Hd)(NS:List Str)(d l:Nat):Prop
 |mk (u:T) (a' k':Option D) (g:Hd) (e:xs1 U s (vt i m (Wn t.d) (Wn (.int c)) a k Wo Wo) h=.ok (.nx,vt i m (Wn u.d) (Wn (.int c)) a' k' Wo Wo) (h++g)) (b:Bt NS d l u)
def b3(b:Bt NS 6 1093 t){U:Tb}{c:Int}:Bs U ZeU i m t c a k h NS 8 3281:=by
 have tt:tst U Zer (vt i m (Wn t.d) (Wn (.int c)) a k Wo Wo) h=.ok (Wr (c % 6=1)) h:=Ze2 ((Zc rfl rfl).trans (ZC (by decide))) rfl;by_cases q:c % 6=1
 . obtain⟨u,eu,bu⟩:∃u,atI [t.d,(T.num 1).d] (c / 6 % 2)=Wn (T.d u)/\Bt NS 6 1093 u:=by
    have:c / 6 % 2=0\/c / 6 % 2=1:=by lia
    rcases this with z|z
    . rw[z];exact⟨t,rfl,b⟩
    . rw[z];exact⟨.num 1,rfl,⟨by decide,by decide⟩,Yv _,by rw[Z1];simp[ow,T.parts]⟩
   refine⟨.op .add t (.call t u),a,k,[.lst [t.d,(T.num 1).d]],(Zt (Zr tt (decide_eq_true q))).trans ((Za (Zn (i:=2) (Za1 (xs:=[_,_,_]) (Zd rfl (Zd rfl (Zd (Za1 (xs:=[_,_,_]) (Zd rfl (Zd rfl (Zd (ZhA (xs:=[t.d,(T.num 1).d]) (z:=c / 6 % 2) eu (Zd rfl (Zd (Za1 (xs:=[_,_]) rfl (show 2<=1000 by decide)) rfl)) (Zhm (by decide) (by decide) (λ_=>rfl) _) (show 2<=1000 by decide)) rfl))) (show 3<=1000 by decide)) rfl))) (show 3<=1000 by decide)))).trans rfl),⟨⟨b.n,b.n,bu.n⟩,?_,?_⟩⟩
   . have:=b.d;have:=bu.d;simp only[dep];lia
   . have:=b.l;have:=bu.l;rw[Z1];simp only[T.parts,Op,Oy,OI,List.sum_nil];rw[Z1 (.call t u)];simp[ow,T.parts];lia
 . exact⟨t,a,k,[],by rw[Yr];exact(Zi (Zr tt (decide_eq_false q))).trans rfl,b.n,by have:=b.d;lia,by have:=b.l;lia⟩
def b4(b:Bt NS 8 3281 t){U:Tb}{c:Int}{ns:List Str}(h5:ns.length=5)(hm:h[m]? = Wn (.lst (ns.map .str)))(hN:∀x∈ns,x∈NS):Bs U ZeT i m t c a k h NS 13 3291:=by
 have tt:tst U Zeq (vt i m (Wn t.d) (Wn (.int c)) a k Wo Wo) h=.ok (Wr (0<c / 12 % 4)) h:=ZnI (Zhm (by decide) (by decide) (λ_=>rfl) _) rfl;by_cases q:0<c / 12 % 4
 . obtain⟨u,o',e,b'⟩:=ZzQ (U:=U) (NS:=NS) (i:=i) (c:=Wn (.int c)) (k:=k) (w:=Wo) (z:=Wo) hm ns t 8 3281 a hN b;rw[h5]at b';exact⟨u,o',k,[],by rw[Yr];exact(Zt (Zr tt (decide_eq_true q))).trans ((Za ((Zax (Zjf (i:=m) rfl hm)).trans e)).trans rfl),b'⟩
 . exact⟨t,a,k,[],by rw[Yr];exact(Zi (Zr tt (decide_eq_false q))).trans rfl,b.n,by have:=b.d;lia,by have:=b.l;lia⟩
def b5(b:Bt NS 13 3291 t){U:Tb}{c:Int}{ns:List Str}(h5:ns.length=5)(hm:h[m]? = Wn (.lst (ns.map .str)))(hN:∀x∈ns,x∈NS):Bs U ZeS i m t c a k h NS 29 3323:=by
 have tt:tst U Zep (vt i m (Wn t.d) (Wn (.int c)) a k Wo Wo) h=.ok (Wr (c / 48 % 4=1)) h:=Ze2 (Zhm (by decide) (by decide) (λ_=>rfl) _) rfl;by_cases q:c / 48 % 4=1
 . obtain⟨z,hz,ez⟩:∃z:Nat,z<=16/\11+c / 192 % 6=z:=⟨(11+c / 192 % 6).toNat,by lia,by lia⟩
   obtain⟨u,o',e,b'⟩:=ZzS (U:=U) (NS:=NS) (i:=i) (c:=Wn (.int c)) (a:=a) (w:=Wo) (z:=Wo) h5 hm hN ((List.range z).map λ(i:Nat)=>(i:Int)) t 13 3291 k b;simp only[Ys,List.length_range]at b';exact⟨u,a,o',[],by rw[Yr];exact(Zt (Zr tt (decide_eq_true q))).trans ((Za ((Zax (Zvx z (by lia) ((Zc rfl (Zhm (by decide) (by decide) (λ_=>rfl) _)).trans (show _=R.ok (D.int (z:Int)) h by rw[<- ez];rfl)))).trans e)).trans rfl),b'.n,by have:=b'.d;lia,by have:=b'.l;lia⟩
 . exact⟨t,a,k,[],by rw[Yr];exact(Zi (Zr tt (decide_eq_false q))).trans rfl,b.n,by have:=b.d;lia,by have:=b.l;lia⟩
def b6(H:Lw P)(b:Bt NS 29 3323 t){c:Int}(hw:O "w" ∈ NS):Bs (P.tbl 299) ZeR i m t c a k h NS 30 4420:=by
 have t1:tst (P.tbl 299) (.ex (.cmp .Eq (.bin .Mod (.bin .FloorDiv (.var 3) (.ci 5)) (.ci 5)) (.ci 1))) (vt i m (Wn t.d) (Wn (.int c)) a k Wo Wo) h=.ok (Wr (c / 5 % 5=1)) h:=Ze2 (Zhm (by decide) (by decide) (λ_=>rfl) _) rfl;by_cases q:c / 5 % 5=1
 . obtain⟨g1,e1⟩:=Zc6 H.w 29 269 t h b.d;have t2:tst (P.tbl 299) (.ex (.cmp .Lt (.call (O "_law_size") (.cons (.var 2) .nil)) (.ci 90))) (vt i m (Wn t.d) (Wn (.int c)) a k Wo Wo) h=.ok (Wr ((t.size:Int)<90)) (h++g1):=Zp7 (Zj e1 rfl) rfl;have tt:=ZkW (Zr t1 (decide_eq_true q)) t2;by_cases z:(t.size:Int)<90
   . obtain⟨g2,e2⟩:=Zc6 H.w 29 269 t (h++g1) b.d;obtain⟨u,e3,n3,d3⟩:=ZwD H hw 6 292 (98+c / 25 % 4 - t.size) (h++g1++g2) (by lia);have w3:=Zbs 6 u d3;have ar:ev (P.tbl 299) (.bin .Sub (.bin .Add (.ci 98) (.bin .Mod (.bin .FloorDiv (.var 3) (.ci 25)) (.ci 4))) (.call (O "_law_size") (.cons (.var 2) .nil))) (vt i m (Wn t.d) (Wn (.int c)) a k Wo Wo) (h++g1)=.ok (.int (98+c / 25 % 4 - t.size)) (h++g1++g2):=(Zc ((Zc rfl (Zhm (by decide) (by decide) (λ_=>rfl) _)).trans rfl) (Zj e2 rfl)).trans rfl;refine⟨.op .add t u,a,k,g1++g2,?_,⟨b.n,n3⟩,?_,?_⟩
     . rw[<- Oz];exact(Zt (Zr tt (decide_eq_true z))).trans ((Za (Zn (i:=2) (Za1 (xs:=[_,_,_]) (Zd rfl (Zd rfl (Zd (Zj e3 (Zd ar rfl)) rfl))) (show 3<=1000 by decide)))).trans rfl)
     . have:=b.d;simp only[dep];lia
     . have:=b.l;rw[Z1];simp[ow,T.parts];lia
   . exact⟨t,a,k,g1,(Zi (Zr tt (decide_eq_false z))).trans rfl,b.n,by have:=b.d;lia,by have:=b.l;lia⟩
 . exact⟨t,a,k,[],by rw[Yr];exact(Zi (Zm5 (Zr t1 (decide_eq_false q)))).trans rfl,b.n,by have:=b.d;lia,by have:=b.l;lia⟩
inductive Blt(ns:List Str)(cs:List Int)(i j:Nat)(h:Hd)(a:Nat)(x:R D):Prop
 |mk (W:List Str) (h':Hd) (a' r:Nat) (e:x=.ok (.ref r) h') (u:Up i h h') (s:St2 h' i j cs a') (l:a<a') (hw:h'[r]? = Wn (.lst (W.map .str))) (g:∀w∈W,Gw (ns++Zbn) w) (z:W.length<=4424) (d:∀t,ZbT W=Wn t->dep t<=247)
theorem Ztx (H:Lw P) {ns:List Str} (h5:ns.length=5) (nw:∀ x∈ns,NmW x) (im:m≠i) {h:Hd} (st:St2 h i j cs a) (hm:h[m]? = Wn (.lst (ns.map .str))):Blt ns cs i j h a (run P 300 (O "_law_built") [.ref i,.ref m] h):=by
 have nN:∀ x∈ns++Zbn,NmW x:=fun x hx=>by
   rcases OD.mp hx with q|q
   . exact nw x q
   . exact Z6.mp (Zyu x q)
 have hN:∀ x∈ns,x∈ns++Zbn:=fun x hx=>Yq _ hx;have wN:O "w" ∈ ns++Zbn:=Ov _ (.head _);rw [Zg (n:=299) H.law_built rfl];obtain ⟨t0,h1,a1,e1,u1,s1,l1,n1,d1⟩:=Zot H.m (cs:=cs) (j:=j) h5 im 6 291 h a 6 rfl st hm;obtain ⟨v,e2,s2⟩:=Zrg H.m 298 s1;have u2:Up i h (h1.set i (.lst [.ref j,.int ((a1+1:Nat):Int)])):=u1.trans Up.set;generalize h1.set i (.lst [.ref j,.int ((a1+1:Nat):Int)])=h2 at e2 s2 u2;have x1:xs1 (P.tbl 299) ZeW (vt i m Wo Wo Wo Wo Wo Wo) h=.ok (.nx,vt i m (Wn t0.d) Wo Wo Wo Wo Wo) h1:=Zn (i:=2) (Zj e1 rfl);have x2:xs1 (P.tbl 299) ZeV (vt i m (Wn t0.d) Wo Wo Wo Wo Wo) h1=.ok (.nx,vt i m (Wn t0.d) (Wn (.int (v+(cs.map D.int).length))) Wo Wo Wo Wo) h2:=Zn (i:=3) ((Zc (Zj e2 rfl) (ZZ (Zd ((ZK rfl rfl).trans ((ZN s2.1).trans rfl)) rfl) (ZcM s2.2.1))).trans rfl);generalize v+((cs.map D.int).length:Int)=c at x2;have m2:=u2.at hm im;have w0:=Zbs 6 t0 d1;obtain ⟨t1,p3,k3,g3,x3,bt3⟩:=b3 (U:=P.tbl 299) (i:=i) (m:=m) (c:=c) (a:=Wo) (k:=Wo) (h:=h2) (NS:=ns++Zbn) (t:=t0) ⟨ZaR hN n1,d1,by lia⟩;obtain ⟨t2,p4,k4,g4,x4,bt4⟩:=b4 (U:=P.tbl 299) (i:=i) (c:=c) (a:=p3) (k:=k3) bt3 h5 (ZB (g:=g3) m2) hN;obtain ⟨t3,p5,k5,g5,x5,bt5⟩:=b5 (U:=P.tbl 299) (i:=i) (c:=c) (a:=p4) (k:=k4) bt4 h5 (ZB (g:=g4) (ZB (g:=g3) m2)) hN;obtain ⟨t4,p6,k6,g6,x6,bt6⟩:=b6 H (i:=i) (m:=m) (c:=c) (a:=p5) (k:=k5) (h:=h2++g3++g4++g5) bt5 wN;have ok:=Zbx nN bt6.n;have sz:=Zof t4;have l6:=bt6.l;obtain ⟨g7,r7,e7,i7⟩:=Zft H.w 30 268 t4 (h2++g3++g4++g5++g6) bt6.d ok (by lia);have x7:xs1 (P.tbl 299) ZeQ (vt i m (Wn t4.d) (Wn (.int c)) p6 k6 Wo Wo) (h2++g3++g4++g5++g6)=.ok (.nx,vt i m (Wn t4.d) (Wn (.int c)) p6 k6 (Wn (.ref r7)) Wo) (h2++g3++g4++g5++g6++g7):=Zn (i:=6) (Zj e7 rfl);have d7:dw (ws t4)=dep t4:=ZsI ((ZfB t4).mpr ⟨rfl,ok⟩);have G7:=Zyx nN bt6.n;have m7:(h2++g3++g4++g5++g6++g7)[m]? = Wn (.lst (ns.map .str)):=ZB (ZB (ZB (ZB (ZB m2))));obtain ⟨z,hz,ez⟩:∃ z:Nat,z<=3/\atI [D.int 0,.int 1,.int 2,.int 0,.int 1,.int 3] (c / 1152 % 6)=Wn (.int (z:Int)):=by
   have:c / 1152 % 6=0\/c / 1152 % 6=1\/c / 1152 % 6=2\/c / 1152 % 6=3\/c / 1152 % 6=4\/c / 1152 % 6=5:=by lia
   rcases this with q|q|q|q|q|q<;>rw [q]
   . exact ⟨0,by decide,rfl⟩
   . exact ⟨1,by decide,rfl⟩
   . exact ⟨2,by decide,rfl⟩
   . exact ⟨0,by decide,rfl⟩
   . exact ⟨1,by decide,rfl⟩
   . exact ⟨3,by decide,rfl⟩
 generalize eh8:h2++g3++g4++g5++g6++g7=h7 at x7 m7 i7;obtain ⟨gg,hgg⟩:∃ gg,h7=h2++gg:=⟨_,by rw [<- eh8];simp only [Oz];rfl⟩
 obtain ⟨W8,g8,r8,k8,e8,i8,l8,G8,d8⟩:=ZzR H 297 (i:=i) (t:=Wn t4.d) (c:=c) (a:=p6) (z:=Wo) (m:=m) h5 nw ((List.range z).map fun (i:Nat)=>(i:Int)) (ws t4) (h7++[.lst [.int 0,.int 1,.int 2,.int 0,.int 1,.int 3]]) r7 k6 31 (fun k hk=>by
   obtain ⟨i,hi,rfl⟩:=List.mem_map.mp hk;have:=List.mem_range.mp hi
   lia) (ZB m7) (ZB i7) (by simp;lia) G7 (by have:=bt6.d;lia)
 simp only [Ys,List.length_range] at l8 d8;have x8:xs1 (P.tbl 299) ZeP (vt i m (Wn t4.d) (Wn (.int c)) p6 k6 (Wn (.ref r7)) Wo) h7=.ok (.nx,vt i m (Wn t4.d) (Wn (.int c)) p6 k8 (Wn (.ref r8)) Wo) (h7++[.lst [.int 0,.int 1,.int 2,.int 0,.int 1,.int 3]]++g8):=(Zax (Zvx z (by lia) (ZhA (xs:=[.int 0,.int 1,.int 2,.int 0,.int 1,.int 3]) (z:=c / 1152 % 6) ez rfl (Zhm (by decide) (by decide) (fun _=>rfl) _) (show 6<=1000 by decide)))).trans e8;have d9:dw W8<=247:=by
   have:31 * 2 ^ z<=31 * 2 ^ 3:=Nat.mul_le_mul_left _ (Nat.pow_le_pow_right (by decide) hz);have:(31:Nat) * 2 ^ 3=248:=rfl
   lia
 generalize eh9:h7++[DO.lst [.int 0,.int 1,.int 2,.int 0,.int 1,.int 3]]++g8=h8 at x8 i8;obtain ⟨g9,rfl⟩:∃ g9,h8=h2++g9:=⟨_,by rw [<- eh9,hgg];simp only [Oz];rfl⟩
 have t9:tst (P.tbl 299) Zeo (vt i m (Wn t4.d) (Wn (.int c)) p6 k8 (Wn (.ref r8)) Wo) (h2++g9)=.ok (Wr (c / 6912 % 12=5)) (h2++g9):=Ze2 (Zhm (by decide) (by decide) (fun _=>rfl) _) rfl;have xs:=(Za x1).trans ((Za x2).trans ((Za x3).trans ((Za x4).trans ((Za x5).trans ((Za x6).trans ((Za x7).trans (Za (r:=.cons ZeO (.cons ZdH .nil)) x8)))))));by_cases q:c / 6912 % 12=5
 . obtain ⟨k,hk,ek⟩:∃ k:Nat,k<W8.length+1/\c / 82944 % ((W8.length:Int)+1)=k:=⟨(c / 82944 % ((W8.length:Int)+1)).toNat,by have:=Int.emod_lt_of_pos (c / 82944) (show (0:Int)<(W8.length:Int)+1 by lia);have:=Int.emod_nonneg (c / 82944) (show (W8.length:Int)+1≠0 by lia);lia,by have:=Int.emod_nonneg (c / 82944) (show (W8.length:Int)+1≠0 by lia);lia⟩
   have y1:xs1 (P.tbl 299) Zct (vt i m (Wn t4.d) (Wn (.int c)) p6 k8 (Wn (.ref r8)) Wo) (h2++g9)=.ok (.nx,vt i m (Wn t4.d) (Wn (.int c)) p6 k8 (Wn (.ref r8)) (Wn (.int k))) (h2++g9):=Zn (i:=7) ((Zc ((Zc rfl rfl).trans (ZT (by decide))) ((Zc (ZZ (Zd rfl rfl) (ZcM i8)) rfl).trans rfl)).trans ((ZC (by rw [Ys];lia)).trans (by rw [Ys,ek])));have sA:EvL (P.tbl 299) (.sl (.var 6) Wo (Wn (.var 7))) (vt i m (Wn t4.d) (Wn (.int c)) p6 k8 (Wn (.ref r8)) (Wn (.int k))) (h2++g9) (W8.take k):=EvL.sl (fun _=>rfl) i8 (fun _=>rfl) (fun _=>rfl) ((Zlz _ k).trans (List.map_take ..).symm);have sB:EvL (P.tbl 299) (.sl (.var 6) (Wn (.var 7)) Wo) (vt i m (Wn t4.d) (Wn (.int c)) p6 k8 (Wn (.ref r8)) (Wn (.int k))) (h2++g9) (W8.drop k):=EvL.sl (fun _=>rfl) i8 (fun _=>rfl) (fun _=>rfl) ((ZlA _ k).trans (List.map_drop ..).symm);have sO:EvL (P.tbl 299) (.lstl (.cons (.Ci_ "") .nil)) (vt i m (Wn t4.d) (Wn (.int c)) p6 k8 (Wn (.ref r8)) (Wn (.int k))) (h2++g9) [O ""]:=EvL.one fun _=>rfl;have lA:(W8.take k).length+(W8.drop k).length=W8.length:=by rw [List.length_take,List.length_drop];lia
   obtain ⟨g10,r10,e10,i10⟩:=((sA.add sO (by simp;lia)).add sB (by rw [OA];simp;lia)) []
   rw [Yr] at e10 i10;have w:=xs.trans ((Za ((Zt (Zr t9 (decide_eq_true q))).trans ((Za y1).trans ((Za (Zn (i:=6) e10)).trans rfl)))).trans (Zb (Zh (d:=.ref r10) rfl)));refine ⟨W8.take k++[O ""]++W8.drop k,h2++g9++g10,a1+1,r10,congrArg Ze w,u2.trans (Up.app.trans Up.app),s2.app.app,by lia,i10,fun w hw=>?_,by rw [OA,OA];simp;lia,fun t ht=>?_⟩
   . rcases OD.mp hw with hw|hw
     . rcases OD.mp hw with hw|hw
       . exact G8 w (List.mem_of_mem_take hw)
       . rw [Ox.mp hw];obtain ⟨q1,q2,q3⟩:=ZrS (O "") (by simp [ZaM]);exact ⟨q1,q2,fun k=>Ov _ (q3 (Z6.mpr k))⟩
     . exact G8 w (List.mem_of_mem_drop hw)
   . rw [ZiP (w:=O "") (by simp) (.inl (by decide +kernel))] at ht;cases ht
 . have w:=xs.trans ((Za ((Zi (Zr t9 (decide_eq_false q))).trans rfl)).trans (Zb (Zh (d:=.ref r8) rfl)));exact ⟨W8,h2++g9,a1+1,r8,congrArg Ze w,u2.trans Up.app,s2.app,by lia,i8,G8,by lia,fun t ht=>by rw [<- ZsI ht];exact d9⟩
end
end K04L
namespace K04L
open PySem L2 IV Tm Fr
open K03L (Ok4 ws ow Zz dg ZB ZL Zv Wdb Zbq ZaZ ZfQ Zcd Zc6 Zft Zk3 Zon ZnT)
open Gn (dep Zf Up)
section
variable {P:Pg}
def Zzx{U:Tb}{a b c:Tx}(p:tst U a S h=.ok Wp h1):tst U (.ors (.cons a (.cons b (.one c)))) S h=.ok Wp h1:=by rw[ZdQ,Z3,p];rfl
def Zw9{U:Tb}{a b c:Tx}(p:tst U a S h=.ok Wq h1)(q:tst U b S h1=.ok Wp h2):tst U (.ors (.cons a (.cons b (.one c)))) S h=.ok Wp h2:=by rw[ZdQ,Z3,p,Zk];simp only[OG,if_false];rw[Z3,q];rfl
def Zxa{U:Tb}{a b c:Tx}(p:tst U a S h=.ok Wq h1)(q:tst U b S h1=.ok Wq h2)(r:tst U c S h2=.ok x h3):tst U (.ors (.cons a (.cons b (.one c)))) S h=.ok x h3:=by rw[ZdQ,Z3,p,Zk];simp only[OG,if_false];rw[Z3,q];exact r
noncomputable def vq(wl:Nat)(a:Str)(t f:Option D):Ev:=[Wn (.ref wl),Wn (.str a),t,f]
theorem Ztt (H:Lw P) {NS W:List Str}{h:Hd} (hw:h[wl]? = Wn (.lst (W.map .str))) (g:∀ w∈W,Gw NS w) (hz:W.length<=4424) (hd:∀ t,ZbT W=Wn t->dep t<=247) (few:NS.length<64):∃ g,run P 300 (O "_law_right") [.ref wl] h=.ok (.bl Wp) (h++g):=by
 rw [Zg (n:=299) H.law_right rfl];have gb:∀ w∈W,Wdb w:=fun w hw=>(g w hw).b;have ok:=Zbq gb;have jl:=ZaZ gb;have sp:(W=[]/\ZO (ZE W)=[O ""])\/(W≠[]/\ZO (ZE W)=W):=by
   cases W with
   | nil=>exact .inl ⟨rfl,by decide +kernel⟩
   | cons x r=>exact .inr ⟨by simp,Zcd (by simp) fun w hw=>(g w hw).n⟩
 have X:Txt4 (ZE W) NS:=⟨ok,by lia,fun x hx n=>by
   rcases sp with ⟨_,e⟩|⟨_,e⟩
   . rw [e] at hx;have:=n.2.1;rw [Ox.mp hx] at this;exact absurd this (by decide +kernel)
   . rw [e] at hx;exact (g x hx).m n,few⟩
 have hs:∀ t,ZbT (ZO (ZE W))=Wn t->W=ws t/\W≠[]/\Ok4 t/\dep t<=247:=fun t ht=>by
   rcases sp with ⟨_,e⟩|⟨ne,e⟩
   . rw [e,ZiP (w:=O "") (.head _) (.inl (by decide +kernel))] at ht;cases ht
   . rw [e] at ht;obtain ⟨e1,o⟩:=(ZfB t).mp ht;exact ⟨e1,ne,o,hd t ht⟩
 have x1:xs1 (P.tbl 299) ZeA [Wn (.ref wl),Wo,Wo,Wo] h=.ok (.nx,vq wl (ZE W) Wo Wo) h:=Zn (i:=1) (ZfQ rfl hw gb (by lia));have sl:=Zix (ZE W);obtain ⟨g2,e2⟩:=Ztv H 296 (W:=ZO (ZE W)) (wl:=h.length) (h:=h++[.lst ((ZO (ZE W)).map .str)]) (by simp) (by lia) (fun w hw=>by have:=(Zig hw).2;lia);have x2:xs1 (P.tbl 299) Zcc (vq wl (ZE W) Wo Wo) h=.ok (.nx,vq wl (ZE W) (Wn (tdO (ZbT (ZO (ZE W))))) Wo) (h++[.lst ((ZO (ZE W)).map .str)]++g2):=Zn (i:=2) (Zj e2 (Zd (ZnN rfl ok (by lia)) rfl));generalize ea:ZE W=a at *;obtain ⟨g0,eg0⟩:∃ g0,h++[DO.lst ((ZO a).map .str)]++g2=h++g0:=⟨_,Oz ..⟩
 rw [eg0] at x2;have fin:∀ (t f:Option D) (h1:Hd),(∃ g,h1=h++g)->xs2 (P.tbl 299) Zb1 [Wn (.ref wl),Wo,Wo,Wo] h=.ok (.rt (.bl Wp),vq wl a t f) h1->∃ g,Ze (xs2 (P.tbl 299) Zb1 [Wn (.ref wl),Wo,Wo,Wo] h)=.ok (.bl Wp) (h++g):=fun t f h1 hg e=>by
   obtain ⟨g,rfl⟩:=hg;exact ⟨g,congrArg Ze e⟩
 have nt:∀ (t:Option D) (g1:Hd),jdg (ZO a)=.nt->tst (P.tbl 299) Zej (vq wl a t Wo) (h++g0)=.ok Wp (h++g0++g1)->xs1 (P.tbl 299) Zcc (vq wl a Wo Wo) h=.ok (.nx,vq wl a t Wo) (h++g0)->∃ g,Ze (xs2 (P.tbl 299) Zb1 [Wn (.ref wl),Wo,Wo,Wo] h)=.ok (.bl Wp) (h++g):=fun t g1 j tt x2=>by
   obtain ⟨g3,e3⟩:=ZiW H 272 .Eq Wq (fun _ _ _=>rfl) (.var 1) (S:=vq wl a t Wo) (h:=h++g0++g1) rfl X j;exact fin t Wo (h++g0++g1++g3) ⟨g0++g1++g3,by simp⟩ ((Za x1).trans ((Za x2).trans (Zb ((Zt tt).trans (Zb (Zh e3))))))
 cases el:ZbT (ZO a) with
 | none =>
   rw [el] at x2;exact nt _ [] (Zmu el) (by rw [Yr];exact Zzx (ZzW rfl)) x2
 | some t =>
   rw [el] at x2;obtain ⟨eW,ne,o4,d247⟩:=hs t el;have js:=Zsg el;obtain ⟨g3,e3⟩:=Zc6 H.w 247 51 t (h++g0) d247;have t1:tst (P.tbl 299) (.ex (.cmp .Gt (.call (O "_law_size") (.cons (.var 2) .nil)) (.ci 100))) (vq wl a (Wn t.d) Wo) (h++g0)=.ok (Wr ((100:Int)<t.size)) (h++g0++g3):=ZnI (Zj e3 rfl) rfl;have t0:tst (P.tbl 299) (.ex (.cmp .Is (.var 2) (.cst .non))) (vq wl a (Wn t.d) Wo) (h++g0)=.ok Wq (h++g0):=ZzX rfl (ZqO t);by_cases big:100<t.size
   . exact nt _ g3 (by rw [js,if_pos (.inr big)]) (Zw9 t0 (Zr t1 (decide_eq_true (by lia)))) x2
   . obtain ⟨g4,e4⟩:=Zor H 247 51 t (h++g0++g3) d247;have t2:tst (P.tbl 299) (.ex (.cmp .Gt (.call (O "_law_deep") (.cons (.var 2) .nil)) (.ci 20))) (vq wl a (Wn t.d) Wo) (h++g0++g3)=.ok (Wr ((20:Int)<dep t)) (h++g0++g3++g4):=ZnI (Zj e4 rfl) rfl;have tt:=Zxa t0 (Zr t1 (decide_eq_false (by lia))) t2;by_cases dp:20<dep t
     . exact nt _ (g3++g4) (by rw [js,if_pos (.inl dp)]) (by rw [<- Oz];exact Zr tt (decide_eq_true (by lia))) x2
     . rw [if_neg (show ¬ (20<dep t\/100<t.size) by lia)] at js;have x3:xs1 (P.tbl 299) Zez (vq wl a (Wn t.d) Wo) (h++g0)=.ok (.nx,vq wl a (Wn t.d) Wo) (h++g0++g3++g4):=(Zi (Zr tt (decide_eq_false (by lia)))).trans rfl;generalize eg4:h++g0++g3++g4=h4 at x3;obtain ⟨g4',rfl⟩:∃ g4',h4=h++g4':=⟨_,by rw [<- eg4];simp only [Oz];rfl⟩
       obtain ⟨g5,e5⟩:=Zoq H 20 278 t (h++g4'++[.lst []]) (h++g4').length [] (by lia) (by simp) (by simp);rw [ZxJ] at e5;have t4:tst (P.tbl 299) Zei (vq wl a (Wn t.d) Wo) (h++g4')=.ok (!okN t) (h++g4'++[.lst []]++g5):=Zld (Z7 (Zj e5 (Zd rfl (Zd (ZbU (xs:=[]) rfl (Yv _)) rfl))));generalize eg5:h++g4'++[DO.lst []]++g5=h5 at t4;obtain ⟨g5',rfl⟩:∃ g5',h5=h++g5':=⟨_,by rw [<- eg5];simp only [Oz];rfl⟩
       cases qn:okN t with
       | false =>
         rw [qn] at js t4;obtain ⟨g6,e6⟩:=Zsd H 272 (.var 1) (S:=vq wl a (Wn t.d) Wo) (h:=h++g5') rfl X js;exact fin _ _ (h++g5'++g6) ⟨_,Oz ..⟩ ((Za x1).trans ((Za x2).trans ((Za x3).trans (Zb ((Zt t4).trans (Zb (Zh e6)))))))
       | true =>
         rw [qn,if_pos rfl] at js;rw [qn] at t4;have x4:xs1 (P.tbl 299) Zey (vq wl a (Wn t.d) Wo) (h++g4')=.ok (.nx,vq wl a (Wn t.d) Wo) (h++g5'):=(Zi t4).trans rfl;obtain ⟨g6,e6⟩:=Zrf H 273 a (h++g5') X;rw [js] at e6;have x5:xs1 (P.tbl 299) Zex (vq wl a (Wn t.d) Wo) (h++g5')=.ok (.nx,vq wl a (Wn t.d) (Wn t.d)) (h++g5'++g6):=Zn (i:=3) (Zj e6 rfl);obtain ⟨g7,e7⟩:=Zk3 H.w 20 276 t (h++g5'++g6) (by lia);obtain ⟨g8,e8⟩:=Zon H.w 296 t (h++g5'++g6++g7) o4 (by lia);rw [<- eW,ea] at e8;have t6:tst (P.tbl 299) Zeh (vq wl a (Wn t.d) (Wn t.d)) (h++g5'++g6)=.ok Wq (h++g5'++g6++g7++g8):=Zmf (Zld (b:=true) (Z7 (Zj e7 rfl))) (Zld (b:=true) (Z7 (Zj (ZnT H.w 298 a _) (Zd (Zj e8 rfl) rfl))));have x6:xs1 (P.tbl 299) Zew (vq wl a (Wn t.d) (Wn t.d)) (h++g5'++g6)=.ok (.nx,vq wl a (Wn t.d) (Wn t.d)) (h++g5'++g6++g7++g8):=(Zi t6).trans rfl;obtain ⟨g9,e9⟩:=Zc6 H.w 20 278 t (h++g5'++g6++g7++g8) (by lia);obtain ⟨g10,e10⟩:=Zrk H 271 (t.size * 7+a.length) (h++g5'++g6++g7++g8++g9) ne g (by lia) few;rw [ea] at e10;have ar:ev (P.tbl 299) (.bin .Add (.bin .Mult (.call (O "_law_size") (.cons (.var 2) .nil)) (.ci 7)) (.blt .len (.cons (.var 1) .nil))) (vq wl a (Wn t.d) (Wn t.d)) (h++g5'++g6++g7++g8)=.ok (.int (t.size * 7+a.length)) (h++g5'++g6++g7++g8++g9):=(Zc ((Zc (Zj e9 rfl) rfl).trans (Zcy ⟨Gn.ZJ (by lia) (by lia),Gn.ZJ (by decide) (by decide)⟩)) (ZZ (Zd rfl rfl) (show ZbN P.GD .len [.str a] _=.ok (.int a.length) _ from if_pos (by rw [YA];lia)))).trans rfl;exact fin _ _ (h++g5'++g6++g7++g8++g9++g10) ⟨g5'++g6++g7++g8++g9++g10,by simp only [Oz]⟩ ((Za x1).trans ((Za x2).trans ((Za x3).trans ((Za x4).trans ((Za x5).trans ((Za x6).trans (Zb (Zh (Zj e10 (Zd rfl (Zd ar rfl)))))))))))
theorem ZvP(H:Lw P){ns:List Str}(h5:ns.length=5)(nw:∀x∈ns,NmW x)(im:m≠i):∀(F a:Nat) (h:Hd),cs.length+1 - a<F->St2 h i j cs a->h[m]? = Wn (.lst (ns.map .str))->∃h',Zaw (tst (P.tbl 300) ZlK) (xs2 (P.tbl 300) ZoS) F (vl s i m) h=.ok (.nx,vl s i m) h'
 |0,a,h,hf,_,_=>by lia
 |F+1,a,h,hf,st,hm=>by
  have tt:tst (P.tbl 300) ZlK (vl s i m) h=.ok (Wr ((a:Int)<=(cs.map D.int).length)) h:=ZBt ((ZK rfl rfl).trans ((ZN st.1).trans rfl)) (ZZ (Zd ((ZK rfl rfl).trans ((ZN st.1).trans rfl)) rfl) (ZcM st.2.1));rw[Ys]at tt;by_cases ha:a<=cs.length
  . obtain⟨W,h1,a1,r,e1,u1,s1,l1,w1,g1,z1,d1⟩:=Ztx H h5 nw im st hm;obtain⟨g2,e2⟩:=Ztt H w1 g1 z1 d1 (by simp[h5,Zbn]);obtain⟨h',e4⟩:=ZvP H h5 nw im (s:=s) (j:=j) (cs:=cs) F a1 (h1++g2) (by lia) s1.app (ZB (u1.at hm im));exact⟨h',(Zn1 (Zr tt (decide_eq_true (by lia))) ((Za ((Zi (Zld (b:=true) (Z7 (Zj e2 (Zd (Zj e1 rfl) rfl))))).trans rfl)).trans rfl)).trans e4⟩
  . exact⟨h,Zn2 (Zr tt (decide_eq_false (by lia)))⟩
def Zzb(H:Lw P)(ns:List Int)(hl:ns.length<=63):∃h',run P (300+1) (O "law") [.ro (ns.map .int)] []=.ok (.bl Wp) h':=by
 rw[Zg H.law rfl];have cut:∀k:Nat,cutD (ns.map D.int) Wo (Wn (k:Int))=(ns.take k).map .int:=λk=>(Zlz _ k).trans (List.map_take ..).symm;have s0:ev (P.tbl 300) (.bin .Add (.blt .len (.cons (.var 0) .nil)) (.bin .Mod (.blt .sum (.cons (.sl (.var 0) Wo (Wn (.ci 63))) .nil)) (.ci 1000003))) [Wn (.ro (ns.map .int)),Wo,Wo] []=.ok (.int ((ns.map D.int).length+(ns.take 63).sum % 1000003)) [.lst ((ns.take 63).map .int)]:=by
  have e1:ev (P.tbl 300) (.sl (.var 0) Wo (Wn (.ci 63))) [Wn (.ro (ns.map .int)),Wo,Wo] []=.ok (.ref 0) [.lst ((ns.take 63).map .int)]:=by show Zbf (.lst (cutD (ns.map .int) Wo (Wn ((63:Nat):Int)))) []=_;rw[cut];rfl
  have e2:ZbN P.GD .sum [.ref 0] [.lst ((ns.take 63).map D.int)]=.ok (.int (ns.take 63).sum) [.lst ((ns.take 63).map D.int)]:=by
   have it:∀l:List Int,intsOf (l.map D.int)=Wn l:=λl=>by
    induction l with
    |nil=>rfl
    |cons x l ih=>rw[Op,intsOf,ih];rfl
   show R.ofO (((lstOf (.ref 0) [.lst ((ns.take 63).map D.int)]).bind intsOf).map λns=>D.int ns.sum) [.lst ((ns.take 63).map D.int)]=_;simp only[lstOf,OJ,Yw,it,Yt];rfl
  exact(Zc (x:=.int (ns.map D.int).length) rfl ((Zc (ZZ (Zd e1 rfl) e2) rfl).trans (ZC (by decide)))).trans rfl
 generalize ((ns.map D.int).length:Int)+(ns.take 63).sum % 1000003=c0 at s0;have s1:=Zij H.m 299 c0 77 [.lst ((ns.take 63).map .int)] (by decide);obtain⟨a,g1,e1,X,j1⟩:=Zzc H 299 (mix c0 77) [.lst ((ns.take 63).map .int)];obtain⟨g2,e2⟩:=ZiW H 273 .NotEq Wp (λ_ _ _=>rfl) (.call (O "_law_far") (.cons (.call (O "_law_mixed") (.cons (.bin .Add (.blt .len (.cons (.var 0) .nil)) (.bin .Mod (.blt .sum (.cons (.sl (.var 0) Wo (Wn (.ci 63))) .nil)) (.ci 1000003))) (.cons (.ci 77) .nil))) .nil)) (Zj e1 (Zd (Zj s1 (Zd s0 rfl)) rfl)) X j1;generalize [DO.lst ((ns.take 63).map .int)]++g1++g2=h0 at e2;have y1:xs1 (P.tbl 300) ZpA [Wn (.ro (ns.map .int)),Wo,Wo] []=.ok (.nx,[Wn (.ro (ns.map .int)),Wo,Wo]) h0:=(Zi (Z7 e2)).trans rfl;obtain⟨zs,ez,lz⟩:∃zs:List Int,cutD (ns.map .int) Wo (Wn ((150:Nat):Int))=zs.map .int/\zs.length<=63:=⟨_,cut 150,by simp;lia⟩
 have e0:ev (P.tbl 300) (.bin .Add (.lstl (.cons (.ci 0) .nil)) (.sl (.var 0) Wo (Wn (.ci 150)))) [Wn (.ro (ns.map .int)),Wo,Wo] h0=.ok (.ref (h0++[DO.lst [.int 0]]++[DO.lst (zs.map .int)]).length) (h0++[.lst [.int 0]]++[.lst (zs.map .int)]++[.lst ((0::zs).map .int)]):=by
  refine(Zc (ZbU (xs:=[.int 0]) rfl (by decide)) (y:=.ref (h0++[DO.lst [.int 0]]).length) (h2:=h0++[.lst [.int 0]]++[.lst (zs.map .int)]) ?_).trans ?_
  . show Zbf (.lst (cutD (ns.map .int) Wo (Wn ((150:Nat):Int)))) (h0++[.lst [.int 0]])=_;rw[ez];rfl
  . exact(add_l (xs:=[.int 0]) (ys:=zs.map .int) (ZB (by simp)) (by simp) (by simp;lia)).trans rfl
 generalize eh3:h0++[DO.lst [.int 0]]++[DO.lst (zs.map .int)]=h2 at e0;have i3:(h2++[DO.lst ((0::zs).map .int)])[h2.length]? = Wn (.lst ((0::zs).map .int)):=by simp
 generalize eh4:h2++[DO.lst ((0::zs).map .int)]=h3 at e0 i3;obtain⟨cs,lc,ec⟩:=Zjj H.m (n:=299) (h:=h3) (k:=h2.length) (xs0:=(0::zs).map .int) i3 (0::zs) 0 [] (by simp;lia) (by simp;lia);have ei:evi (P.tbl 300) (.enu (.bin .Add (.lstl (.cons (.ci 0) .nil)) (.sl (.var 0) Wo (Wn (.ci 150))))) [Wn (.ro (ns.map .int)),Wo,Wo] h0=.ok ⟨[(h2.length,(0::zs).map .int)],(0::zs).mapIdx λq x=>D.tup [.int ((q+0:Nat):Int),.int x]⟩ h3:=by
  rw[ZuI,e0,Zk];show R.ofO ((Zip (.ref h2.length) h3).map λw=>(⟨w.src,Zdi w.xs⟩:Wk)) h3=_;simp only[Zip,i3,Yt];have en:∀ys:List Int,Zdi (ys.map D.int)=ys.mapIdx λq x=>D.tup [.int ((q+0:Nat):Int),.int x]:=λys=>by unfold Zdi;apply List.ext_getElem?;intro q;simp[List.getElem?_mapIdx];cases ys[q]?<;>rfl
  rw[en];rfl
 have x1:xs1 (P.tbl 300) Zpz [Wn (.ro (ns.map .int)),Wo,Wo] h0=.ok (.nx,[Wn (.ro (ns.map .int)),Wn (.ref (h3++[DO.lst (cs.map .int)]).length),Wo]) (h3++[.lst (cs.map .int)]++[.lst [.ref h3.length,.int 1]]):=Zn (i:=1) (ZbU (xs:=[.ref h3.length,.int 1]) (Zd (ZfR (xs:=cs.map .int) ei ec) rfl) (show 2<=1000 by decide));have st:St2 (h3++[.lst (cs.map .int)]++[.lst [.ref h3.length,.int 1]]) (h3++[DO.lst (cs.map .int)]).length h3.length cs 1:=⟨by simp,ZB (by simp),by simp⟩
 generalize eh5:h3++[DO.lst (cs.map .int)]++[DO.lst [.ref h3.length,.int 1]]=h1 at x1 st;generalize (h3++[DO.lst (cs.map .int)]).length=i at x1 st;generalize h3.length=j at st;obtain⟨c,cr,rfl⟩:∃c r,cs=c::r:=by
  rcases cs with _|⟨c,r⟩
  . simp at lc
  . exact⟨c,r,rfl⟩
 obtain⟨nn,l5,ok,two,e2⟩:=Ztu H.m 298 c h1;have x2:xs1 (P.tbl 300) Zpy [Wn (.ro (ns.map .int)),Wn (.ref i),Wo] h1=.ok (.nx,vl (.ro (ns.map .int)) i h1.length) (h1++[.lst (nn.map .str)]):=Zn (i:=2) (Zj e2 (Zd ((ZK ((ZK rfl rfl).trans ((ZN st.1).trans rfl)) rfl).trans ((ZN st.2.1).trans (by rw[Op,ZpC];rfl))) rfl));obtain⟨h',e3⟩:=ZvP H l5 (λx hx=>(ok x hx).2) (m:=h1.length) (i:=i) (j:=j) (cs:=c::cr) (s:=.ro (ns.map .int)) (by have:=Gn.Zs st.1;lia) P.L 1 (h1++[.lst (nn.map .str)]) (by have:=H.w.f.t.big;simp at lc ⊢;lia) st.app (by simp);have x3:xs1 (P.tbl 300) Zpx (vl (.ro (ns.map .int)) i h1.length) (h1++[.lst (nn.map .str)])=.ok (.nx,vl (.ro (ns.map .int)) i h1.length) h':=e3;have w:xs2 (P.tbl 300) Zv7 [Wn (.ro (ns.map .int)),Wo,Wo] []=.ok (.rt (.bl Wp),vl (.ro (ns.map .int)) i h1.length) h':=(Za y1).trans ((Za x1).trans ((Za x2).trans ((Za x3).trans (Zb (Zh rfl)))));exact⟨h',congrArg Ze w⟩
end
end K04L
section
set_option maxHeartbeats 4000000
namespace K04
open PySem L2 IV PyProof.Rows
def Za0:Fd:=⟨[(O "_law_cell")],[(O "_law_cell"),(O "_law_letters"),(O "_law_size_here"),(O "_law_at"),(O "_law_found"),(O "_law_k"),(O "_law_text"),(O "_law_j")],K02L.ZdB⟩
noncomputable def cG:List (Str×D):=[((O "KEPT_WORDS"),(.tup [(.str (O "fn")),(.str (O "rec")),(.str (O "call")),(.str (O "if"))])),((O "LETTERS"),(.str (O "abcdefghijklmnopqrstuvwxyz"))),((O "FIGURES"),(.str (O "0123456789"))),((O "MOST_LETTERS"),(.int 8)),((O "MOST_FIGURES"),(.int 6)),((O "MOST_PLACES"),(.int 100)),((O "MOST_DEEP"),(.int 20)),((O "FORMS"),.kd (O "FORMS"))]
noncomputable def cD:List (Str×List (Key×D)):=[((O "FORMS"),[(.inr (O "fn"),(.tup [(.int 1),(.int 1)])),(.inr (O "rec"),(.tup [(.int 2),(.int 1)])),(.inr (O "call"),(.tup [(.int 0),(.int 2)])),(.inr (O "if"),(.tup [(.int 0),(.int 3)])),(.inr (O "+"),(.tup [(.int 0),(.int 2)])),(.inr (O "-"),(.tup [(.int 0),(.int 2)])),(.inr (O "*"),(.tup [(.int 0),(.int 2)])),(.inr (O "<"),(.tup [(.int 0),(.int 2)]))])]
noncomputable def dl:List (Str×Fd×Nat):=[((O "bound_names"),K02L.ZaU,7),((O "parts_of"),Gn.Zi5,8),((O "places"),Gn.ZfM,9),((O "free_names"),K02L.ZfP,10),((O "is_made_of"),K03L.ZfO,17),((O "is_name"),K03L.ZkL,18),((O "is_number"),K03L.Zhw,19),((O "read_number"),K04L.Zec,20),((O "leaf_of"),K03L.ZkI,24),((O "has_name_twice"),K03L.Zcn,26),((O "check_names"),K04L.Zee,27),((O "read"),K04L.Zsr,28),((O "own_words"),K03L.Zhn,29),((O "shown"),K03L.Zo6,30),((O "_law_whole"),K03L.Zhp,32),((O "_law_mixed"),K02L.Zhs,33),((O "_law_next"),K02L.Zi9,34),((O "_law_names"),Za0,35),((O "_law_drawn"),K02L.Zht,36),((O "_law_words"),K03L.Zho,37),((O "_law_is_name"),K04L.Zed,38),((O "_law_is_number"),K04L.ZcR,39),((O "_law_shape"),K04L.Zhq,40),((O "_law_laid"),K04L.Zja,41),((O "_law_read"),K04L.Zi8,42),((O "_law_size"),K03L.Zi7,43),((O "_law_deep"),K04L.Zjc,44),((O "_law_good"),K04L.Zjb,45),((O "_law_kinds_of"),K04L.Zdh,46),((O "_law_alike"),K03L.Zhv,47),((O "_law_right"),K04L.Zhr,48),((O "_law_odd"),K04L.ZkJ,49),((O "_law_spoilt"),K04L.ZfN,50),((O "_law_wide"),K04L.Zi6,51),((O "_law_built"),K04L.Zhu,52),((O "_law_other_blanks"),K04L.ZbE,53),((O "_law_far"),K04L.ZkK,54),((O "law"),K04L.ZmC,55)]
noncomputable def tb:List (Str×Fd):=dl.map λp=>(p.1,p.2.1)
noncomputable def mo1:List Ml:=[((O "take_word"),(O "Reader.take_word"),K04L.ZbF,25,1),((O "take_name"),(O "Reader.take_name"),K04L.ZbG,25,2),((O "take_expression"),(O "Reader.take_expression"),K04L.Zas,25,3),((O "take_end"),(O "Reader.take_end"),K04L.ZbW,25,4)]
def ms:List (Str×Fd):=[(mnm (O "Reader") (O "__init__"),K03L.Z9)]++mo1.map (λp=>(mnm (O "Reader") p.1,p.2.2.1))
def pg:Pg:=⟨tb,λx=>cG.lookup x,λx=>cD.lookup x,1000000,ms⟩
noncomputable def kl:Kl:=⟨[(O "Reader")],[(O "at"),(O "words")],mo1.map (λp=>((O "Reader"),p.1)),[(O "Reader")],[(O "NoName"),(O "NoTerm")],[((O "StrideError"),(O "NoName")),((O "StrideError"),(O "NoTerm"))],[((O "NoName"),(O "NoName"),Wp),((O "NoName"),(O "NoTerm"),Wq),((O "NoName"),(O "ValueError"),Wp),((O "NoName"),(O "Wide"),Wq),((O "NoTerm"),(O "NoName"),Wq),((O "NoTerm"),(O "NoTerm"),Wp),((O "NoTerm"),(O "ValueError"),Wp),((O "NoTerm"),(O "Wide"),Wq)]⟩
abbrev ZmC:Fd:=K04L.ZmC
noncomputable def top(i:Nat):Stmt:=PySem.Challenge.pw_samestride_k04_texts_judged.main.body.getD i (.Pass ⟨0,0,0,0⟩)
def mt(i j:Nat):Stmt:=inClass (top i) j
noncomputable def fs:List Str:=tb.map (·.1)
local macro_rules|`(tactic| wtm_at "al")=>`(tactic| repeat' first|exact trivial|refine' And.intro ?_ ?_)
local macro_rules|`(tactic| wtm_at "chk")=>`(tactic| exact⟨by constructor<;>decide +kernel,λ_ _ _ _ _ _ us hl=>by
 first
 |(have e:=ZyF (show us.length=0 from hl);subst e;rfl)
 |(obtain⟨a0,e⟩:=ZyE (show us.length=1 from hl);subst e;rfl)
 |(obtain⟨a0,a1,e⟩:=ZyD (show us.length=2 from hl);subst e;rfl)
 |(obtain⟨a0,a1,a2,e⟩:=ZAL (show us.length=3 from hl);subst e;rfl)
 |(obtain⟨a0,a1,a2,a3,e⟩:=us_4 (show us.length=4 from hl);subst e;rfl)
 |(obtain⟨a0,a1,a2,a3,a4,e⟩:=us_5 (show us.length=5 from hl);subst e;rfl)
 |(obtain⟨a0,a1,a2,a3,a4,a5,e⟩:=us_6 (show us.length=6 from hl);subst e;rfl)
 |(obtain⟨a0,a1,a2,a3,a4,a5,a6,e⟩:=us_7 (show us.length=7 from hl);subst e;rfl),by decide +kernel⟩)
def kd:All (λp:Str×Fd×Nat=>Chk kl fs p.1 p.1 p.2.1 (top p.2.2)) dl:=by
 wtm_at "al"
 all_goals wtm_at "chk"
def km1:All (λp:Ml=>Chk kl fs p.1 p.2.1 p.2.2.1 (mt p.2.2.2.1 p.2.2.2.2)) mo1:=by
 wtm_at "al"
 all_goals wtm_at "chk"
def kk1:All (λp:Ml=>pg.look (mnm (O "Reader") p.1)=Wn p.2.2.1) mo1:=by
 wtm_at "al"
 all_goals kernel_rfl
def ki1:Chk kl fs (O "__init__") (O "Reader.__init__") K03L.Z9 (mt 25 0):=by wtm_at "chk"
end K04
end
namespace K04
open PySem L2 IV
def Zxu:pg.tb.lookup (O "law")=Wn ZmC:=by kernel_rfl
def tre:Gn.Tre pg:=by
 constructor
 all_goals (first|kernel_rfl|decide)
def fre:Fr.Fre pg:=by
 constructor;exact tre
 all_goals kernel_rfl
def mak:K02L.Mak0 pg:=⟨by kernel_rfl,by kernel_rfl,⟨Za0.ps,Za0.N,rfl,rfl,by kernel_rfl⟩,by kernel_rfl⟩
def wds:K03L.Wds pg:=by
 constructor
 case f=>exact fre
 all_goals kernel_rfl
def lw:K04L.Lw pg:=by
 constructor
 case w=>exact wds
 case m=>exact mak
 all_goals kernel_rfl
def runs:∀ns:List Int,ns.length<=63->∃h',run pg (300+1) (O "law") [.ro (ns.map .int)] []=.ok (.bl Wp) h':=λns hl=>K04L.Zzb lw ns hl
end K04
section
set_option maxHeartbeats 4000000
namespace K04
open PySem L2 IV PyProof.Rows
def tp2{K:Yk}(h:K.lookup a=Wn ⟨.type "tuple",od,.seq #[.int x t,.int y u] n,sl⟩):RD ⟨K,mg⟩ H B (.tup [.int x,.int y]) (.ref a):=.tup (Zvs (vs:=[.int x,.int y]) h (by show 2<=sizeLine;decide) (.cons Zcg (.cons Zcg .nil))) (.cons (.int _) (.cons (.int _) .nil))
theorem md{Pr:Yh}{w:Yg}{K:Yk}{h:YE}{mg:Str->Option Yj}(X:K.In h)(G:h.Ns Yd mg)
   (tb0:Zir K=Wp)
   (dd:All (fun p:Str×Fd×Nat=>Zyn K p.1 (top p.2.2)) dl)
   (y1a:Yl K Yd (O "Reader")=Wn (Wn (.ref ca1))) (y1b:Cls K ca1)
   (n1:All (fun f=>YH K (.ref ca1) f=Wn Wo) kl.ats)
   (y1m:PySem.W.makesIn K ca1=Wp) (y1k:YZ K (.ref ca1)=Wp)
   (i1:Zs6 K ca1 (O "__init__") (O "Reader.__init__") (mt 25 0))
   (u1:All (fun p:Ml=>Zs6 K ca1 p.1 p.2.1 (mt p.2.2.2.1 p.2.2.2.2)) mo1)
   (o1a:Yl K Yd (O "NoName")=Wn (Wn (.ref xa1))) (o1b:PySem.W.typeIn K (.ref xa1)=Wn (.type "type")) (o1c:PySem.W.isClsIn K xa1=Wp) (o1d:YT K (.ref xa1) (.type "BaseException")=Wn Wp) (o1e:PySem.W.excIn K xa1 [.type "ValueError",.type "Exception",.type "BaseException",.type "object"] "ValueError.__new__" = Wp) (o1f:YT K (.ref xa1) (.ref xa1)=Wn Wp)
   (o2a:Yl K Yd (O "NoTerm")=Wn (Wn (.ref xa2))) (o2b:PySem.W.typeIn K (.ref xa2)=Wn (.type "type")) (o2c:PySem.W.isClsIn K xa2=Wp) (o2d:YT K (.ref xa2) (.type "BaseException")=Wn Wp) (o2e:PySem.W.excIn K xa2 [.type "ValueError",.type "Exception",.type "BaseException",.type "object"] "ValueError.__new__" = Wp) (o2f:YT K (.ref xa2) (.ref xa2)=Wn Wp)
   (p1a:Yl K Yd (O "StrideError")=Wn (Wn (.ref pa1)))
   (p1b:PySem.W.typeIn K (.ref pa1)=Wn (.type "type"))
   (p1c:PySem.W.isClsIn K pa1=Wp)
   (p1d:YT K (.ref pa1) (.type "BaseException")=Wn Wp)
   (p1e:YT K (.ref xa1) (.ref pa1)=Wn Wp)
   (p1f:YH K (.ref xa1) "__getattribute__" = Wn (Wn (.builtin "BaseException.__getattribute__")))
   (p1g:YH K (.ref xa1) "__getattr__" = Wn Wo)
   (p1h:YH K (.ref xa1) "__class__" = Wn (Wn (.builtin "object.__class__")))
   (p1i:PySem.W.specialIn K (.builtin "object.__class__") "__get__" = Wn (Wn (.builtin "getset_descriptor.__get__")))
   (p1j:PySem.W.takesIn K (.builtin "object.__class__")=Wn Wp)
   (p1k:PySem.W.mroIn K xa1 (.type "object")=Wn Wp)
   (p1l:PySem.W.kitOne K (.ref xa1) (.ref xa1)=Wn Wp)
   (p2a:Yl K Yd (O "StrideError")=Wn (Wn (.ref pa2)))
   (p2b:PySem.W.typeIn K (.ref pa2)=Wn (.type "type"))
   (p2c:PySem.W.isClsIn K pa2=Wp)
   (p2d:YT K (.ref pa2) (.type "BaseException")=Wn Wp)
   (p2e:YT K (.ref xa2) (.ref pa2)=Wn Wp)
   (p2f:YH K (.ref xa2) "__getattribute__" = Wn (Wn (.builtin "BaseException.__getattribute__")))
   (p2g:YH K (.ref xa2) "__getattr__" = Wn Wo)
   (p2h:YH K (.ref xa2) "__class__" = Wn (Wn (.builtin "object.__class__")))
   (p2i:PySem.W.specialIn K (.builtin "object.__class__") "__get__" = Wn (Wn (.builtin "getset_descriptor.__get__")))
   (p2j:PySem.W.takesIn K (.builtin "object.__class__")=Wn Wp)
   (p2k:PySem.W.mroIn K xa2 (.type "object")=Wn Wp)
   (p2l:PySem.W.kitOne K (.ref xa2) (.ref xa2)=Wn Wp)
   (w4a:Yl K Yd (O "Wide")=Wn (Wn (.ref wa4)))
   (k1x:PySem.W.kitOne K (.ref xa1) (.ref xa1)=Wn Wp)
   (k2x:PySem.W.kitOne K (.ref xa1) (.ref xa2)=Wn Wq)
   (k3x:PySem.W.kitOne K (.ref xa1) (.type "ValueError")=Wn Wp)
   (k4x:PySem.W.kitOne K (.ref xa1) (.ref wa4)=Wn Wq)
   (k5x:PySem.W.kitOne K (.ref xa2) (.ref xa1)=Wn Wq)
   (k6x:PySem.W.kitOne K (.ref xa2) (.ref xa2)=Wn Wp)
   (k7x:PySem.W.kitOne K (.ref xa2) (.type "ValueError")=Wn Wp)
   (k8x:PySem.W.kitOne K (.ref xa2) (.ref wa4)=Wn Wq)
   (zz:All (fun x:Str=>Yl K Yd x=Wn Wo) Zpu)
   (h105:K.lookup q101=Wn ⟨.type "tuple",r102,.seq #[.str (O "fn") t106,.str (O "rec") t107,.str (O "call") t108,.str (O "if") t109] n103,v104⟩)
   (g110:Yl K Yd (O "KEPT_WORDS")=Wn (Wn (.ref q101)))
   (g112:Yl K Yd (O "LETTERS")=Wn (Wn (.str (O "abcdefghijklmnopqrstuvwxyz") t111)))
   (g114:Yl K Yd (O "FIGURES")=Wn (Wn (.str (O "0123456789") t113)))
   (g116:Yl K Yd (O "MOST_LETTERS")=Wn (Wn (.int 8 t115)))
   (g118:Yl K Yd (O "MOST_FIGURES")=Wn (Wn (.int 6 t117)))
   (g120:Yl K Yd (O "MOST_PLACES")=Wn (Wn (.int 100 t119)))
   (g122:Yl K Yd (O "MOST_DEEP")=Wn (Wn (.int 20 t121)))
   (h134:K.lookup q130=Wn ⟨.type "tuple",r131,.seq #[.int 1 t135,.int 1 t136] n132,v133⟩)
   (h143:K.lookup q139=Wn ⟨.type "tuple",r140,.seq #[.int 2 t144,.int 1 t145] n141,v142⟩)
   (h152:K.lookup q148=Wn ⟨.type "tuple",r149,.seq #[.int 0 t153,.int 2 t154] n150,v151⟩)
   (h161:K.lookup q157=Wn ⟨.type "tuple",r158,.seq #[.int 0 t162,.int 3 t163] n159,v160⟩)
   (h170:K.lookup q166=Wn ⟨.type "tuple",r167,.seq #[.int 0 t171,.int 2 t172] n168,v169⟩)
   (h179:K.lookup q175=Wn ⟨.type "tuple",r176,.seq #[.int 0 t180,.int 2 t181] n177,v178⟩)
   (h188:K.lookup q184=Wn ⟨.type "tuple",r185,.seq #[.int 0 t189,.int 2 t190] n186,v187⟩)
   (h197:K.lookup q193=Wn ⟨.type "tuple",r194,.seq #[.int 0 t198,.int 2 t199] n195,v196⟩)
   (g125:Yl K Yd (O "FORMS")=Wn (Wn (.ref q123)))
   (h126:K.lookup q123=Wn ⟨.type "dict",Wo,.dict #[⟨j128,.str (O "fn") t129,.ref q130⟩,⟨j137,.str (O "rec") t138,.ref q139⟩,⟨j146,.str (O "call") t147,.ref q148⟩,⟨j155,.str (O "if") t156,.ref q157⟩,⟨j164,.str (O "+") t165,.ref q166⟩,⟨j173,.str (O "-") t174,.ref q175⟩,⟨j182,.str (O "*") t183,.ref q184⟩,⟨j191,.str (O "<") t192,.ref q193⟩] e124,#[]⟩)
   (x200:j128=hashStr w (O "fn"))
   (x201:j137=hashStr w (O "rec"))
   (x202:j146=hashStr w (O "call"))
   (x203:j155=hashStr w (O "if"))
   (x204:j164=hashStr w (O "+"))
   (x205:j173=hashStr w (O "-"))
   (x206:j182=hashStr w (O "*"))
   (x207:j191=hashStr w (O "<"))
   (w127:(q123==Ye)=Wq):Md Pr w K mg pg kl:=by
 have D_FORMS:∃ a kvs',mg (O "FORMS")=Wn (.ref a)/\DkK Pr w K a kvs'/\∀ H B,RKs ⟨K,mg⟩ H B (cD.lookup (O "FORMS") |>.getD []) kvs':=by
   refine ⟨q123,[(YC (O "fn"),(.ref q130)),(YC (O "rec"),(.ref q139)),(YC (O "call"),(.ref q148)),(YC (O "if"),(.ref q157)),(YC (O "+"),(.ref q166)),(YC (O "-"),(.ref q175)),(YC (O "*"),(.ref q184)),(YC (O "<"),(.ref q193))],YM X G g125,⟨_,_,_,[(YC (O "fn"),.ref q130),(YC (O "rec"),.ref q139),(YC (O "call"),.ref q148),(YC (O "if"),.ref q157),(YC (O "+"),.ref q166),(YC (O "-"),.ref q175),(YC (O "*"),.ref q184),(YC (O "<"),.ref q193)],h126,⟨rfl,rfl,rfl⟩,rfl,?_,(.cons (ZD _ t129) rfl (.cons (ZD _ t138) rfl (.cons (ZD _ t147) rfl (.cons (ZD _ t156) rfl (.cons (ZD _ t165) rfl (.cons (ZD _ t174) rfl (.cons (ZD _ t183) rfl (.cons (ZD _ t192) rfl .nil)))))))),(by show ([YC (O "fn"),YC (O "rec"),YC (O "call"),YC (O "if"),YC (O "+"),YC (O "-"),YC (O "*"),YC (O "<")]:List Key).Nodup;decide +kernel),(.cons ⟨rfl,ZaD⟩ (.cons ⟨rfl,ZaD⟩ (.cons ⟨rfl,ZaD⟩ (.cons ⟨rfl,ZaD⟩ (.cons ⟨rfl,ZaD⟩ (.cons ⟨rfl,ZaD⟩ (.cons ⟨rfl,ZaD⟩ (.cons ⟨rfl,ZaD⟩ .nil)))))))),(by show 8<=sizeLine;decide),w127⟩,fun _ _=>(.cons (tp2 h134) (.cons (tp2 h143) (.cons (tp2 h152) (.cons (tp2 h161) (.cons (tp2 h170) (.cons (tp2 h179) (.cons (tp2 h188) (.cons (tp2 h197) .nil))))))))⟩;exact (by
       intro e he;simp only [List.mem_toArray,O2,List.not_mem_nil,or_false] at he;rcases he with rfl|rfl|rfl|rfl|rfl|rfl|rfl|rfl
       . exact ⟨YC (O "fn"),ZD (O "fn") t129,x200⟩
       . exact ⟨YC (O "rec"),ZD (O "rec") t138,x201⟩
       . exact ⟨YC (O "call"),ZD (O "call") t147,x202⟩
       . exact ⟨YC (O "if"),ZD (O "if") t156,x203⟩
       . exact ⟨YC (O "+"),ZD (O "+") t165,x204⟩
       . exact ⟨YC (O "-"),ZD (O "-") t174,x205⟩
       . exact ⟨YC (O "*"),ZD (O "*") t183,x206⟩
       . exact ⟨YC (O "<"),ZD (O "<") t192,x207⟩
     )
 refine ⟨tb0,fun x kvs hx=>?_,fun x d hx=>?_,?_,fun x fd hx=>?_,?_,?_,?_,?_,?_,?_⟩
 . have hm:(x,kvs)∈cD:=lookup_mem hx;have e:(x,kvs)=((O "FORMS"),(cD.lookup (O "FORMS") |>.getD [])):=by
     simp only [cD,O2,List.not_mem_nil,or_false] at hm;exact hm
   cases e;exact D_FORMS
 . have hm:(x,d)∈cG:=lookup_mem hx;have all:All (fun p:Str×D=>∃ v u,mg p.1=Wn u/\RelV v u/\∀ H B,RD ⟨K,mg⟩ H B p.2 v) cG:=⟨⟨(.ref q101),_,YM X G g110,ZaD,fun _ _=>(.tup (Zvs (vs:=[(.str (O "fn")),(.str (O "rec")),(.str (O "call")),(.str (O "if"))]) h105 (by show 4<=sizeLine;decide) (.cons Zcf (.cons Zcf (.cons Zcf (.cons Zcf .nil))))) (.cons (.str _ (by decide +kernel)) (.cons (.str _ (by decide +kernel)) (.cons (.str _ (by decide +kernel)) (.cons (.str _ (by decide +kernel)) .nil)))))⟩,⟨(.str (O "abcdefghijklmnopqrstuvwxyz")),_,YM X G g112,Zcf,fun _ _=>(.str _ (by decide +kernel))⟩,⟨(.str (O "0123456789")),_,YM X G g114,Zcf,fun _ _=>(.str _ (by decide +kernel))⟩,⟨(.int 8),_,YM X G g116,Zcg,fun _ _=>(.int _)⟩,⟨(.int 6),_,YM X G g118,Zcg,fun _ _=>(.int _)⟩,⟨(.int 100),_,YM X G g120,Zcg,fun _ _=>(.int _)⟩,⟨(.int 20),_,YM X G g122,Zcg,fun _ _=>(.int _)⟩,⟨.ref q123,_,YM X G g125,rfl,fun _ _=>.kd (YM X G g125)⟩,trivial⟩;exact all.mem _ hm
 . exact (Zfy X G zz).mem
 . exact (Zph X G dd kd).mem _ (lookup_mem hx)
 . have all:All (fun C=>∃ a,mg C=Wn (.ref a)/\Cls K a/\∀ f∈kl.ats,ZaP K a f) kl.cs:=⟨⟨ca1,YM X G y1a,y1b,n1.mem⟩,trivial⟩
   exact all.mem
 . exact (show All _ kl.ms from (ZoK X G y1a y1b u1 km1 kk1)).mem
 . have all:All (fun C:Str=>∃ a f fdd fd st q,mg C=Wn (.ref a)/\Mk K a f/\pg.look (mnm C (O "__init__"))=Wn fd/\BodyOk K kl (pg.tb.map (·.1)) (O "__init__") q fd st f fdd) kl.is:=⟨Zxo X G y1a y1m y1k i1 ki1 (by kernel_rfl),trivial⟩
   exact all.mem
 . have all:All (fun C:Str=>∃ a,mg C=Wn (.ref a)/\XOk K a) kl.xs:=⟨⟨xa1,YM X G o1a,⟨⟨o1b,L2.isSome_of o1c,o1d⟩,o1e,o1f⟩⟩,⟨xa2,YM X G o2a,⟨⟨o2b,L2.isSome_of o2c,o2d⟩,o2e,o2f⟩⟩,trivial⟩
   exact all.mem
 . have all:All (fun p:Str×Str=>∃ a b,mg p.1=Wn (.ref a)/\mg p.2=Wn (.ref b)/\XAs K a b) kl.xa:=⟨⟨pa1,xa1,YM X G p1a,YM X G o1a,⟨⟨p1b,L2.isSome_of p1c,p1d⟩,p1e,⟨p1f,p1g,p1h,p1i,p1j,p1k,o1d,L2.isSome_of o1c⟩,p1l⟩⟩,⟨pa2,xa2,YM X G p2a,YM X G o2a,⟨⟨p2b,L2.isSome_of p2c,p2d⟩,p2e,⟨p2f,p2g,p2h,p2i,p2j,p2k,o2d,L2.isSome_of o2c⟩,p2l⟩⟩,trivial⟩
   exact all.mem
 . have all:All (fun p:Str×Str×Bool=>∃ b v,mg p.1=Wn (.ref b)/\L2.ClV mg p.2.1 v/\PySem.W.kitOne K (.ref b) v=Wn p.2.2) kl.xi:=⟨⟨xa1,(.ref xa1),YM X G o1a,.inl ⟨YM X G o1a,_,rfl⟩,k1x⟩,⟨xa1,(.ref xa2),YM X G o1a,.inl ⟨YM X G o2a,_,rfl⟩,k2x⟩,⟨xa1,(.type "ValueError"),YM X G o1a,.inr ⟨rfl,(Zfy X G zz).mem _ (by decide),rfl⟩,k3x⟩,⟨xa1,(.ref wa4),YM X G o1a,.inl ⟨YM X G w4a,_,rfl⟩,k4x⟩,⟨xa2,(.ref xa1),YM X G o2a,.inl ⟨YM X G o1a,_,rfl⟩,k5x⟩,⟨xa2,(.ref xa2),YM X G o2a,.inl ⟨YM X G o2a,_,rfl⟩,k6x⟩,⟨xa2,(.type "ValueError"),YM X G o2a,.inr ⟨rfl,(Zfy X G zz).mem _ (by decide),rfl⟩,k7x⟩,⟨xa2,(.ref wa4),YM X G o2a,.inl ⟨YM X G w4a,_,rfl⟩,k8x⟩,trivial⟩;exact all.mem
end K04
end
section
set_option maxHeartbeats 4000000
open PySem PySem.W PyProof.Rows
local macro_rules|`(tactic| wtm_at "al")=>`(tactic| repeat' first|exact trivial|refine' And.intro ?_ ?_)
local macro_rules|`(tactic| wtm_at "dg")=>`(tactic| (refine' ⟨_,_,?na,L2.Zso ?l ?c ?k⟩;(case na=>k_is);(case l=>k_is);(case c=>k_is);(case k=>k_is)))
local macro_rules|`(tactic| wtm_at "mg")=>`(tactic| (refine' ⟨_,_,?na,?f,?k,L2.Zso ?l ?c ?kk⟩;(case na=>k_is);(case f=>k_is);(case l=>k_is);(case c=>k_is);(case k=>k_is);(case kk=>k_is)))
set_option maxRecDepth 100000 in
set_option maxHeartbeats 0 in
theorem PySem.Challenge.cw_samestride_k04_texts_judged_holds : PySem.Challenge.rw_samestride_k04_texts_judged.Holds := by
 refine K04hd ?_
 k_fill
 refine IV.ZyA (l:=PySem.Challenge.rw_samestride_k04_texts_judged) (P:=K04.pg) 300 rfl rfl rfl ⟨rfl,by decide,by decide,rfl⟩ (kl:=K04.kl) (λw h Y=>PySem.W.kIn_of Y) K04.Zxu rfl K04.runs ?MM0
 case MM0=>
  intro w mg h KX G;refine' K04.md KX G ?tb0 ?dd ?y1a ?y1b ?n1 ?y1m ?y1k ?i1 ?u1 ?o1a ?o1b ?o1c ?o1d ?o1e ?o1f ?o2a ?o2b ?o2c ?o2d ?o2e ?o2f ?p1a ?p1b ?p1c ?p1d ?p1e ?p1f ?p1g ?p1h ?p1i ?p1j ?p1k ?p1l ?p2a ?p2b ?p2c ?p2d ?p2e ?p2f ?p2g ?p2h ?p2i ?p2j ?p2k ?p2l ?w4a ?k1x ?k2x ?k3x ?k4x ?k5x ?k6x ?k7x ?k8x ?zz ?h105 ?g110 ?g112 ?g114 ?g116 ?g118 ?g120 ?g122 ?h134 ?h143 ?h152 ?h161 ?h170 ?h179 ?h188 ?h197 ?g125 ?h126 ?x200 ?x201 ?x202 ?x203 ?x204 ?x205 ?x206 ?x207 ?w127
  (case tb0=>(first|k_is|kernel_rfl|decide +kernel))
  (case y1a=>k_is)
  (case y1b=>(refine⟨?_,?_,?_,?_⟩<;>k_is))
  (case n1=>(wtm_at "al";all_goals (dsimp only;k_is)))
  (case y1m=>k_is)
  (case y1k=>k_is)
  (case i1=>wtm_at "mg")
  (case u1=>(wtm_at "al";all_goals wtm_at "mg"))
  (case o1a=>k_is)
  (case o1b=>k_is)
  (case o1c=>k_is)
  (case o1d=>k_is)
  (case o1e=>k_exc)
  (case o1f=>k_is)
  (case o2a=>k_is)
  (case o2b=>k_is)
  (case o2c=>k_is)
  (case o2d=>k_is)
  (case o2e=>k_exc)
  (case o2f=>k_is)
  (case p1a=>k_is)
  (case p1b=>k_is)
  (case p1c=>k_is)
  (case p1d=>k_is)
  (case p1e=>k_is)
  (case p1f=>k_is)
  (case p1g=>k_is)
  (case p1h=>k_is)
  (case p1i=>k_is)
  (case p1j=>k_is)
  (case p1k=>k_is)
  (case p1l=>kit_is)
  (case p2a=>k_is)
  (case p2b=>k_is)
  (case p2c=>k_is)
  (case p2d=>k_is)
  (case p2e=>k_is)
  (case p2f=>k_is)
  (case p2g=>k_is)
  (case p2h=>k_is)
  (case p2i=>k_is)
  (case p2j=>k_is)
  (case p2k=>k_is)
  (case p2l=>kit_is)
  (case w4a=>rfl)
  (case k1x=>kit_is)
  (case k2x=>kit_is)
  (case k3x=>kit_is)
  (case k4x=>kit_is)
  (case k5x=>kit_is)
  (case k6x=>kit_is)
  (case k7x=>kit_is)
  (case k8x=>kit_is)
  (case dd=>(wtm_at "al";all_goals wtm_at "dg"))
  (case zz=>(wtm_at "al";all_goals (dsimp only;k_is)))
  (case g110=>k_is)
  (case h105=>k_is)
  (case g112=>k_is)
  (case g114=>k_is)
  (case g116=>k_is)
  (case g118=>k_is)
  (case g120=>k_is)
  (case g122=>k_is)
  (case g125=>k_is)
  (case h126=>k_is)
  (case h134=>k_is)
  (case h143=>k_is)
  (case h152=>k_is)
  (case h161=>k_is)
  (case h170=>k_is)
  (case h179=>k_is)
  (case h188=>k_is)
  (case h197=>k_is)
  (case x200=>(first|rfl|k_is|fail))
  (case x201=>(first|rfl|k_is|fail))
  (case x202=>(first|rfl|k_is|fail))
  (case x203=>(first|rfl|k_is|fail))
  (case x204=>(first|rfl|k_is|fail))
  (case x205=>(first|rfl|k_is|fail))
  (case x206=>(first|rfl|k_is|fail))
  (case x207=>(first|rfl|k_is|fail))
  (case w127=>rfl)
end
