import PyProof.Rows.All
import Wide.All
import OpenK.AllK
import Wide.FinOn
import PyProof.EqAt
import PyProof.EqKinds
import PyProof.TupleCall
import Lean
import PySem.Challenge.RW_samestride_k52_code_of_functions
noncomputable section
set_option Elab.async false
set_option linter.all false
set_option maxRecDepth 100000
open PySem renaming wpAny_bind->Ya,Shared->Yb,wpAny_pure->Yc,mainGlobals->Yd,sysModules->Ye,wpAny_mono->Yf,World->Yg,Program->Yh,Addr->Yi,Value->Yj,wpAny_newObj_type->Yq,starEach->Yy,wpAny->Yz,sizeLine_eq->YA,Heap->YF,Around->YG,mem_of_lookup->YH,compareOp->YL,wpAny_field->YQ,backTo->YR,wpAny_Call_Name_kw->YV,keywordEach->YX,wpAny_callSpecial?_slot->YY,wpAny_holding->Wb,wpAny_call_entry->Wc,wpAny_of_eq->Wh
open PySem.W renaming Frag->Yk,nsIn->Yl,findIn->YI,mg_of->YN,emptyDict->YS,keepIn->Wa,instObj->We
open PySem.Heap renaming lt_size->Ym,get?_update_other->YM,get?_update_self->YU,get?_push_of_some->Od,get?_push_size->Oj
open PySem.NameKind renaming free->Yn
open PySem.PyData renaming strOk->Yo,eqv->YO
open PySem.StrLaws renaming sliceText->Yp
open List renaming append_nil->Yr,length_map->Ys,replicate->YJ,any_cons->YZ,lookup->Wf,foldl_cons->Wm,find?_cons->Wn,getElem?_eq_some_iff->Ob,getElem?_set_ne->Oc,getElem?_append_left->Oe,size_toArray->Of,getElem?_eq_getElem->Og,mem_cons_of_mem->Oh,mem_cons_self->Oi,mem_of_getElem?->O1,getElem?_set_self->Ol,getElem?_append_right->Om,getElem?_map->On,map_cons->Op,mem_cons->O2,length_cons->Os,mem_append_right->Ov,mem_singleton->Ox,map_nil->Oy,append_assoc->Oz,length_append->OA,nil_append->OB,all_eq_true->OC,mem_append->OD,lookup_cons->OF,sum_cons->OI,getElem?_cons_zero->OJ,getElem?_cons_succ->O0
open Option renaming map_some->Yt,bind_some->Yw,some->J,none->M,map_eq_some_iff->Oo
open Nat renaming lt_irrefl->Yu,zero_le->Yv,le_refl->Oq,lt_of_lt_of_le->Ot,ne_of_lt->Ou,le_trans->OE,lt_succ_self->OH
open PySem.Value renaming ref->YB
open Sum renaming inr->YC,inl->YD
open Option.some renaming inj->YE
open Ne renaming symm->YK
open PySem.F renaming plain_max_loop->YT
open PySem.Obj renaming data_mapFields->YW
open PyProof.Rows renaming slot_tuple_getitem->Wg
open PySem.Builtin.List renaming listTooLong->Wj
open Bool renaming or_eq_true->Wo,true->Wr,false->Ws,and_eq_true->Oa,false_ne_true->Ow,false_eq_true->OG
open Decidable renaming decide->Wt
open PySem.Str renaming ofString->O
set_option genSizeOf false
section
open PySem PySem.W PyProof.Rows
set_option maxHeartbeats 0
structure PySem.W.Fast:Prop where(tw1142627371273860991 tw8181784529259596194 tw11888906779918051034 tw14913405915273526641 tw11622386968835339230 tw2708803735412663026 tw9962560047016977203 tw6411766699535570016 tw17234907828234200024 tw11986583953756306078 tw14637459530232811081 tw15998165640087533647 tw9894863110149098012 tw4576724197211422195 tw12937272357459627256 tw5628894799422397149 tw15473148116747199294 tw18363744889040559698 tw6578457100954647530 tw3899425455437402229 tw10419933042850993988 tw2347869382225650423 tw749999390548953499 tw1080483545628860395 tw15209967573867826523 tw11911707799434358917 tw6879744324892583663 tw18061346736359397835 tw18196955942971608997 tw17058065918665526775 tw16613904979033392944 tw9473045040581681106 tw15155420174854071248 tw17551497831256017548 tw3548856589606164660 tw8461162085394138480 tw6306694084533892426 tw16457943160217198151 tw4155920603987956521 tw5194830151716113548 tw15815631121001748906 tw4843795971607106883 tw5592274212905895955 tw7746003419089933962 tw18289373809955240395 tw7774482397812907918 tw176381569714805447 tw1560437094052280304 tw5343170257147639563 tw5881289099962091900 tw6152059513236826299 tw397558182392393929 tw15134132358912505334 tw2841503547338601379 tw14383741169824985360 tw12404469713514035256 tw4811333201527766621 tw10628230391595287332 tw8114575892178084079 tw3251441537774133952 tw8210079650956634942 tw3786107095038222968 tw5763467323858302931 tw5977719552086479859 tw16778104670059892164 tw4714018242436819818 tw1252535184847374629 tw14696079251132649333 tw2361893778911275290 tw8568765076158206752 tw15477008310796977259 tw15129294869664244969 tw1733525977252731540 tw13142535966519741691 tw7358381428469314211 tw17695216883690994222 tw9876616211771276623 tw126406608225562775 tw8888703443789846330 tw5926910199736043039 tw12056855103636905159 tw11313480946542292840 tw16509496358281061233 tw15520888987270017005 tw7939048842393074887 tw17141283950826770069 tw5361701440377477933 tw9790762749264843461 tw16191139499095902494 tw18330746805531980057 tw12246390680502224111 tw2771549053358691629 tw5220853374485914698 tw10152859564241496676 tw4408363758528539117 tw149355048954800914 tw6992522877743680498 tw1870521070971776701 tw15184534215582891428 tw326908774757403672 tw6675180698909582570 tw6914719617618487244 tw13701149661220214661 tw16191593865737407332 tw13563435196495329020 tw1202862950027988184 tw3226421832763352187 tw9570057211030190046 tw12616578587797550429:True)
open_top K52hd for PySem.Challenge.rw_samestride_k52_code_of_functions
end
namespace L2
open PySem PySem.Spec PyProof.Rows
noncomputable abbrev Key:=Sum Int Str
noncomputable def Zgf:Key->Yj->Bool
 |.inl k,v=>Value.isInt k v
 |.inr x,v=>Value.isStrOf x v
noncomputable def Zue(w:Yg):Key->Int
 |.inl k=>hashInt k
 |.inr x=>hashStr w x
def ZH:∀{k:Key}{v:Yj},Zgf k v=Wr->(∃i t,k=YD i/\v=Value.int i t)\/(∃x t,k=YC x/\v=Value.str x t)
 |.inl i,v,h=>by obtain⟨t,e⟩:=Value.isInt_shape (k:=i) (v:=v) h;exact .inl ⟨i,t,rfl,e⟩
 |.inr x,v,h=>by obtain⟨t,e⟩:=Value.isStrOf_shape (x:=x) (v:=v) h;exact .inr ⟨x,t,rfl,e⟩
def Zk2(i:Int)(t:Tok):Zgf (.inl i) (.int i t)=Wr:=by simp[Zgf,Value.isInt]
def Zu(x:Str)(t:Tok):Zgf (.inr x) (.str x t)=Wr:=by simp[Zgf,Value.isStrOf]
def Zq2(a b:Int):Wt ((YD a:Key)=YD b)=(a==b):=by
 by_cases e:a=b
 . subst e;simp
 . have h:¬ (YD a:Key)=YD b:=λq=>e (Sum.inl.inj q);rw[decide_eq_false h];exact(beq_eq_false_iff_ne.mpr e).symm
def ZqZ(a b:Str):Wt ((YC a:Key)=YC b)=Wt (a=b):=by
 by_cases e:a=b
 . subst e;simp
 . have h:¬ (YC a:Key)=YC b:=λq=>e (Sum.inr.inj q);rw[decide_eq_false h,decide_eq_false e]
def Zq1(a:Int)(b:Str):Wt ((YD a:Key)=YC b)=Ws:=decide_eq_false (λq=>nomatch q)
def Zq0(a:Str)(b:Int):Wt ((YC a:Key)=YD b)=Ws:=decide_eq_false (λq=>nomatch q)
def ZD(prog:Yh)(w:Yg):PySem.KeyKind prog w Key where
 is:=Zgf
 hash:=Zue w
 inj:=λv a b ha hb=>by
  rcases ZH ha with⟨i,t,rfl,rfl⟩|⟨x,t,rfl,rfl⟩
  . rcases ZH hb with⟨j,u,rfl,e⟩|⟨y,u,rfl,e⟩
    . injection e with e1 _;rw[e1]
    . exact nomatch e
  . rcases ZH hb with⟨j,u,rfl,e⟩|⟨y,u,rfl,e⟩
    . exact nomatch e
    . injection e with e1 _;rw[e1]
 byValue:=λk v h=>by rcases ZH h with⟨i,t,rfl,rfl⟩|⟨x,t,rfl,rfl⟩<;>rfl
 pyHash:=λhv h=>by
  rcases ZH hv with⟨i,t,rfl,rfl⟩|⟨x,t,rfl,rfl⟩
  . exact wpAny_pyHash_int h
  . exact wpAny_pyHash_str h
 eqBool:=λhu hv h=>by
  rcases ZH hu with⟨i,t,rfl,rfl⟩|⟨x,t,rfl,rfl⟩
  . rcases ZH hv with⟨j,u,rfl,rfl⟩|⟨y,u,rfl,rfl⟩
    . rw[Zq2]at h;exact wpAny_eqBool_int h
    . rw[Zq1]at h;exact SeqAt.EqAt.int_str i t y u _ _ _ _ h
  . rcases ZH hv with⟨j,u,rfl,rfl⟩|⟨y,u,rfl,rfl⟩
    . rw[Zq0]at h;exact SeqAt.EqAt.str_int x t j u _ _ _ _ h
    . rw[ZqZ]at h;exact wpAny_eqBool_str h
 «strs»:=λk x t v h=>by
  rcases ZH h with⟨i,u,rfl,e⟩|⟨y,u,rfl,e⟩
  . exact nomatch e
  . injection e with e1 _;subst e1;cases v<;>rfl
def ZhL(prog:Yh)(w:Yg)(i:Int)(t:Tok):(ZD prog w).is (.inl i) (.int i t)=Wr:=Zk2 i t
def ZhK(prog:Yh)(w:Yg)(x:Str)(t:Tok):(ZD prog w).is (.inr x) (.str x t)=Wr:=Zu x t
inductive V where
 |non|bl (b:Bool)|int (i:Int)|str (x:Str)|byt (b:Array UInt8)|flt (b:UInt64)|ref (a:Yi)|ty (n:String)
 deriving DecidableEq
def RelV:V->Yj->Prop
 |.non,u=>u=Value.none
 |.bl b,u=>u=Value.bool b
 |.int i,u=>∃t,u=Value.int i t
 |.str x,u=>∃t,u=Value.str x t
 |.byt b,u=>∃t,u=Value.bytes b t
 |.flt b,u=>∃t,u=Value.float b t
 |.ref a,u=>u=YB a
 |.ty n,u=>u=Value.type n
abbrev Zn:List V->List Yj->Prop:=Paired RelV
theorem Zn.length(r:Zn xs us):xs.length=us.length:=Paired.length r
theorem Zn.get:∀{xs:List V}{us:List Yj}{i:Nat}{x:V},Zn xs us->xs[i]?=J x->∃u,us[i]?=J u/\RelV x u
 |_,_,_,_,.nil,e=>by simp at e
 |_,_,0,_,.cons r _,e=>by simp at e;subst e;exact⟨_,rfl,r⟩
 |_,_,i+1,x,.cons _ t,e=>by obtain⟨u,R,h2⟩:=Zn.get (i:=i) (x:=x) t (by simpa using e);exact⟨u,by simpa using R,h2⟩
theorem Zn.set(r:RelV x u):∀{xs:List V}{us:List Yj} (i:Nat),Zn xs us->Zn (xs.set i x) (us.set i u)
 |_,_,_,.nil=>.nil
 |_,_,0,.cons _ t=>.cons r t
 |_,_,i+1,.cons q t=>.cons q (Zn.set r i t)
theorem Zn.append:∀{xs ys:List V}{us ws:List Yj},Zn xs us->Zn ys ws->Zn (xs++ys) (us++ws)
 |_,_,_,_,.nil,s=>s
 |_,_,_,_,.cons r t,s=>.cons r (Zn.append t s)
theorem Zn.take:∀{xs:List V}{us:List Yj} (n:Nat),Zn xs us->Zn (xs.take n) (us.take n)
 |_,_,0,_=>.nil
 |_,_,_+1,.nil=>.nil
 |_,_,n+1,.cons r t=>.cons r (Zn.take n t)
theorem Zn.drop:∀{xs:List V}{us:List Yj} (n:Nat),Zn xs us->Zn (xs.drop n) (us.drop n)
 |_,_,0,r=>r
 |_,_,_+1,.nil=>.nil
 |_,_,n+1,.cons _ t=>Zn.drop n t
def Zdz:Option V->Option Yj->Prop
 |some v,J u=>RelV v u
 |none,M=>True
 |_,_=>False
def KV:List (κ×V)->List (κ×Yj)->Prop:=Paired λ(p:κ×V) (q:κ×Yj)=>p.1=q.1/\RelV p.2 q.2
noncomputable def kV:Key->V
 |.inl i=>.int i
 |.inr x=>.str x
inductive HO where
 |lst (xs:List V)
 |tup (xs:List V)
 |dK (kvs:List (Key×V))|dT (kvs:List (List Key×V))
 |set (S_:Int->Bool) (n:Nat)
 |ins (C dx:Yi) (fs:List (Str×V))
 |own (x:Yi)
 |xd (fs:List (Str×V))
 |met (f x:Yi)
 |rng (lo hi:Int)
 |frz (o:Obj) (u:HO)
 |tbl (ps:Array Yj)
 |ext (φ:YF->Prop)
abbrev Hp:=Yi->Option HO
noncomputable def upd(H:Hp)(a:Yi)(o:HO):Hp:=λb=>if b=a then J o else H b
def Zi:upd H a o a=J o:=by unfold upd;rw[if_pos rfl]
def Zq(h:b≠a):upd H a o b=H b:=by unfold upd;rw[if_neg h]
def ZK{H:Hp}(h:H a=J o)(h':H b=M):a≠b:=by intro e;subst e;rw[h]at h';cases h'
section
variable (P:Yh)(w:Yg)
def ZaO(h:YF)(a:Yi)(items:Array Yj):Prop:=∃o,h.get? a=J o/\o.cls=.type "tuple" /\ o.dict=M/\∃n,o.data=.seq items n
theorem ZaO.tup(x:ZaO h a items):IsTup h a items:=let⟨o,ho,hc,_,r⟩:=x;⟨o,ho,hc,r⟩
theorem ZaO.fresh(h:YF)(items:Array Yj):ZaO (h.push {cls:=.type "tuple",data:=.seq items}) h.objs.size items:=⟨_,Oj _ rfl,rfl,rfl,_,rfl⟩
def Z5(H:Hp)(h:YF)(a:Yi):HO->Prop
 |.lst xs=>xs.length<=sizeLine/\∃(its:List Yj) (n:Nat),Zn xs its/\h.get? a=J {cls:=.type "list",data:=.seq its.toArray n}
 |.tup xs=>xs.length<=sizeLine/\∃its:List Yj,Zn xs its/\ZaO h a its.toArray
 |.dK kvs=>kvs.length<=sizeLine/\(a==Ye)=Ws/\∃vs,KV kvs vs/\h.DictOf (ZD P w) a vs
 |.dT kvs=>kvs.length<=sizeLine/\(a==Ye)=Ws/\∃xs:List (List Key×Yi×Yj),
  Paired (λ(p:List Key×V) (q:List Key×Yi×Yj)=>p.1=q.1/\H q.2.1=J (.tup (p.1.map kV))/\RelV p.2 q.2.2) kvs xs /\
  ∃o es ep,h.get? a=J o/\o.ExactDict/\o.data=.dict es ep/\es.toList=xs.map (entryOfKey (tupleKind (ZD P w)))/\(xs.map (·.1)).Nodup
 |.set S_ n=>h.SetOf (intKind P w) a S_ n
 |.ins C dx fs=>H dx=J (.own a)/\fs.length<=1000/\dx≠a/\h.get? a=J (We C dx) /\
  ∃mA,h.Ns1 dx mA/\(∀f,Zdz (fs.lookup f) (mA f))/\PySem.Within mA (fs.map (·.1))
 |.own _=>∃o,h.get? a=J o
 |.xd fs=>∃mA,h.Ns1 a mA/\∀f,Zdz (fs.lookup f) (mA f)
 |.rng lo hi=>∃t u v,h.get? a=J {cls:=.type "range",data:=.fields #[.int lo t,.int hi u,.int 1 v]}
 |.frz o u=>h.get? a=J o/\Z5 H h a u
 |.tbl ps=>h.get? a=J {cls:=.none,data:=.fields ps}
 |.met f x=>h.get? a=J (PySem.W.methodObj (.ref f) (.ref x))
 |.ext φ=>φ h/\(∃o,h.get? a=J o)/\∀R h2:YF,φ R->(∀o,R.get? a=J o->h2.get? a=J o)->φ h2
def HOk(H:Hp)(h:YF):Prop:=∀a o,H a=J o->Z5 P w H h a o
end
section
variable {P:Yh}{w:Yg}{H H':Hp}{h h':YF}{a:Yi}{o:HO}
theorem Z5.lt(x:Z5 P w H h a o):a<h.objs.size:=by
 cases o with
 |lst xs=>obtain⟨_,_,_,_,e⟩:=x;exact Ym e
 |tup xs=>obtain⟨_,_,_,p⟩:=x;exact p.tup.lt
 |dK kvs=>obtain⟨_,_,_,_,o,_,_,e,_⟩:=x;exact Ym e
 |dT kvs=>obtain⟨_,_,_,_,o,_,_,e,_⟩:=x;exact Ym e
 |set S_ n=>obtain⟨o,_,_,_,e,_⟩:=x;exact Ym e
 |ins C dx fs=>obtain⟨_,_,_,e,_⟩:=x;exact Ym e
 |own y=>obtain⟨_,e⟩:=x;exact Ym e
 |xd fs=>obtain⟨_,⟨_,_,_,e,_⟩,_⟩:=x;exact Ym e
 |rng lo hi=>obtain⟨_,_,_,e⟩:=x;exact Ym e
 |frz ob u=>obtain⟨e,_⟩:=x;exact Ym e
 |tbl ps=>exact Ym (show h.get? a=J _ from x)
 |met f y=>exact Ym (show h.get? a=J _ from x)
 |ext φ=>obtain⟨_,⟨_,e⟩,_⟩:=x;exact Ym e
theorem Paired.mapP:∀{l₁:List α}{l₂:List β},Paired F l₁ l₂->(∀a b,F a b->G a b)->Paired G l₁ l₂
 |_,_,.nil,_=>.nil
 |_,_,.cons r t,f=>.cons (f _ _ r) (Paired.mapP t f)
def Z5.stay(x:Z5 P w H h a o)(k:∀b u,(b=a\/H b=J (.own a))->h.get? b=J u->h'.get? b=J u)
 (ho:∀b,H b=J (.own a)->H' b=J (.own a)) (ht:∀b xs,H b=J (.tup xs)->H' b=J (.tup xs)):Z5 P w H' h' a o:=by
 induction o with
 |lst xs=>obtain⟨z,its,n,r,e⟩:=x;exact⟨z,its,n,r,k _ _ (.inl rfl) e⟩
 |tup xs=>obtain⟨z,its,r,ob,e,c⟩:=x;exact⟨z,its,r,ob,k _ _ (.inl rfl) e,c⟩
 |dK kvs=>obtain⟨z,y,vs,r,ob,es,ep,e,c⟩:=x;exact⟨z,y,vs,r,ob,es,ep,k _ _ (.inl rfl) e,c⟩
 |dT kvs=>obtain⟨z,y,xs,r,ob,es,ep,e,c⟩:=x;exact⟨z,y,xs,Paired.mapP r λp q z=>⟨z.1,ht _ _ z.2.1,z.2.2⟩,ob,es,ep,k _ _ (.inl rfl) e,c⟩
 |set S_ n=>obtain⟨ob,es,ep,t,e,c⟩:=x;exact⟨ob,es,ep,t,k _ _ (.inl rfl) e,c⟩
 |ins C dx fs=>obtain⟨d,z,ne,e,mA,⟨od,es,ep,e2,c⟩,r⟩:=x;exact⟨ho _ d,z,ne,k _ _ (.inl rfl) e,mA,⟨od,es,ep,k _ _ (.inr d) e2,c⟩,r⟩
 |own y=>obtain⟨ob,e⟩:=x;exact⟨ob,k _ _ (.inl rfl) e⟩
 |xd fs=>obtain⟨mA,⟨od,es,ep,e,c⟩,r⟩:=x;exact⟨mA,⟨od,es,ep,k _ _ (.inl rfl) e,c⟩,r⟩
 |rng lo hi=>obtain⟨t,u,v,e⟩:=x;exact⟨t,u,v,k _ _ (.inl rfl) e⟩
 |frz ob u ih=>obtain⟨e,q⟩:=x;exact⟨k _ _ (.inl rfl) e,ih q⟩
 |tbl ps=>have e:h.get? a=J {cls:=.none,data:=.fields ps}:=x;show h'.get? a=J {cls:=.none,data:=.fields ps};exact k a _ (.inl rfl) e
 |met f y=>have e:h.get? a=J (PySem.W.methodObj (.ref f) (.ref y)):=x;show h'.get? a=J (PySem.W.methodObj (.ref f) (.ref y));exact k a _ (.inl rfl) e
 |ext φ=>obtain⟨p,⟨o,e⟩,st⟩:=x;exact⟨st _ _ p λo q=>k _ _ (.inl rfl) q,⟨o,k _ _ (.inl rfl) e⟩,st⟩
theorem HOk.lt(x:HOk P w H h)(e:H a=J o):a<h.objs.size:=(x a o e).lt
def HOk.fresh(x:HOk P w H h)(e:h.objs.size<=a):H a=M:=by
 cases q:H a with
 |none=>rfl
 |some u=>exact absurd (Ot (x.lt q) e) (Yu _)
def HOk.kept(x:HOk P w H h)(k:∀b u,h.get? b=J u->h'.get? b=J u):HOk P w H h':=λa o e=>(x a o e).stay (λb u _ q=>k b u q) (λ_ q=>q) λ_ _ q=>q
def HOk.laid(x:HOk P w H h)(k:∀b u,h.get? b=J u->h'.get? b=J u)(hp:h.objs.size<=a)(new:Z5 P w (upd H a o) h' a o):HOk P w (upd H a o) h':=λb u e=>by
 have hn:=x.fresh hp;by_cases hb:b=a
 . subst hb;rw[Zi]at e;cases e;exact new
 . rw[Zq hb]at e;exact(x b u e).stay (λc v _ q=>k c v q) (λc q=>by rw[Zq (ZK q hn)];exact q) λc xs q=>by rw[Zq (ZK q hn)];exact q
end
def Rd(H:Hp)(a:Yi)(u:HO):Prop:=H a=J u\/∃o,H a=J (.frz o u)
def Rd.ok{P:Yh}{w:Yg}{H:Hp}{h:YF}{a:Yi}{u:HO}(r:Rd H a u)(x:HOk P w H h):Z5 P w H h a u:=by
 rcases r with r|⟨o,r⟩
 . exact x a u r
 . obtain⟨_,q⟩:=x a _ r;exact q
def Mut:Option HO->Prop
 |some (.lst _)=>True
 |some (.dK _)=>True
 |some (.dT _)=>True
 |some (.set _ _)=>True
 |some (.ins _ _ _)=>True
 |some (.ext _)=>True
 |_=>False
section
variable {P:Yh}{w:Yg}{H:Hp}{h h':YF}{x e:Yi}{o':HO}
def HOk.write(ok:HOk P w H h)(mu:Mut (H x))(he:e=x\/H e=J (.own x))(k:∀b u,b≠e->h.get? b=J u->h'.get? b=J u)(dC:∃u,h'.get? e=J u)
 (new:Z5 P w (upd H x o') h' x o'):HOk P w (upd H x o') h':=λb u q=>by
 have dL:∀c y,H c=J (.own y)->c≠x:=λc y r z=>by subst z;rw[r]at mu;exact mu
 have fL:∀c xs,H c=J (.tup xs)->c≠x:=λc xs r z=>by subst z;rw[r]at mu;exact mu
 by_cases hb:b=x
 . subst hb;rw[Zi]at q;cases q;exact new
 . rw[Zq hb]at q;by_cases hbe:b=e
   . have q':H b=J (.own x):=by
      rcases he with z|z
      . exact absurd (hbe.trans z) hb
      . rw[hbe];exact z
     rw[q]at q';cases q';obtain⟨v,hv⟩:=dC;exact⟨v,by rw[hbe];exact hv⟩
   . refine(ok b u q).stay (λc v hc r=>k c v ?_ r) (λc r=>by rw[Zq (dL c b r)];exact r) λc xs r=>by rw[Zq (fL c xs r)];exact r
     rcases hc with rfl|hc
     . exact hbe
     . rintro rfl;rcases he with z|z
       . exact dL c b hc z
       . rw[hc]at z;cases z;exact hb rfl
end
structure Un(fs ex:List Yi)(H H':Hp)(h h':YF):Prop where
 keep:∀b o,h.get? b=J o->H b=M->b ∉ fs->b ∉ ex->h'.get? b=J o
 slot:∀b o,h.get? b=J o->H b=M->b∈fs->b ∉ ex->∃sl,h'.get? b=J {o with slots:=sl}
 free:∀b o,h.get? b=J o->H b=M->b ∉ ex->H' b=M
 there:∀b o,h.get? b=J o->b ∉ ex->∃o',h'.get? b=J o'
 tups:∀b xs,H b=J (.tup xs)->H' b=J (.tup xs)
 frzs:∀b o u,H b=J (.frz o u)->H' b=J (.frz o u)
 tbls:∀b ps,H b=J (.tbl ps)->∃more,H' b=J (.tbl (ps++more))
section
variable {fs ex:List Yi}{H H1 H2:Hp}{h R h2 h':YF}{a x e:Yi}{o:HO}
def Un.any(u:Un fs ex H H1 h R)(q:h.get? b=J ob)(n:H b=M)(hx:b ∉ ex):∃sl,R.get? b=J {ob with slots:=sl}:=by
 by_cases hb:b∈fs
 . exact u.slot b ob q n hb hx
 . exact⟨ob.slots,u.keep b ob q n hb hx⟩
def Un.trans(a:Un fs ex H H1 h R)(b:Un fs ex H1 H2 R h2):Un fs ex H H2 h h2 where
 keep:=λc ob q n hc hx=>b.keep c ob (a.keep c ob q n hc hx) (a.free c ob q n hx) hc hx
 slot:=λc ob q n hc hx=>by obtain⟨sl,e1⟩:=a.slot c ob q n hc hx;obtain⟨dw,e2⟩:=b.slot c _ e1 (a.free c ob q n hx) hc hx;exact⟨dw,e2⟩
 free:=λc ob q n hx=>by obtain⟨o',e1⟩:=a.there c ob q hx;exact b.free c o' e1 (a.free c ob q n hx) hx
 there:=λc ob q hx=>by obtain⟨o',e1⟩:=a.there c ob q hx;exact b.there c o' e1 hx
 tups:=λc xs q=>b.tups c xs (a.tups c xs q)
 frzs:=λc ob xs q=>b.frzs c ob xs (a.frzs c ob xs q)
 tbls:=λc ps q=>by obtain⟨m1,e1⟩:=a.tbls c ps q;obtain⟨m2,e2⟩:=b.tbls c _ e1;exact⟨m1++m2,by rw[e2,Array.append_assoc]⟩
def Un.kept(k:∀b u,h.get? b=J u->h'.get? b=J u):Un fs ex H H h h':=⟨λb ob q _ _ _=>k b ob q,λb ob q _ _ _=>⟨ob.slots,k b ob q⟩,λ_ _ _ n _=>n,λb ob q _=>⟨ob,k b ob q⟩,λ_ _ q=>q,λ_ _ _ q=>q,λ_ ps q=>⟨#[],by rw[q];simp⟩⟩
def Un.refl:Un fs ex H H h h:=Un.kept λ_ _ q=>q
def Un.laid(k:∀b u,h.get? b=J u->h'.get? b=J u)(hp:h.objs.size<=a)(hn:H a=M):Un fs ex H (upd H a o) h h' where
 keep:=λb u q _ _ _=>k b u q
 slot:=λb u q _ _ _=>⟨u.slots,k b u q⟩
 free:=λb u q n _=>by rw[Zq (Ou (Ot (Ym q) hp))];exact n
 there:=λb u q _=>⟨u,k b u q⟩
 tups:=λb xs q=>by rw[Zq (ZK q hn)];exact q
 frzs:=λb u xs q=>by rw[Zq (ZK q hn)];exact q
 tbls:=λb ps q=>⟨#[],by rw[Zq (ZK q hn),q];simp⟩
def Un.write(mu:Mut (H x))(he:e=x\/H e=J (.own x))(k:∀b u,b≠e->h.get? b=J u->h'.get? b=J u)(dC:∃u,h'.get? e=J u):Un fs ex H (upd H x o) h h':=by
 have hx:∀b,H b=M->b≠x:=λb n z=>by subst z;rw[n]at mu;exact mu
 have hb:∀b,H b=M->b≠e:=λb n z=>by
  subst z;rcases he with r|r
  . exact hx b n r
  . rw[n]at r;cases r
 have hm:∀b u,H b=J u->¬ Mut (J u)->b≠x:=λb u q nm z=>by subst z;rw[q]at mu;exact nm mu
 refine⟨λb u q n _ _=>k b u (hb b n) q,λb u q n _ _=>⟨u.slots,k b u (hb b n) q⟩,λb u q n _=>by rw[Zq (hx b n)];exact n,λb u q _=>?_,
  λb xs q=>by rw[Zq (hm b _ q λz=>z)];exact q,λb u xs q=>by rw[Zq (hm b _ q λz=>z)];exact q,λb ps q=>⟨#[],by rw[Zq (hm b _ q λz=>z),q];simp⟩⟩
 by_cases hbe:b=e
 . subst hbe;exact dC
 . exact⟨u,k b u hbe q⟩
end
def trk(h:YF)(H:Hp):List Yi:=(List.range h.objs.size).filter λa=>(H a).isSome
def ZgU(h:YF)(H:Hp):YF:=PySem.W.hideAll h (trk h H)
def Zk4(h:YF)(H:Hp):(ZgU h H).objs.size=h.objs.size:=PySem.W.hideAll_size _ _
def Zmz(e:h.get? b=J o)(n:H b=M):(ZgU h H).get? b=J o:=
 PySem.W.hideAll_get _ e λhm=>by have q:(H b).isSome=Wr:=(List.mem_filter.mp hm).2;rw[n]at q;simp at q
def Zoc(e:(ZgU h H).get? b=J o):h.get? b=J o/\H b=M:=by
 have e':h.get? b=J o:=PySem.W.of_hideAll (trk h H) e;refine⟨e',?_⟩;cases q:H b with
 |none=>rfl
 |some x=>have hm:b∈trk h H:=List.mem_filter.mpr ⟨List.mem_range.mpr (Ym e'),by simp[q]⟩;have z:(ZgU h H).get? b=M:=PySem.W.hideAll_none (trk h H) hm;rw[z]at e;cases e
structure Mod(K:Yk)(mg:Str->Option Yj)(base:YF):Prop where
 kin:K.In base
 glob:base.Ns Yd mg
 blt:∃mb,base.Ns builtinsNs mb/\∀x:Str,x ≠ "__name__" -> mb x=bootBuiltins x
 nolimit:base.NoLimit
structure Cx where
 prog:Yh
 w:Yg
 K:Yk
 mg:Str->Option Yj
 base:YF
 A:YG
 N:List Str
 s₀:Yb
 H₀:Hp
 env:Env
 outer:List Env
 stack:List Env
 ex:List Yi
 fn:Str->Bool
 calm:Bool
 pn:List (Yi×Obj)
 xe:Yj->Yb->Prop
noncomputable def frs(l:List Env):List Yi:=l.filterMap (·.frame)
abbrev Cx.fs(X:Cx):List Yi:=frs X.outer
def Vis(sc:Scope)(x:Str):Prop:=sc.names.lookup x=J .local\/sc.names.lookup x=J .cell\/sc.names.lookup x=J .free
def Loc(sc:Scope)(x:Str):Prop:=sc.names.lookup x=J .local\/sc.names.lookup x=J .cell
def Look(env:Env)(h:YF)(m:Str->Option Yj)(x:Str)(u:Yj):Prop:=(env.kindOf x=J .local/\m x=J u)\/((env.kindOf x=J .cell\/env.kindOf x=J .free)/\∃c,env.cells.lookup x=J c/\h.IsCell c (J u))
structure Cx.Ok(X:Cx):Prop where
 mod:Mod X.K X.mg X.base
 kind:X.env.scope.kind=.function
 glob:X.env.globals=Yd
 blt:X.env.builtins=builtinsNs
 above:X.s₀.heap.objs.size<=X.env.locals
 inj:∀x y c,X.env.cells.lookup x=J c->X.env.cells.lookup y=J c->x=y
 has:∀x,(X.env.kindOf x=J .cell\/X.env.kindOf x=J .free)->∃c,X.env.cells.lookup x=J c
 cab:∀x c,X.fn x=Wr->X.env.cells.lookup x=J c->X.s₀.heap.objs.size<=c
 hd:X.calm=Wr->X.A.handled=M
 frames:X.A.frames=J X.stack
 stk:X.stack=X.outer\/(X.stack=X.env::X.outer/\X.env.frame=J X.env.locals)
 exf:∀b∈X.ex,b≠X.env.locals/\∀x c,X.env.cells.lookup x=J c->c≠b
 bs:∀b o,X.base.get? b=J o->X.s₀.heap.get? b=J o/\X.H₀ b=M
 bsz:X.base.objs.size<=X.s₀.heap.objs.size
 noex:∀b o,X.base.get? b=J o->b ∉ X.ex
 exfs:∀b∈X.ex,b ∉ X.fs
 funs:X.s₀.heap.FunFrames X.base X.outer
 frf:∀b∈X.fs,X.H₀ b=M
structure Inv(X:Cx)(aa:List (Yi×Obj))(Z:List (Option V))(H:Hp)(s:Yb):Prop where
 ok:X.Ok
 os:s.os=X.s₀.os
 bare:AllBare s.gens
 base:Un X.fs X.ex X.H₀ H X.s₀.heap s.heap
 loc:∃m,s.heap.Ns X.env.locals m/\∀(i:Nat) (x:Str) (v:V),X.N[i]?=J x->Z[i]?=J (J v)->Vis X.env.scope x->∃u,RelV v u/\Look X.env s.heap m x u
 cell:∀x c,X.env.cells.lookup x=J c->∃v,s.heap.IsCell c v
 free:H X.env.locals=M
 freeC:∀x c,X.env.cells.lookup x=J c->H c=M
 pin:∀p∈X.pn++aa,s.heap.get? p.1=J p.2/\H p.1=M/\p.1≠X.env.locals/\p.1 ∉ X.fs/\∀v,p.2.data≠.cell v
 hok:HOk X.prog X.w H s.heap
 len:Z.length=X.N.length
section
variable {X:Cx}{aa:List (Yi×Obj)}{Z:List (Option V)}{H H':Hp}{s:Yb}{h':YF}
def Cx.Ok.nofr(ok:X.Ok)(e:X.base.get? b=J o):b ∉ X.fs:=λhb=>by have:=(ok.funs.mem hb).1;rw[e]at this;cases this
theorem Inv.bs(I:Inv X aa Z H s):∀b o,X.base.get? b=J o->s.heap.get? b=J o/\H b=M:=λb o e=>⟨I.base.keep b o (I.ok.bs b o e).1 (I.ok.bs b o e).2 (I.ok.nofr e) (I.ok.noex b o e),I.base.free b o (I.ok.bs b o e).1 (I.ok.bs b o e).2 (I.ok.noex b o e)⟩
def Inv.bk(I:Inv X aa Z H s):∀b o,X.base.get? b=J o->s.heap.get? b=J o:=λb o e=>(I.bs b o e).1
theorem Inv.mod(I:Inv X aa Z H s):Mod X.K X.mg X.base:=I.ok.mod
def Inv.kIn(I:Inv X aa Z H s):X.K.In s.heap:=I.ok.mod.kin.keeps I.bk
theorem Inv.lt(I:Inv X aa Z H s):X.env.locals<s.heap.objs.size:=let⟨_,hn,_⟩:=I.loc;hn.lt
def Inv.sz(I:Inv X aa Z H s):X.s₀.heap.objs.size<=s.heap.objs.size:=OE I.ok.above (Nat.le_of_lt I.lt)
def Inv.nofs(I:Inv X aa Z H s)(h:s.heap.objs.size<=a):a ∉ X.fs:=λhb=>by obtain⟨_,o,ho,_⟩:=I.ok.funs.mem hb;exact absurd (Ot (Ym ho) (OE I.sz h)) (Yu _)
def Inv.cne(I:Inv X aa Z H s):∀x c,X.env.cells.lookup x=J c->c≠X.env.locals:=λx c e z=>by obtain⟨v,o,ho,hd⟩:=I.cell x c e;obtain⟨m,⟨o',es,ep,cT,gg,_⟩,_⟩:=I.loc;rw[z,cT]at ho;cases ho;rw[gg]at hd;cases hd
theorem Inv.funs(I:Inv X aa Z H s):s.heap.FunFrames X.base X.outer:=by
 have all:∀(l:List Env),(∀b∈frs l,b∈X.fs)->X.s₀.heap.FunFrames X.base l->s.heap.FunFrames X.base l:=by
  intro l;induction l with
  |nil=>intro _ _;trivial
  |cons env r ih=>intro hs hl;obtain⟨hk,⟨L,o,hf,hn,ho,hd⟩,hr⟩:=hl;have hL:L∈X.fs:=hs L (by unfold frs;rw[List.filterMap_cons,hf];exact Oi);obtain⟨sl,e⟩:=I.base.slot L o ho (I.ok.frf L hL) hL λz=>I.ok.exfs L z hL;exact⟨hk,⟨L,_,hf,hn,e,hd⟩,ih (λb hb=>hs b (by unfold frs;rw[List.filterMap_cons,hf];exact Oh _ hb)) hr⟩
 exact all X.outer (λ_ hb=>hb) I.ok.funs
theorem Inv.stack(I:Inv X aa Z H s):s.heap.FunFrames X.base X.stack:=by
 rcases I.ok.stk with e|⟨e,hf⟩
 . rw[e];exact I.funs
 . rw[e];obtain⟨m,hn,_⟩:=I.loc;refine .cons (by rw[I.ok.kind];decide) hf hn ?_ I.funs;exact Heap.get?_none_of_le (OE I.ok.bsz I.ok.above)
def Inv.stkSub(I:Inv X aa Z H s):∀b∈frs X.stack,b∈X.env.locals::X.fs:=λb hb=>by
 rcases I.ok.stk with e|⟨e,hf⟩
 . rw[e]at hb;exact Oh _ hb
 . rw[e]at hb;unfold frs at hb;rw[List.filterMap_cons,hf]at hb;exact hb
def Inv.stkFree(I:Inv X aa Z H s):∀b∈frs X.stack,H b=M:=λb hb=>by
 rcases O2.mp (I.stkSub b hb)with e|hb
 . rw[e];exact I.free
 . obtain⟨_,o,ho,_⟩:=I.ok.funs.mem hb;exact I.base.free b o ho (I.ok.frf b hb) λz=>I.ok.exfs b z hb
def Inv.step{g':Array GenState}{t':Nat}{d':Drawn}{ch:List Yi}(I:Inv X aa Z H s)
 (bP:∀b∈ch,(b∈X.ex\/X.s₀.heap.objs.size<=b)/\b≠X.env.locals/\(∀x c,X.env.cells.lookup x=J c->c≠b)/\∀p∈X.pn++aa,p.1≠b)
 (keep:∀b o,b≠X.env.locals->b ∉ X.fs->b ∉ ch->s.heap.get? b=J o->H b=M->h'.get? b=J o)
 (slot:∀b o,b≠X.env.locals->b∈X.fs->b ∉ ch->s.heap.get? b=J o->H b=M->∃sl,h'.get? b=J {o with slots:=sl}) (free:∀b o,b ∉ ch->s.heap.get? b=J o->H b=M->H' b=M)
 (there:∀b o,b ∉ ch->s.heap.get? b=J o->∃o',h'.get? b=J o')
 (tups:∀b xs,H b=J (.tup xs)->H' b=J (.tup xs)) (frzs:∀b o u,H b=J (.frz o u)->H' b=J (.frz o u)) (tbls:∀b ps,H b=J (.tbl ps)->∃more,H' b=J (.tbl (ps++more)))
 (ns:∀m,s.heap.Ns X.env.locals m->h'.Ns X.env.locals m) (hok:HOk X.prog X.w H' h') (hg:AllBare g') :
 Inv X aa Z H' {s with heap:=h',gens:=g',drawn:=d',toks:=t'}:=by
 have gJ:∀b o,X.s₀.heap.get? b=J o->b≠X.env.locals:=λb o e=>Ou (Ot (Ym e) I.ok.above);have eX:∀b o,X.s₀.heap.get? b=J o->b ∉ X.ex->b ∉ ch:=λb o e hx hb=>by
  rcases(bP b hb).1 with z|z
  . exact hx z
  . exact absurd (Ot (Ym e) z) (Yu _)
 have cr:∀x c,X.env.cells.lookup x=J c->∀v,s.heap.IsCell c v->h'.IsCell c v:=λx c e v ⟨o,ho,hd⟩=>by
  have dN:c ∉ ch:=λz=>(bP c z).2.2.1 x c e rfl;by_cases hc:c∈X.fs
  . obtain⟨sl,q⟩:=slot c o (I.cne x c e) hc dN ho (I.freeC x c e);exact⟨_,q,hd⟩
  . exact⟨o,keep c o (I.cne x c e) hc dN ho (I.freeC x c e),hd⟩
 refine⟨I.ok,I.os,hg,⟨λb o e n hb hx=>?_,λb o e n hb hx=>?_,λb o e n hx=>?_,λb o e hx=>?_,λb xs e=>tups b xs (I.base.tups b xs e),λb o xs e=>frzs b o xs (I.base.frzs b o xs e),λb ps e=>?_⟩,?_,λx c e=>?_,?_,λx c e=>?_,λp hp=>?_,hok,I.len⟩
 . exact keep b o (gJ b o e) hb (eX b o e hx) (I.base.keep b o e n hb hx) (I.base.free b o e n hx)
 . obtain⟨sl,e1⟩:=I.base.slot b o e n hb hx;obtain⟨dw,e2⟩:=slot b _ (gJ b o e) hb (eX b o e hx) e1 (I.base.free b o e n hx);exact⟨dw,e2⟩
 . obtain⟨o',e1⟩:=I.base.there b o e hx;exact free b o' (eX b o e hx) e1 (I.base.free b o e n hx)
 . obtain⟨o',e1⟩:=I.base.there b o e hx;exact there b o' (eX b o e hx) e1
 . obtain⟨m1,e1⟩:=I.base.tbls b ps e;obtain⟨m2,e2⟩:=tbls b _ e1;exact⟨m1++m2,by rw[e2,Array.append_assoc]⟩
 . obtain⟨m,hn,hl⟩:=I.loc;refine⟨m,ns m hn,λi x v e1 e2 e3=>?_⟩;obtain⟨u,r,l⟩:=hl i x v e1 e2 e3;refine⟨u,r,?_⟩;rcases l with l|⟨k,c,e,z⟩
   . exact .inl l
   . exact .inr ⟨k,c,e,cr x c e _ z⟩
 . obtain⟨v,z⟩:=I.cell x c e;exact⟨v,cr x c e v z⟩
 . obtain⟨m,⟨o,_,_,ho,_⟩,_⟩:=I.loc;exact free _ o (λz=>(bP _ z).2.1 rfl) ho I.free
 . obtain⟨v,o,ho,hd⟩:=I.cell x c e;exact free c o (λz=>(bP c z).2.2.1 x c e rfl) ho (I.freeC x c e)
 . obtain⟨e,n,ne,nf,d⟩:=I.pin p hp;have dN:p.1 ∉ ch:=λz=>(bP p.1 z).2.2.2 p hp rfl;exact⟨keep p.1 p.2 ne nf dN e n,free p.1 p.2 dN e n,ne,nf,d⟩
theorem Inv.un{t':Nat}(I:Inv X aa Z H s)(u:Un X.fs [] H H' s.heap h')(hok:HOk X.prog X.w H' h'):Inv X aa Z H' {s with heap:=h',toks:=t'}:=by
 obtain⟨m,⟨o,es,ep,ho,r⟩,_⟩:=id I.loc;obtain⟨sl,hL⟩:=u.any ho I.free (by simp);exact I.step (g':=s.gens) (d':=s.drawn) (ch:=[]) (λ_ z=>nomatch z) (λb o _ hb _ e n=>u.keep b o e n hb (by simp)) (λb o _ hb _ e n=>u.slot b o e n hb (by simp)) (λb o _ e n=>u.free b o e n (by simp)) (λb o _ e=>u.there b o e (by simp)) u.tups u.frzs u.tbls (λm' hm=>by
   obtain⟨o',eL,gz,cT,r'⟩:=hm;rw [ho] at cT;cases cT;exact⟨_,eL,gz,hL,r'⟩) hok I.bare
theorem Inv.call{g':Array GenState}{t':Nat}{d':Drawn}{ch:List Yi}(I:Inv X aa Z H s)(u:Un (frs X.stack) ch H H' s.heap h')(hok:HOk X.prog X.w H' h')(hg:AllBare g')
   (bP:∀ b∈ch,(b∈X.ex\/X.s₀.heap.objs.size<=b)/\b≠X.env.locals/\(∀ x c,X.env.cells.lookup x=J c->c≠b)/\∀ p∈X.pn++aa,p.1≠b) :
   Inv X aa Z H' {s with heap:=h',gens:=g',drawn:=d',toks:=t'}:=by
 obtain⟨m,⟨o,es,ep,ho,r⟩,_⟩:=id I.loc;obtain⟨sl,hL⟩:=u.any ho I.free λz=>(bP _ z).2.1 rfl;exact I.step (ch:=ch) bP (λb o hL hb hc e n=>u.keep b o e n (λz=>(O2.mp (I.stkSub b z)).elim hL hb) hc) (λb o _ _ hc e n=>u.any e n hc) (λb o hc e n=>u.free b o e n hc) (λb o hc e=>u.there b o e hc) u.tups u.frzs u.tbls (λm' hm=>by
   obtain⟨o',eL,gz,cT,r'⟩:=hm;rw [ho] at cT;cases cT;exact⟨_,eL,gz,hL,r'⟩) hok hg
def Inv.turned{t':Nat}{it:Yi}(I:Inv X aa Z H s)(k:∀b o,b≠it->s.heap.get? b=J o->h'.get? b=J o)(hn:H it=M)(hL:it≠X.env.locals)
 (R:it∈X.ex\/X.s₀.heap.objs.size<=it) (h2:∀x c,X.env.cells.lookup x=J c->c≠it) (h3:∀p∈X.pn++aa,p.1≠it):Inv X aa Z H {s with heap:=h',toks:=t'}:=by
 have cf:∀b u,H b=J u->b≠it:=λb u e z=>by rw[z,hn]at e;cases e
 refine I.step (g':=s.gens) (d':=s.drawn) (ch:=[it]) (λb hb=>?_) (λb o _ _ hc e _=>k b o (λz=>hc (by simp[z])) e) (λb o _ _ hc e _=>⟨o.slots,k b o (λz=>hc (by simp[z])) e⟩) (λ_ _ _ _ n=>n)
  (λb o hc e=>⟨o,k b o (λz=>hc (by simp[z])) e⟩) (λ_ _ e=>e) (λ_ _ _ e=>e) (λb ps e=>⟨#[],by rw[e];simp⟩) (λm hm=>?_) (λb u e=>?_) I.bare
 . have e:b=it:=by simpa using hb
   subst e;exact⟨R,hL,h2,h3⟩
 . obtain⟨o,es,ep,ho,r⟩:=hm;exact⟨o,es,ep,k _ o (YK hL) ho,r⟩
 . refine(I.hok b u e).stay (λc v hc q=>k c v ?_ q) (λ_ q=>q) λ_ _ q=>q;rcases hc with z|z
   . rw[z];exact cf b u e
   . exact cf c _ z
def Inv.tok(I:Inv X aa Z H s)(t:Nat):Inv X aa Z H {s with toks:=t}:=I.un (h':=s.heap) (t':=t) Un.refl I.hok
theorem Inv.kept{t':Nat}(I:Inv X aa Z H s)(k:∀b u,s.heap.get? b=J u->h'.get? b=J u):Inv X aa Z H {s with heap:=h',toks:=t'}:=I.un (Un.kept k) (I.hok.kept k)
theorem Inv.laid{a:Yi}{o:HO}{t':Nat}(I:Inv X aa Z H s)(k:∀b u,s.heap.get? b=J u->h'.get? b=J u)(hp:s.heap.objs.size<=a)(new:Z5 X.prog X.w (upd H a o) h' a o):
 Inv X aa Z (upd H a o) {s with heap:=h',toks:=t'}:=I.un (Un.laid k hp (I.hok.fresh hp)) (I.hok.laid k hp new)
theorem Inv.write(I:Inv X aa Z H s)(mu:Mut (H x))(he:e=x\/H e=J (.own x))(k:∀b u,b≠e->s.heap.get? b=J u->h'.get? b=J u)(dC:∃u,h'.get? e=J u)
 (new:Z5 X.prog X.w (upd H x o) h' x o):Inv X aa Z (upd H x o) {s with heap:=h',toks:=t'}:=I.un (Un.write mu he k dC) (I.hok.write mu he k dC new)
def Inv.weak(I:Inv X aa Z H s)(hl:σ'.length=Z.length)(w:∀(i:Nat) v,σ'[i]?=J (J v)->Z[i]?=J (J v)):Inv X aa σ' H s:=⟨I.ok,I.os,I.bare,I.base,let⟨m,hn,hl'⟩:=I.loc;⟨m,hn,λi x v e1 e2 e3=>hl' i x v e1 (w i v e2) e3⟩,I.cell,I.free,I.freeC,I.pin,I.hok,hl.trans I.len⟩
def Inv.pins_of(I:Inv X aa Z H s)(h:∀p∈dJ,s.heap.get? p.1=J p.2/\H p.1=M/\p.1≠X.env.locals/\p.1 ∉ X.fs/\∀v,p.2.data≠.cell v):Inv X dJ Z H s:=⟨I.ok,I.os,I.bare,I.base,I.loc,I.cell,I.free,I.freeC,λp hp=>(OD.mp hp).elim (λz=>I.pin p (List.mem_append_left _ z)) (h p),I.hok,I.len⟩
def ZhI{N:List Str}(hN:N.Nodup){i j:Nat}{x:Str}(a:N[i]?=J x)(b:N[j]?=J x):i=j:=by obtain⟨R,e1⟩:=Ob.mp a;obtain⟨h2,e2⟩:=Ob.mp b;exact(List.getElem_inj hN).mp (e1.trans e2.symm)
def Zf4{ky:Model}{A:YG}{Q:Unit->Yb->Prop}(I:Inv X aa Z H s)(hN:X.N.Nodup)(hi:X.N[i]?=J x)(hx:Loc X.env.scope x)(r:RelV v u)
 (h:∀s',Inv X aa (Z.set i (J v)) H s'->(∃a,Heap.SameBut a s.heap s'.heap/\(a=X.env.locals\/X.env.cells.lookup x=J a))->Q () s') (hf:X.fn x=Wr\/X.env.scope.names.lookup x=J .local:=by first|exact .inl rfl|exact .inr rfl|assumption):Yz ky A (storeName X.env x u) Q E s:=by
 obtain⟨m,hn,hl⟩:=id I.loc;have gi:(X.env.scope.kind==.class||(X.env.scope.kind==.module&&X.env.locals != X.env.globals))=Ws:=by rw[I.ok.kind];rfl
 have hiσ:i<Z.length:=by rw[I.len];exact(Ob.mp hi).1
 have cne:=I.cne;have bg:∀{a:Yi}{h':YF},(∃o,s.heap.get? a=J o/\H a=M)->Heap.SameBut a s.heap h'->HOk X.prog X.w H h':=λ{a h'} ha hs b ob e=>by
  obtain⟨_,_,ba⟩:=ha;refine(I.hok b ob e).stay (λc w' hc q=>(hs.2 c ?_).trans q) (λ_ q=>q) λ_ _ q=>q;rintro rfl;rcases hc with rfl|hc
  . rw[ba]at e;cases e
  . rw[ba]at hc;cases hc
 rcases hx with hk|hk
 . refine wpAny_storeName_local hk hn (λh' jn hs=>?_) gi;obtain⟨oL,_,_,bZ,_⟩:=id hn;refine h _ ⟨I.ok,I.os,I.bare,⟨λb o e n hb hx=>?_,λb o e n hb hx=>?_,I.base.free,λb o e hx=>?_,I.base.tups,I.base.frzs,I.base.tbls⟩,⟨_,jn,λj y v' e1 e2 e3=>?_⟩,λy c e=>?_,I.free,I.freeC,λp hp=>?_,bg ⟨oL,bZ,I.free⟩ hs,by simpa using I.len⟩ ⟨_,hs,.inl rfl⟩
   . exact(hs.2 b (Ou (Ot (Ym e) I.ok.above))).trans (I.base.keep b o e n hb hx)
   . obtain⟨sl,e1⟩:=I.base.slot b o e n hb hx;exact⟨sl,(hs.2 b (Ou (Ot (Ym e) I.ok.above))).trans e1⟩
   . obtain⟨o',e1⟩:=I.base.there b o e hx;exact⟨o',(hs.2 b (Ou (Ot (Ym e) I.ok.above))).trans e1⟩
   . by_cases hj:j=i
     . subst hj;rw[hi]at e1;cases e1;rw[Ol hiσ]at e2;cases e2;exact⟨u,r,.inl ⟨hk,by simp⟩⟩
     . rw[Oc (YK hj)]at e2;obtain⟨u',r',q⟩:=hl j y v' e1 e2 e3;refine⟨u',r',?_⟩;rcases q with⟨k,e⟩|⟨k,c,e,z⟩
       . refine .inl ⟨k,?_⟩;have:y≠x:=λe=>hj (ZhI hN e1 (e▸hi));simp[this,e]
       . exact .inr ⟨k,c,e,z.sameBut hs (cne y c e)⟩
   . obtain⟨w',z⟩:=I.cell y c e;exact⟨w',z.sameBut hs (cne y c e)⟩
   . obtain⟨e,n,ne,nf,d⟩:=I.pin p hp;exact⟨(hs.2 p.1 ne).trans e,n,ne,nf,d⟩
 . have ge:X.fn x=Wr:=by
    rcases hf with z|z
    . exact z
    . rw[z]at hk;cases hk
   obtain⟨c,hc⟩:=I.ok.has x (.inl hk);obtain⟨w',z⟩:=I.cell x c hc;refine wpAny_storeName_cell I.ok.kind hk hc z (λh' fh hs=>?_);obtain⟨oc,gS,f6⟩:=id z;refine h {s with heap:=h'} ⟨I.ok,I.os,I.bare,⟨λb o e n hb hx=>?_,λb o e n hb hx=>?_,I.base.free,λb o e hx=>?_,I.base.tups,I.base.frzs,I.base.tbls⟩,⟨m,hn.sameBut hs (YK (cne x c hc)),λj y v' e1 e2 e3=>?_⟩,λy c' e=>?_,I.free,I.freeC,λp hp=>?_,bg ⟨oc,gS,I.freeC x c hc⟩ hs,by simpa using I.len⟩ ⟨c,hs,.inr hc⟩
   . exact(hs.2 b (Ou (Ot (Ym e) (I.ok.cab x c ge hc)))).trans (I.base.keep b o e n hb hx)
   . obtain⟨sl,e1⟩:=I.base.slot b o e n hb hx;exact⟨sl,(hs.2 b (Ou (Ot (Ym e) (I.ok.cab x c ge hc)))).trans e1⟩
   . obtain⟨o',e1⟩:=I.base.there b o e hx;exact⟨o',(hs.2 b (Ou (Ot (Ym e) (I.ok.cab x c ge hc)))).trans e1⟩
   . by_cases hj:j=i
     . subst hj;rw[hi]at e1;cases e1;rw[Ol hiσ]at e2;cases e2;exact⟨u,r,.inr ⟨.inl hk,c,hc,fh⟩⟩
     . rw[Oc (YK hj)]at e2;obtain⟨u',r',q⟩:=hl j y v' e1 e2 e3;refine⟨u',r',?_⟩;rcases q with q|⟨k,c',e,z'⟩
       . exact .inl q
       . refine .inr ⟨k,c',e,z'.sameBut hs ?_⟩;rintro rfl;exact hj (ZhI hN e1 (I.ok.inj _ _ _ e hc▸hi))
   . by_cases hcc:c'=c
     . subst hcc;exact⟨_,fh⟩
     . obtain⟨w2,z2⟩:=I.cell y c' e;exact⟨w2,z2.sameBut hs hcc⟩
   . obtain⟨e,n,ne,nf,d⟩:=I.pin p hp;refine⟨(hs.2 p.1 ?_).trans e,n,ne,nf,d⟩;intro q;rw[q,gS]at e;have q':oc=p.2:=YE e;exact d w' (by rw[<-q'];exact f6)
def ZeM(I:Inv X aa Z H s)(hN:X.N.Nodup)(hi:X.N[i]?=J x)(hx:Loc X.env.scope x)(r:RelV v u)
 (h:∀s',Inv X aa (Z.set i (J v)) H s'->Q () s') (hf:X.fn x=Wr\/X.env.scope.names.lookup x=J .local:=by first|exact .inl rfl|exact .inr rfl|assumption):Yz ky A (storeName X.env x u) Q E s:=
 Zf4 I hN hi hx r (λs' I' _=>h s' I') hf
def Inv.call'(I:Inv X aa Z H s)(ho:s'.os=s.os)(u:Un (frs X.stack) ch H H' s.heap s'.heap)(hok:HOk X.prog X.w H' s'.heap)(hg:AllBare s'.gens)
 (bP:∀b∈ch,(b∈X.ex\/X.s₀.heap.objs.size<=b)/\b≠X.env.locals/\(∀x c,X.env.cells.lookup x=J c->c≠b)/\∀p∈X.pn++aa,p.1≠b):Inv X aa Z H' s':=by
 obtain⟨h',g',d',t',o'⟩:=s';have e:o'=s.os:=ho;subst e;exact I.call (g':=g') (t':=t') (d':=d') u hok hg bP
end
abbrev XK:=Yj->Option Yi->Hp->Prop
noncomputable abbrev St:=List (Option V)
abbrev VK:=V->Hp->Prop
abbrev TE:=St->Hp->VK->Prop
abbrev TT:=St->Hp->(Bool->Hp->Prop)->Prop
abbrev TA:=St->Hp->(List V->Hp->Prop)->Prop
structure Ends where
 nx:St->Hp->Prop
 rt:VK
 bk:St->Hp->Prop:=λ_ _=>False
 ct:St->Hp->Prop:=λ_ _=>False
abbrev TS:=Ends->St->Hp->Prop
def EP(X:Cx)(aa:List (Yi×Obj))(Z:St)(Q:VK)(u:Yj)(s':Yb):Prop:=∃v H',Inv X aa Z H' s'/\RelV v u/\Q v H'
def TP(X:Cx)(aa:List (Yi×Obj))(Z:St)(Q:Bool->Hp->Prop)(b:Bool)(s':Yb):Prop:=∃H',Inv X aa Z H' s'/\Q b H'
def AP(X:Cx)(aa:List (Yi×Obj))(Z:St)(Q:List V->Hp->Prop)(us:List Yj)(s':Yb):Prop:=∃vs H',Inv X aa Z H' s'/\Zn vs us/\Q vs H'
def SP(X:Cx)(aa:List (Yi×Obj))(D:Ends)(f:Flow)(s':Yb):Prop:=
 match f with
 |.next=>∃σ' H',Inv X aa σ' H' s'/\D.nx σ' H'
 |.brk=>∃σ' H',Inv X aa σ' H' s'/\D.bk σ' H'
 |.cont=>∃σ' H',Inv X aa σ' H' s'/\D.ct σ' H'
 |.ret u=>∃v σ' H',Inv X aa σ' H' s'/\RelV v u/\D.rt v H'
def PE(X:Cx)(e:Expr)(t:TE):Prop:=∀(aa:List (Yi×Obj)) (s:Yb) (Z:St) (H:Hp) (Q:VK),Inv X aa Z H s->t Z H Q->Yz (model X.prog X.w) X.A (eval e X.env) (EP X aa Z Q) X.xe s
def PT(X:Cx)(e:Expr)(t:TT):Prop:=∀(aa:List (Yi×Obj)) (s:Yb) (Z:St) (H:Hp) (Q:Bool->Hp->Prop),Inv X aa Z H s->t Z H Q->Yz (model X.prog X.w) X.A (isTrue e X.env (eval e X.env)) (TP X aa Z Q) X.xe s
def PW(X:Cx)(e:Expr)(t:TT):Prop:=∀(aM:Sem Yj) (aa:List (Yi×Obj)) (s:Yb) (Z:St) (H:Hp) (Q:Bool->Hp->Prop),Inv X aa Z H s->t Z H Q->Yz (model X.prog X.w) X.A (isTrue e X.env aM) (TP X aa Z Q) X.xe s
def PW.pt(h:PW X e t):PT X e t:=h _
def PA(X:Cx)(es:List Expr)(t:TA):Prop:=∀(pos:Pos) (aa:List (Yi×Obj)) (s:Yb) (Z:St) (H:Hp) (Q:List V->Hp->Prop),Inv X aa Z H s->t Z H Q->Yz (model X.prog X.w) X.A (spliced (YR pos (Yy es X.env))) (AP X aa Z Q) X.xe s
def PS(X:Cx)(st:Stmt)(t:TS):Prop:=∀(aa:List (Yi×Obj)) (s:Yb) (Z:St) (H:Hp) (D:Ends),Inv X aa Z H s->t D Z H->Yz (model X.prog X.w) X.A (exec st X.env) (SP X aa D) X.xe s
def PSs(X:Cx)(st:List Stmt)(t:TS):Prop:=∀(aa:List (Yi×Obj)) (s:Yb) (Z:St) (H:Hp) (D:Ends),Inv X aa Z H s->t D Z H->Yz (model X.prog X.w) X.A (execs st X.env) (SP X aa D) X.xe s
def thn(h:Yz ky A t Q E s)(hQ:∀a s,Q a s->Q' a s):Yz ky A t Q' E s:=Yf h hQ λ_ _ x=>x
section
variable {X:Cx}
noncomputable def ZtB(i:Nat):TE:=λZ H Q=>∃v,Z[i]?=J (J v)/\Q v H
noncomputable def tC(v:V):TE:=λ_ H Q=>Q v H
def Zqk(hN:X.N[i]?=J x)(hv:Vis X.env.scope x)(hd:(x==("__debug__" : Str))=Ws:=by decide)(bQ:(x==("__classdict__" : Str))=Ws:=by decide):PE X (.Name x pos) (ZtB i):=by
 intro aa s Z H Q I h;obtain⟨v,e,h⟩:=h;obtain⟨m,hn,hl⟩:=I.loc;obtain⟨u,r,l⟩:=hl i x v hN e hv;have fin:EP X aa Z Q u s:=⟨v,H,I,r,h⟩
 rcases l with⟨hk,hm⟩|⟨hk,c,hc,aQ⟩
 . exact wpAny_Name (wpAny_loadName_local I.ok.kind hk hn hm fin) hd
 . rcases hk with hk|hk
   . exact wpAny_Name (wpAny_loadName_cell I.ok.kind hk hc aQ fin) hd
   . exact wpAny_Name (wpAny_loadName_free I.ok.kind hk hc aQ fin bQ) hd
def Zqs{i j pos}:PE X (.Constant (.int i) j pos) (tC (.int i)):=λ_ _ _ H _ I h=>wpAny_Constant_int ⟨.int i,H,I.tok _,⟨_,rfl⟩,h⟩
def Zst{b j pos}:PE X (.Constant (.bool b) j pos) (tC (.bl b)):=λ_ _ _ H _ I h=>Constant_bool ⟨.bl b,H,I,rfl,h⟩
def Zqp{j pos}:PE X (.Constant .none j pos) (tC .non):=λ_ _ _ H _ I h=>Constant_none ⟨.non,H,I,rfl,h⟩
def Zqn{x j pos}:PE X (.Constant (.str x) j pos) (tC (.str x)):=λ_ _ _ H _ I h=>Calls.Constant_str ⟨.str x,H,I.tok _,⟨_,rfl⟩,h⟩
def Gl(X:Cx)(x:Str):Prop:=X.env.kindOf x=J .globalImplicit
def ZeH(I:Inv X aa Z H s)(hg:Gl X x)(hm:X.mg x=J u)(h:Q u s)
 (hd:(x==("__debug__" : Str))=Ws:=by decide):Yz (model X.prog X.w) X.A (eval (.Name x pos) X.env) Q E s:=
 Calls.Name_function_global I.ok.kind hg (Calls.loadGlobal_global (by rw[I.ok.glob];exact I.mod.glob.keeps I.bk) hm h) hd
def Zbi(I:Inv X aa Z H s)(hg:Gl X x)(hm:X.mg x=M)(hv:bootBuiltins x=J u)(h:Q u s)
 (hn:x ≠ "__name__" := by decide) (hd:(x==("__debug__" : Str))=Ws:=by decide):Yz (model X.prog X.w) X.A (eval (.Name x pos) X.env) Q E s:=by
 obtain⟨mb,R,h2⟩:=I.mod.blt;exact Calls.Name_function_global I.ok.kind hg (Calls.loadGlobal_builtin (by rw[I.ok.glob];exact I.mod.glob.keeps I.bk) hm (by rw[I.ok.blt];exact R.keeps I.bk) ((h2 x hn).trans hv) h) hd
def ZnR(hg:Gl X x)(hm:X.mg x=J u)(r:RelV v u)(hd:(x==("__debug__" : Str))=Ws:=by decide):PE X (.Name x pos) (tC v):=λ_ _ _ H _ I h=>ZeH I hg hm ⟨v,H,I,r,h⟩ hd
def ZnW(hg:Gl X x)(hm:X.mg x=M)(hv:bootBuiltins x=J u)(r:RelV v u)(hn:x ≠ "__name__" := by decide)(hd:(x==("__debug__" : Str))=Ws:=by decide):PE X (.Name x pos) (tC v):=λ_ _ _ H _ I h=>Zbi I hg hm hv ⟨v,H,I,r,h⟩ hn hd
variable {a b:Expr}{ta tb:TE}{pos:Pos}
variable {tA eS:TT}{ac:List Expr}
noncomputable def ZtQ(t u:TT):TT:=λZ H Q=>t Z H λc H1=>if c=Wr then u Z H1 Q else Q Ws H1
noncomputable def tOr(t u:TT):TT:=λZ H Q=>t Z H λc H1=>if c=Wr then Q Wr H1 else u Z H1 Q
noncomputable def ZtH(t:TT):TT:=λZ H Q=>t Z H λc H1=>Q (!c) H1
def ZnA(ha:PT X a tA):PW X (.BoolOp .And [a] pos) tA:=by
 intro wh aa s Z H Q I h;refine isTrue_and (thn (ha aa s Z H Q I h) λc s1 e=>?_);cases c with
 |true=>exact isTrue_and_nil e
 |false=>exact e
def Zp7(ha:PT X a tA):PW X (.BoolOp .Or [a] pos) tA:=by
 intro wh aa s Z H Q I h;refine isTrue_or (thn (ha aa s Z H Q I h) λc s1 e=>?_);cases c with
 |false=>exact isTrue_or_nil e
 |true=>exact e
def Zp8(ha:PT X a tA)(hb:PW X (.BoolOp .And (b::ac) pos) eS):PW X (.BoolOp .And (a::b::ac) pos) (ZtQ tA eS):=by
 intro wh aa s Z H Q I h;refine isTrue_and (thn (ha aa s Z H _ I h) λc s1 ⟨H1,I1,q1⟩=>?_);cases c with
 |true=>exact hb wh aa s1 Z H1 Q I1 q1
 |false=>exact⟨H1,I1,q1⟩
def Zsm(ha:PT X a tA)(hb:PW X (.BoolOp .Or (b::ac) pos) eS):PW X (.BoolOp .Or (a::b::ac) pos) (tOr tA eS):=by
 intro wh aa s Z H Q I h;refine isTrue_or (thn (ha aa s Z H _ I h) λc s1 ⟨H1,I1,q1⟩=>?_);cases c with
 |true=>exact⟨H1,I1,q1⟩
 |false=>exact hb wh aa s1 Z H1 Q I1 q1
def Zqa(ha:PT X a tA):PT X (.UnaryOp .Not a pos) (ZtH tA):=by intro aa s Z H Q I h;exact isTrue_not (ha aa s Z H (λc H1=>Q (!c) H1) I h)
def Zr6(ta tb:TE):TE:=λZ H Q=>ta Z H λx H1=>∃c,x=.bl c/\if c=Wr then tb Z H1 Q else Q (.bl Ws) H1
def ZtG(ta tb:TE):TE:=λZ H Q=>ta Z H λx H1=>∃c,x=.bl c/\if c=Wr then Q (.bl Wr) H1 else tb Z H1 Q
noncomputable def ZrZ(ta:TE):TE:=λZ H Q=>ta Z H λx H1=>∃c,x=.bl c/\Q (.bl (!c)) H1
def Zl2{op}(h:PE X a t):PE X (.BoolOp op [a] pos) t:=λaa s Z H Q I hw=>BoolOp_one (h aa s Z H Q I hw)
def Zqw(ha:PE X a ta)(hb:PE X (.BoolOp .And (b::ac) pos) tb):PE X (.BoolOp .And (a::b::ac) pos) (Zr6 ta tb):=by
 intro aa s Z H Q I h;refine BoolOp_and (thn (ha aa s Z H _ I h) λv s1 ⟨x,H1,I1,r1,q1⟩=>?_);obtain⟨c,rfl,q1⟩:=q1;cases r1;refine wpAny_truthy_bool ?_;cases c with
 |true=>exact hb aa s1 Z H1 Q I1 q1
 |false=>exact⟨.bl Ws,H1,I1,rfl,q1⟩
def Zsp(ha:PE X a ta)(hb:PE X (.BoolOp .Or (b::ac) pos) tb):PE X (.BoolOp .Or (a::b::ac) pos) (ZtG ta tb):=by
 intro aa s Z H Q I h;refine BoolOp_or (thn (ha aa s Z H _ I h) λv s1 ⟨x,H1,I1,r1,q1⟩=>?_);obtain⟨c,rfl,q1⟩:=q1;cases r1;refine wpAny_truthy_bool ?_;cases c with
 |false=>exact hb aa s1 Z H1 Q I1 q1
 |true=>exact⟨.bl Wr,H1,I1,rfl,q1⟩
def Zqo(ha:PE X a ta):PE X (.UnaryOp .Not a pos) (ZrZ ta):=by intro aa s Z H Q I h;refine UnaryOp_ (thn (ha aa s Z H _ I h) λv s1 ⟨x,H1,I1,r1,q1⟩=>?_);obtain⟨c,rfl,q1⟩:=q1;cases r1;exact not_of (wpAny_truthy_bool ⟨.bl (!c),H1,I1,rfl,q1⟩)
def tIf(t:TT)(ta tb:TE):TE:=λZ H Q=>t Z H λc H1=>if c=Wr then ta Z H1 Q else tb Z H1 Q
def Zl5(hc:PT X c tA)(ha:PE X a ta)(hb:PE X b tb):PE X (.IfExp c a b pos) (tIf tA ta tb):=by
 intro aa s Z H Q I h;refine wpAny_IfExp (thn (hc aa s Z H _ I h) λd s1 ⟨H1,I1,q1⟩=>?_);cases d with
 |true=>exact ha aa s1 Z H1 Q I1 q1
 |false=>exact hb aa s1 Z H1 Q I1 q1
end
def SqL(K:Yk)(H:Hp)(a:Yi)(xs:List V):Prop:=
 Rd H a (.lst xs) \/
  ∃(o:Obj) (its:Array Yj) (n:Nat),K.lookup a=J o/\o.cls=.type "list" /\ o.dict=M/\o.data=.seq its n/\its.size<=sizeLine/\Zn xs its.toList
def SqT(K:Yk)(H:Hp)(a:Yi)(xs:List V):Prop:=
 Rd H a (.tup xs) \/
  ∃(o:Obj) (its:Array Yj) (n:Nat),K.lookup a=J o/\o.cls=.type "tuple" /\ o.data=.seq its n/\its.size<=sizeLine/\Zn xs its.toList
noncomputable def Zuy:Yj->Option V
 |.none=>J .non
 |.bool b=>J (.bl b)
 |.int i _=>J (.int i)
 |.str x _=>J (.str x)
 |.bytes b _=>J (.byt b)
 |.float b _=>J (.flt b)
 |.ref a=>J (.ref a)
 |.type n=>J (.ty n)
 |_=>M
def RelV.abs(r:RelV x u):Zuy u=J x:=by
 cases x with
 |non=>cases r;rfl
 |bl _=>cases r;rfl
 |int _=>obtain⟨t,rfl⟩:=r;rfl
 |str _=>obtain⟨t,rfl⟩:=r;rfl
 |byt _=>obtain⟨t,rfl⟩:=r;rfl
 |flt _=>obtain⟨t,rfl⟩:=r;rfl
 |ref _=>cases r;rfl
 |ty _=>cases r;rfl
def RelV.inj(r:RelV x u)(q:RelV y u):x=y:=YE (r.abs.symm.trans q.abs)
theorem Zn.inj:∀{xs ys:List V}{us:List Yj},Zn xs us->Zn ys us->xs=ys
 |_,_,_,.nil,.nil=>rfl
 |_,_,_,.cons r t,.cons r' t'=>by rw[r.inj r',Zn.inj t t']
section
variable {X:Cx}{aa:List (Yi×Obj)}{Z:St}{H:Hp}{s:Yb}{a:Yi}{xs ys:List V}
def SqL.of{K:Yk}(h:H a=J (.lst xs)):SqL K H a xs:=.inl (.inl h)
def Inv.list(I:Inv X aa Z H s)(h:SqL X.K H a xs):∃its:List Yj,Zn xs its/\PlainL s.heap a its.toArray/\xs.length<=sizeLine:=by
 rcases h with h|⟨o,its,n,hk,hc,hd,hs,hz,r⟩
 . obtain⟨z,its,n,r,e⟩:=h.ok I.hok;exact⟨its,r,⟨_,n,e,rfl,rfl,rfl⟩,z⟩
 . refine⟨its.toList,r,⟨o,n,I.kIn a o hk,hc,hd,by simpa using hs⟩,?_⟩;have e:=r.length;simp only[Array.length_toList]at e
   lia
def Inv.tuple(I:Inv X aa Z H s)(h:SqT X.K H a xs):∃its:List Yj,Zn xs its/\IsTup s.heap a its.toArray/\xs.length<=sizeLine:=by
 rcases h with h|⟨o,its,n,hk,hc,hs,hz,r⟩
 . obtain⟨z,its,r,p⟩:=h.ok I.hok;exact⟨its,r,p.tup,z⟩
 . refine⟨its.toList,r,⟨o,I.kIn a o hk,hc,n,by simpa using hs⟩,?_⟩;have e:=r.length;simp only[Array.length_toList]at e
   lia
def Inv.list_inj(I:Inv X aa Z H s)(h:SqL X.K H a xs)(h':SqL X.K H a ys):xs=ys:=by
 obtain⟨its,r,⟨o,n,e,_,_,d⟩,_⟩:=I.list h;obtain⟨its',r',⟨o',n',e',_,_,d'⟩,_⟩:=I.list h';rw[e]at e';cases e';rw[d]at d';injection d' with d1 _;have:its=its':=by simpa using congrArg Array.toList d1
 subst this;exact r.inj r'
def Inv.tuple_inj(I:Inv X aa Z H s)(h:SqT X.K H a xs)(h':SqT X.K H a ys):xs=ys:=by
 obtain⟨its,r,⟨o,e,_,n,d⟩,_⟩:=I.tuple h;obtain⟨its',r',⟨o',e',_,n',d'⟩,_⟩:=I.tuple h';rw[e]at e';cases e';rw[d]at d';injection d' with d1 _;have:its=its':=by simpa using congrArg Array.toList d1
 subst this;exact r.inj r'
end
section
variable {X:Cx}{st:Stmt}{ac:List Stmt}{t u:TS}{e:Expr}{te:TE}{pos:Pos}
noncomputable def Zpf:TS:=λD Z H=>D.nx Z H
noncomputable def ZtE(t u:TS):TS:=λD Z H=>t {D with nx:=u D} Z H
def ZnE:PSs X [] Zpf:=λ_ _ Z H _ I h=>wpAny_execs_nil ⟨Z,H,I,h⟩
def ZlT(R:PS X st t)(h2:PSs X ac u):PSs X (st::ac) (ZtE t u):=by
 intro aa s Z H D I h;refine wpAny_execs_cons (thn (R aa s Z H {D with nx:=u D} I h) λf s1 q=>?_);cases f with
 |next=>obtain⟨σ',H',I',q⟩:=q;exact h2 aa s1 σ' H' D I' q
 |ret v=>exact q
 |brk=>exact q
 |cont=>exact q
noncomputable def ZpT:TS:=λD Z H=>D.bk Z H
noncomputable def Zr3:TS:=λD Z H=>D.ct Z H
def ZnF:PS X (.Pass pos) Zpf:=λ_ _ Z H _ I h=>wpAny_Pass ⟨Z,H,I,h⟩
def ZlW:PS X (.Break pos) ZpT:=λ_ _ Z H _ I h=>wpAny_Break ⟨Z,H,I,h⟩
def ZhB:PS X (.Continue pos) Zr3:=λ_ _ Z H _ I h=>wpAny_Continue ⟨Z,H,I,h⟩
def Inv.quiet(I:Inv X aa Z H s):interactive X.env=Ws:=by simp[interactive,I.ok.kind]
noncomputable def Zr1(te:TE):TS:=λD Z H=>te Z H λ_ H1=>D.nx Z H1
def ZnG(he:PE X e te)(hs:swapsWith e M pos.line X.env=pure Ws:=by rfl):PS X (.Expr e pos) (Zr1 te):=by intro aa s Z H D I h;exact wpAny_Expr_any (thn (he aa s Z H _ I h) λv s1 ⟨x,H1,I1,r1,q1⟩=>⟨Z,H1,I1,q1⟩) I.quiet hs
noncomputable def ZtF(te:TE):TS:=λD Z H=>te Z H D.rt
def Zqb(he:PE X e te):PS X (.Return (J e) pos) (ZtF te):=by intro aa s Z H D I h;exact wpAny_Return_some (thn (he aa s Z H _ I h) λv s1 ⟨x,H1,I1,r1,q1⟩=>⟨x,Z,H1,I1,r1,q1⟩)
noncomputable def ZtK(c:TT)(t u:TS):TS:=λD Z H=>c Z H λb H1=>if b=Wr then t D Z H1 else u D Z H1
def Zsn(hc:PT X c tc)(ha:PSs X a t)(hb:PSs X b u):PS X (.If c a b pos) (ZtK tc t u):=by
 intro aa s Z H D I h;refine wpAny_If (thn (hc aa s Z H _ I h) λd s1 ⟨H1,I1,q1⟩=>?_);cases d with
 |true=>exact ha aa s1 Z H1 D I1 q1
 |false=>exact hb aa s1 Z H1 D I1 q1
end
abbrev TG:=V->St->Hp->(St->Hp->Prop)->Prop
abbrev TGs:=List V->St->Hp->(St->Hp->Prop)->Prop
def PG(X:Cx)(target:Expr)(t:TG):Prop:=
 ∀(aa:List (Yi×Obj)) (s:Yb) (Z:St) (H:Hp) (v:V) (u:Yj) (Q:St->Hp->Prop),Inv X aa Z H s->RelV v u->t v Z H Q ->
  Yz (model X.prog X.w) X.A (assign target X.env u) (λ_ s'=>∃σ' H',Inv X aa σ' H' s'/\Q σ' H') X.xe s
def PGs(X:Cx)(ts:List Expr)(t:TGs):Prop:=
 ∀(aa:List (Yi×Obj)) (s:Yb) (Z:St) (H:Hp) (vs:List V) (us:List Yj) (Q:St->Hp->Prop),Inv X aa Z H s->Zn vs us->t vs Z H Q ->
  Yz (model X.prog X.w) X.A (assignInOrder ((assignEach ts X.env).map (·.2)) us) (λ_ s'=>∃σ' H',Inv X aa σ' H' s'/\Q σ' H') X.xe s
abbrev Zo9:=V->V->V->Hp->(Hp->Prop)->Prop
def Zpa(X:Cx)(t:Zo9):Prop:=
 ∀(aa:List (Yi×Obj)) (s:Yb) (Z:St) (H:Hp) (o i v:V) (ov iv u:Yj) (Q:Hp->Prop),Inv X aa Z H s->RelV o ov->RelV i iv->RelV v u->t o i v H Q ->
  Yz (model X.prog X.w) X.A (setItem ov iv u) (λ_ s'=>∃H',Inv X aa Z H' s'/\Q H') X.xe s
abbrev TIp:=V->V->Hp->VK->Prop
def PIp(X:Cx)(op:Operator)(t:TIp):Prop:=
 ∀(aa:List (Yi×Obj)) (s:Yb) (Z:St) (H:Hp) (x y:V) (v u:Yj) (Q:VK),Inv X aa Z H s->RelV x v->RelV y u->t x y H Q ->
  Yz (model X.prog X.w) X.A (inplaceOp op v u) (EP X aa Z Q) X.xe s
section
variable {X:Cx}{pos:Pos}
noncomputable def ZbQ(i:Nat):TG:=λv Z H Q=>Q (Z.set i (J v)) H
def ZjH(hN:X.N.Nodup)(hi:X.N[i]?=J x)(hx:Loc X.env.scope x)(hf:X.fn x=Wr\/X.env.scope.names.lookup x=J .local:=by first|exact .inl rfl|exact .inr rfl|assumption):PG X (.Name x pos) (ZbQ i):=by intro aa s Z H v u Q I r h;exact wpAny_assign_Name (ZeM I hN hi hx r (λs' I'=>⟨_,H,I',h⟩) hf)
noncomputable def Zoy:TGs:=λvs Z H Q=>vs=[]/\Q Z H
noncomputable def ZhW(t:TG)(u:TGs):TGs:=λvs Z H Q=>∃v r,vs=v::r/\t v Z H λσ' H'=>u r σ' H' Q
def ZjF:PGs X [] Zoy:=by intro aa s Z H vs us Q I r h;obtain⟨e,h⟩:=h;subst e;cases r;exact assignInOrder_nil ⟨Z,H,I,h⟩
def ZeY(R:PG X e t)(h2:PGs X es u)
 (hs:(assignEach (e::es) X.env).map (·.2)=assign e X.env::(assignEach es X.env).map (·.2):=by rfl):PGs X (e::es) (ZhW t u):=by
 intro aa s Z H vs us Q I r h;obtain⟨v,vr,e1,h⟩:=h;subst e1;cases r with
 |cons r rr=>rw[hs];refine assignInOrder_cons (thn (R aa s Z H _ _ _ I r h) λ_ s1 ⟨σ1,H1,I1,q1⟩=>?_);exact h2 aa s1 σ1 H1 _ _ Q I1 rr q1
noncomputable def Zox(K:Yk)(n:Nat)(t:TGs):TG:=λv Z H Q=>∃a xs,v=.ref a/\SqT K H a xs/\xs.length=n/\t xs Z H Q
def Zl0(hc:X.calm=Wr)(h:PGs X es t)
 (hn:(assignEach es X.env).length=n:=by rfl) (hst:(assignEach es X.env).findIdx? (·.1)=M:=by rfl):PG X (.Tuple es k pos) (Zox X.K n t):=by
 intro aa s Z H v u Q I r hw;obtain⟨a,xs,e1,hq,hl,hw⟩:=hw;subst e1;cases r;obtain⟨its,rv,ht,hz⟩:=I.tuple hq;refine assign_Tuple_tuple (I.ok.hd hc) ht (by simp[hn,<-hl,rv.length]) hst λh' hx=>?_;have I1:Inv X aa Z H {s with heap:=h'}:=I.kept (t':=s.toks) λb o e=>hx b o (Ou (Ym e)) e;exact h aa _ Z H xs _ Q I1 (by simpa using rv) hw
noncomputable def Zui(to ti:TE)(t:Zo9):TG:=λv Z H Q=>to Z H λo H1=>ti Z H1 λi H2=>t o i v H2 λH3=>Q Z H3
def Zqj(ho:PE X o to)(hi:PE X i ti)(hs:Zpa X t)
 (ha:∀v,assign (.Subscript o i pos) X.env v=(do
  let ov <- holding [v] (eval o X.env);let iv <- holding [v,ov] (eval i X.env)
  standAt pos
  holding [v,ov,iv] (setItem ov iv v)
  release [v,ov,iv] []):=by intro _;rfl):PG X (.Subscript o i pos) (Zui to ti t):=by
 intro aa s Z H v u Q I r h;rw[ha];refine Ya (Wb (thn (ho aa s Z H _ I h) λov s1 ⟨x,H1,I1,r1,q1⟩=>?_));refine Ya (Wb (thn (hi aa s1 Z H1 _ I1 q1) λiv s2 ⟨y,H2,I2,r2,q2⟩=>?_));refine Ya (wpAny_standAt (Ya (Wb (thn (hs aa s2 Z H2 x y v ov iv u _ I2 r1 r2 r q2) λ_ s3 ⟨H3,I3,q3⟩=>?_))));exact wpAny_release ⟨Z,H3,I3,q3⟩
noncomputable def Ziu(te:TE)(g:TG):TS:=λD Z H=>te Z H λx H1=>g x Z H1 D.nx
def ZlX(he:PE X e te)(hg:PG X tg g)(hs:swapsWithSole [tg] e pos.line X.env=pure Ws:=by rfl)(hw:swappedStores [tg] e X.env=pure M:=by rfl)
 (R:(assignEach [tg] X.env).map (·.2)=[assign tg X.env]:=by rfl):PS X (.Assign [tg] e pos) (Ziu te g):=by
 intro aa s Z H D I h;refine wpAny_Assign_stores (thn (he aa s Z H _ I h) λv s1 ⟨x,H1,I1,r1,q1⟩=>?_) hs hw;rw[R];exact thn (hg aa s1 Z H1 x v _ I1 r1 q1) λ_ s2 q=>q
def ZlV(hN:X.N.Nodup)(hi:X.N[i]?=J x)(hx:Loc X.env.scope x)(he:PE X e te)(hs:swapsWith e (J (.Name x bv)) pos.line X.env=pure Ws:=by rfl)(hf:X.fn x=Wr\/X.env.scope.names.lookup x=J .local:=by first|exact .inl rfl|exact .inr rfl|assumption):
 PS X (.Assign [.Name x bv] e pos) (Ziu te (ZbQ i)):=by
 intro aa s Z H D I h;refine wpAny_Assign_Name (thn (he aa s Z H _ I h) λv s1 ⟨y,H1,I1,r1,q1⟩=>?_) hs;exact ZeM I1 hN hi hx r1 (λs2 I2=>⟨_,H1,I2,q1⟩) hf
noncomputable def ZtP(i:Nat)(te:TE)(ti:TIp):TS:=λD Z H=>∃x,Z[i]?=J (J x)/\te Z H λy H1=>ti x y H1 λz H2=>D.nx (Z.set i (J z)) H2
def Zqe(hN:X.N.Nodup)(hi:X.N[i]?=J x)(hx:Loc X.env.scope x)(he:PE X e te)(ho:PIp X op ti)(hf:X.fn x=Wr\/X.env.scope.names.lookup x=J .local:=by first|exact .inl rfl|exact .inr rfl|assumption):
 PS X (.AugAssign (.Name x bv) op e pos) (ZtP i te ti):=by
 intro aa s Z H D I h;obtain⟨v,e1,h⟩:=h;obtain⟨m,hn,hl⟩:=I.loc;have vis:Vis X.env.scope x:=by rcases hx with k|k;exact .inl k;exact .inr (.inl k)
 obtain⟨u,r,l⟩:=hl i x v hi e1 vis;refine wpAny_AugAssign_Name ?_;have go:Yz (model X.prog X.w) X.A (eval e X.env) (λw s₂=>Yz (model X.prog X.w) X.A (inplaceOp op u w) (λr s₃=>Yz (model X.prog X.w) X.A (storeName X.env x r) (λ_=>SP X aa D .next) X.xe s₃) X.xe s₂) X.xe s:=by refine thn (he aa s Z H _ I h) λw s1 ⟨y,H1,I1,r1,q1⟩=>?_;refine thn (ho aa s1 Z H1 v y u w _ I1 r r1 q1) λz s2 ⟨zv,H2,I2,r2,q2⟩=>?_;exact ZeM I2 hN hi hx r2 (λs3 I3=>⟨_,H2,I3,q2⟩) hf
 rcases l with⟨hk,hm⟩|⟨hk,c,hc,aQ⟩
 . exact wpAny_loadName_local I.ok.kind hk hn hm go
 . rcases hk with hk|hk
   . exact wpAny_loadName_cell I.ok.kind hk hc aQ go
   . rcases hx with k|k
     . have:X.env.scope.names.lookup x=J .free:=hk;rw[k]at this;cases this
     . have:X.env.scope.names.lookup x=J .free:=hk;rw[k]at this;cases this
noncomputable def ipI(f:Int->Int->Int):TIp:=λx y H Q=>∃i j,x=.int i/\y=.int j/\Q (.int (f i j)) H
def Zq6:PIp X .Add (ipI λi j=>i+j):=by intro aa s Z H x y v u Q I r1 r2 h;obtain⟨i,j,e1,e2,q⟩:=h;subst e1;subst e2;obtain⟨t,rfl⟩:=r1;obtain⟨t',rfl⟩:=r2;exact iadd_int ⟨.int _,H,I.tok _,⟨_,rfl⟩,q⟩
def Zlw(c:TT)(tb:TS):TS:=λD Z H=>∃W:Nat->St->Hp->Prop,(∃m,W m Z H)/\∀m Z H,W m Z H ->
 c Z H λb H1=>if b=Wr then ∃N:St->Hp->Prop,(∀σ' H',N σ' H'->∃m',m'<m/\W m' σ' H')/\tb {D with nx:=N,ct:=N,bk:=D.nx} Z H1 else D.nx Z H1
def ZlU(hp:PassesOwn (model X.prog X.w) X.A X.env X.xe)(hc:PT X c tc)(hb:PSs X body tb):PS X (.While c body [] pos) (Zlw tc tb):=by
 intro aa s Z H D I h;obtain⟨W,⟨m0,w0⟩,turn⟩:=h;refine wpAny_While (codeAny_whileLoop (λn s'=>∃σ' H',Inv X aa σ' H' s'/\W n σ' H') ?_ m0 ⟨Z,H,I,w0⟩);rintro n s1 ⟨σ1,H1,I1,w1⟩;refine wpAny_passesOwn hp (thn (hc aa s1 σ1 H1 _ I1 (turn n σ1 H1 w1)) λb s2 ⟨H2,I2,q2⟩=>?_);cases b with
 |true=>
  obtain⟨N,hN,q2⟩:=q2;rw[if_pos rfl];refine wpAny_passesOwn hp (thn (hb aa s2 σ1 H2 _ I2 q2) λf s3 q3=>?_);cases f with
  |next=>obtain⟨σ3,H3,I3,n3⟩:=q3;obtain⟨m',hm,w3⟩:=hN σ3 H3 n3;exact⟨m',hm,σ3,H3,I3,w3⟩
  |cont=>obtain⟨σ3,H3,I3,n3⟩:=q3;obtain⟨m',hm,w3⟩:=hN σ3 H3 n3;exact⟨m',hm,σ3,H3,I3,w3⟩
  |brk=>exact q3
  |ret v=>exact q3
 |false=>rw[if_neg Ow];exact wpAny_execs_nil ⟨σ1,H2,I2,q2⟩
end
structure It where
 go:Nat->Hp->Prop
 yld:Nat->Hp->V->Hp->Prop
 stop:Nat->Hp->Prop
def Zcr(X:Cx)(aa:List (Yi×Obj))(H:Hp)(b:Yi):Prop:=H b=M/\b≠X.env.locals/\b ∉ X.fs/\(b∈X.ex\/X.s₀.heap.objs.size<=b)/\(∀x c,X.env.cells.lookup x=J c->c≠b)/\∀p∈X.pn++aa,p.1≠b
def Inv.fpOk(I:Inv X aa Z H s)(hb:s.heap.objs.size<=b)(hn:H' b=M):Zcr X aa H' b:=by
 refine⟨hn,Nat.ne_of_gt (Ot I.lt hb),I.nofs hb,.inr (OE I.sz hb),λx c e z=>?_,λp hp z=>?_⟩
 . obtain⟨v,q⟩:=I.cell x c e;exact absurd (Ot q.lt (by rw[z];exact hb)) (Yu _)
 . exact absurd (Ot (Ym (I.pin p hp).1) (by rw[z];exact hb)) (Yu _)
structure Turn(P:Yh)(w:Yg)(K:Yk)(tg:Expr)(ku:It)(fp:List Yi)(it:Yi)(tn:Nat->YF->Prop):Prop where
 mem:it∈fp
 obj:∀i h,tn i h->∀b∈fp,∃o,h.get? b=J o/\∀v,o.data≠.cell v
 keep:∀i h h',tn i h->(∀b∈fp,∀o,h.get? b=J o->h'.get? b=J o)->tn i h'
 item:∀(X:Cx),X.prog=P->X.w=w->X.K=K->X.calm=Wr->∀(i:Nat) (aa:List (Yi×Obj)) (s:Yb) (Z:St) (H:Hp) (E:Yj->Yb->Prop),Inv X aa Z H s->(∀b∈fp,Zcr X aa H b)->tn i s.heap->ku.go i H ->
  Yz (model P w) X.A (pyNext (.ref it)) (λr s1=>∃u,r=J u /\
   Yz (model P w) X.A (letOwnedTupleGo tg (.ref it) u) (λ_ s2=>∃x H',Inv X aa Z H' s2/\RelV x u/\ku.yld i H x H'/\tn (i+1) s2.heap/\∀b∈fp,H' b=M) E s1) E s
 done:∀(X:Cx),X.prog=P->X.w=w->X.K=K->X.calm=Wr->∀(i:Nat) (aa:List (Yi×Obj)) (s:Yb) (Z:St) (H:Hp) (E:Yj->Yb->Prop),Inv X aa Z H s->(∀b∈fp,Zcr X aa H b)->tn i s.heap->ku.stop i H ->
  Yz (model P w) X.A (pyNext (.ref it)) (λr s1=>r=M/\Inv X aa Z H s1) E s
 self:∀(A:YG) (i:Nat) (s:Yb) (Q:Yj->Yb->Prop) (E:Yj->Yb->Prop),tn i s.heap->Q (.ref it) s->Yz (model P w) A (pyIter (.ref it)) Q E s
abbrev TI:=St->Hp->(It->Hp->Prop)->Prop
def PIE(X:Cx)(aa:List (Yi×Obj))(Z:St)(tg:Expr)(kz:It->Hp->Prop)(fO:Yj)(s2:Yb):Prop:=∃(it:Yi) (fp:List Yi) (tn:Nat->YF->Prop) (ku:It) (H':Hp),fO=.ref it/\Inv X aa Z H' s2/\Turn X.prog X.w X.K tg ku fp it tn/\tn 0 s2.heap/\(∀b∈fp,Zcr X aa H' b)/\kz ku H'
def PI(X:Cx)(tg iter:Expr)(wi:TI):Prop:=
 ∀(aa:List (Yi×Obj)) (s:Yb) (Z:St) (H:Hp) (kz:It->Hp->Prop),Inv X aa Z H s->wi Z H kz ->
  Yz (model X.prog X.w) X.A (eval iter X.env) (λv s1=>Yz (model X.prog X.w) X.A (pyIter v) (PIE X aa Z tg kz) X.xe s1) X.xe s
theorem ZhU(ho:s.heap.get? it=J o)(hc:o.cls=.type n)(hd:o.data=.fields vs)
   (hn:["enumerate", "zip", "dict_itemiterator", "dict_reverseitemiterator", "odict_iterator", "itertools.zip_longest", "itertools.pairwise"].contains n=Ws) (hQ:Q () s):Yz ky A (letOwnedTupleGo tg (.ref it) u) Q E s:=by
 unfold letOwnedTupleGo;cases tg<;>first
   |exact Yc hQ
   | (cases u<;>first
       |exact Yc hQ
       | (refine Ya (wpAny_load ho ?_)
          rw [hc,hd];show Yz ky A (if (["enumerate", "zip", "dict_itemiterator", "dict_reverseitemiterator", "odict_iterator", "itertools.zip_longest", "itertools.pairwise"].contains n&&vs[0]?==J (rawInt _))=Wr then _ else _) Q E s;rw [if_neg (by intro h;rw [hn,Bool.false_and] at h;cases h)];exact Yc hQ))
noncomputable def Itl(K:Yk)(a:Yi):It:=⟨λi H=>∃xs x,SqL K H a xs/\xs[i]?=J x,λi H x H'=>H'=H/\∀xs,SqL K H a xs->xs[i]?=J x,λi H=>∃xs,SqL K H a xs/\xs.length<=i⟩
noncomputable def Itt(K:Yk)(a:Yi):It:=⟨λi H=>∃xs x,SqT K H a xs/\xs[i]?=J x,λi H x H'=>H'=H/\∀xs,SqT K H a xs->xs[i]?=J x,λi H=>∃xs,SqT K H a xs/\xs.length<=i⟩
noncomputable def Itr(lo:Int)(n:Nat):It:=⟨λi _=>i<n,λi H x H'=>H'=H/\x=.int (lo+i),λi _=>n<=i⟩
def Zky{P:Yh}{w:Yg}{K:Yk}{tg:Expr}(a it:Yi):Turn P w K tg (Itl K a) [it] it (λi h=>h.IsListIter it a i) where
 mem:=by simp
 obj:=λi h st b hb=>by
  have e:b=it:=by simpa using hb
  subst e;obtain⟨o,e,c,d⟩:=st;exact⟨o,e,λv z=>by rw[d]at z;cases z⟩
 keep:=λi h h' st k=>st.at λo e=>k it (by simp) o e
 item:=by intro X hP hw hK hc i aa s Z H E I hf st hg;subst hP hw hK;obtain⟨xs,x,hq,hx⟩:=hg;obtain⟨its,rv,p,hz⟩:=I.list hq;obtain⟨u,hu,ru⟩:=rv.get hx;obtain⟨f0,f1,f2,f3,f4,f5⟩:=hf it (by simp);refine wpAny_pyNext_list_item st p.isList (x:=u) (by simpa using hu) λh' a7 sb=>?_;have I1:Inv X aa Z H {s with heap:=h'}:=I.turned (t':=s.toks) (λb o hb e=>(sb.2 b hb).trans e) f0 f1 f3 f4 f5;obtain⟨o,e,c,d⟩:=id a7;exact⟨u,rfl,ZhU (s:={s with heap:=h'}) e c d (by decide) ⟨x,H,I1,ru,⟨rfl,λys hy=>by rw[I.list_inj hy hq];exact hx⟩,a7,λb hb=>(hf b hb).1⟩⟩
 done:=by intro X hP hw hK hc i aa s Z H E I hf st hg;subst hP hw hK;obtain⟨xs,hq,hx⟩:=hg;obtain⟨its,rv,p,hz⟩:=I.list hq;obtain⟨f0,f1,f2,f3,f4,f5⟩:=hf it (by simp);have hl:=rv.length;exact wpAny_pyNext_list_end (I.ok.hd hc) st p.isList (by simp;lia) λh' eb=>⟨rfl,I.turned (t':=s.toks) (λb o hb e=>eb b o hb e) f0 f1 f3 f4 f5⟩
 self:=λ_ _ _ _ _ st h=>wpAny_pyIter_listiter st h
def Zir{P:Yh}{w:Yg}{K:Yk}{tg:Expr}(a it:Yi):Turn P w K tg (Itt K a) [it] it (λi h=>h.IsTupleIter it a i) where
 mem:=by simp
 obj:=λi h st b hb=>by
  have e:b=it:=by simpa using hb
  subst e;obtain⟨o,e,c,d⟩:=st;exact⟨o,e,λv z=>by rw[d]at z;cases z⟩
 keep:=λi h h' st k=>st.at λo e=>k it (by simp) o e
 item:=by intro X hP hw hK hc i aa s Z H E I hf st hg;subst hP hw hK;obtain⟨xs,x,hq,hx⟩:=hg;obtain⟨its,rv,p,hz⟩:=I.tuple hq;obtain⟨u,hu,ru⟩:=rv.get hx;obtain⟨f0,f1,f2,f3,f4,f5⟩:=hf it (by simp);refine wpAny_pyNext_tuple_item st (show s.heap.IsTuple a its.toArray from p) (x:=u) (by simpa using hu) λh' a7 sb=>?_;have I1:Inv X aa Z H {s with heap:=h'}:=I.turned (t':=s.toks) (λb o hb e=>(sb.2 b hb).trans e) f0 f1 f3 f4 f5;obtain⟨o,e,c,d⟩:=id a7;exact⟨u,rfl,ZhU (s:={s with heap:=h'}) e c d (by decide) ⟨x,H,I1,ru,⟨rfl,λys hy=>by rw[I.tuple_inj hy hq];exact hx⟩,a7,λb hb=>(hf b hb).1⟩⟩
 done:=by intro X hP hw hK hc i aa s Z H E I hf st hg;subst hP hw hK;obtain⟨xs,hq,hx⟩:=hg;obtain⟨its,rv,p,hz⟩:=I.tuple hq;obtain⟨f0,f1,f2,f3,f4,f5⟩:=hf it (by simp);have hl:=rv.length;exact wpAny_pyNext_tuple_end (I.ok.hd hc) st (show s.heap.IsTuple a its.toArray from p) (by simp;lia) λh' eb=>⟨rfl,I.turned (t':=s.toks) (λb o hb e=>eb b o hb e) f0 f1 f3 f4 f5⟩
 self:=λ_ _ _ _ _ st h=>wpAny_pyIter_tupleiter st h
theorem Zis{P:Yh}{w:Yg}{K:Yk}{tg:Expr}(it:Yi)(lo:Int)(n:Nat):Turn P w K tg (Itr lo n) [it] it (λi h=>IsRangeIter h it (lo+(i:Nat)*1) ((n:Int)-(i:Nat)) 1) where
 mem:=by simp
 obj:=λi h st b hb=>by
   have e:b=it:=by simpa using hb
   subst e;exact⟨_,st,λv z=>by
     have z':Data.fields _=Data.cell v:=z;cases z'⟩
 keep:=λi h h' st k=>k it (by simp) _ st
 item:=by
   intro X hP hw hK hc i aa s Z H E I hf st hg;subst hP hw hK;obtain⟨f0,f1,f2,f3,f4,f5⟩:=hf it (by simp);have W:=Walks.range (prog:=X.prog) (w:=X.w) (I.ok.hd hc) it lo 1 n;refine W.item i s _ _ hg st λv h' tk hv a7 kk=>?_;obtain⟨t,rfl⟩:=hv;have I1:Inv X aa Z H {s with heap:=h',toks:=tk}:=I.turned (λb o hb e=>kk b o (by simpa using hb) e) f0 f1 f3 f4 f5;refine⟨_,rfl,ZhU (s:={s with heap:=h',toks:=tk}) (n := "range_iterator") a7 rfl rfl (by decide) ⟨.int (lo+i),H,I1,⟨t,?_⟩,⟨rfl,rfl⟩,a7,λb hb=>(hf b hb).1⟩⟩;rw [Int.mul_one]
 done:=by
   intro X hP hw hK hc i aa s Z H E I hf st hg;subst hP hw hK;obtain⟨f0,f1,f2,f3,f4,f5⟩:=hf it (by simp);exact wpAny_pyNext_range_end (I.ok.hd hc) st (by have:n<=i:=hg;lia) λh' eb=>⟨rfl,I.turned (t':=s.toks) (λb o hb e=>eb b o hb e) f0 f1 f3 f4 f5⟩
 self:=λ_ _ _ _ _ st h=>wpAny_pyIter_rangeiter st h
section
variable {X:Cx}{tg:Expr}
def ZlG{aa:List (Yi×Obj)}{Z:St}{H:Hp}{s:Yb}{kz:It->Hp->Prop}{E:Yj->Yb->Prop}{lo hi:Int}{t u v:Tok}{tk:Nat}(I:Inv X aa Z H s)(R:-(2^62)<=lo)(h2:lo<2^62)(h3:-(2^62)<=hi)(h4:hi<2^62)
 (q:kz (Itr lo (hi-lo).toNat) H):Yz (model X.prog X.w) X.A (pyIter (.ref s.heap.objs.size)) (PIE X aa Z tg kz) E {s with heap:=s.heap.push {cls:=.type "range",data:=.fields #[.int lo t,.int hi u,.int 1 v]},toks:=tk}:=by
 refine wpAny_pyIter_range (IsRange.new ..) (small_one R h2 h3 h4) ?_;have I1:Inv X aa Z H {s with heap:=s.heap.push {cls:=.type "range",data:=.fields #[.int lo t,.int hi u,.int 1 v]},toks:=tk}:=I.kept λb o e=>Od _ e;refine⟨(s.heap.push {cls:=.type "range",data:=.fields #[.int lo t,.int hi u,.int 1 v]}).objs.size,[(s.heap.push {cls:=.type "range",data:=.fields #[.int lo t,.int hi u,.int 1 v]}).objs.size],_,_,H,rfl,
  I1.kept (t':=tk) λb o e=>Od _ e,Zis _ lo (hi-lo).toNat,?_,λb hb=>?_,q⟩
 . have e1:lo+((0:Nat):Int)*1=lo:=by simp
   have e2:(((hi-lo).toNat:Nat):Int)-((0:Nat):Int)=Builtin.Range.rangeSize lo hi 1:=by rw[rangeSize_one];split<;>lia
   show IsRangeIter _ _ (lo+((0:Nat):Int)*1) ((((hi-lo).toNat:Nat):Int)-((0:Nat):Int)) 1;rw[e1,e2];exact Oj _ rfl
 . have e:b=(s.heap.push {cls:=.type "range",data:=.fields #[.int lo t,.int hi u,.int 1 v]}).objs.size:=by simpa using hb
   subst e;exact I1.fpOk (Oq _) (I1.hok.fresh (Oq _))
def ZsY(ta:TA):TI:=λZ H kz=>ta Z H λvs H1=>∃j:Int,vs=[.int j]/\-(2^62)<=j/\j<2^62/\kz (Itr 0 j.toNat) H1
def ZkO{a:Expr}{ta:TA}{p pos:Pos}(hg:Gl X "range")(hm:X.mg "range"=M)(ha:PA X [a] ta)(hs:Yy [a] X.env=[(Ws,eval a X.env)]:=by rfl):PI X tg (.Call (.Name "range" p) [a] [] pos) (ZsY ta):=by
 intro aa s Z H kz I h;refine Call_ (Zbi I hg hm boot_range (PyProof.Rows.callWith_type1 (thn (ha pos aa s Z H _ I h) λus s1 ⟨vs,H1,I1,r1,q1⟩=>?_) hs rfl));obtain⟨j,e,q1,q2,q⟩:=q1;subst e;cases r1 with
 |cons r rr=>cases rr;obtain⟨t,rfl⟩:=r;exact call_range_1 (ZlG I1 (by lia) (by lia) q1 q2 (by simpa using q))
def ZtL(wi:TI)(g:TG)(tb:TS):TS:=λD Z H=>wi Z H λku H1=>∃W:Nat->Nat->St->Hp->Prop,(∃m,W 0 m Z H1)/\∀i m Z H,W i m Z H ->
 (ku.stop i H/\D.nx Z H)\/(ku.go i H/\∃N:St->Hp->Prop,(∀σ' H',N σ' H'->∃m',m'<m/\W (i+1) m' σ' H')/\∀x H',ku.yld i H x H'->g x Z H' λσ2 H2=>tb {D with nx:=N,ct:=N,bk:=D.nx} σ2 H2)
noncomputable def ZeX(fp:List Yi)(h:YF):List (Yi×Obj):=fp.filterMap λb=>(h.get? b).map λo=>(b,o)
def ZbE(hb:b∈fp)(e:h.get? b=J o):(b,o)∈ZeX fp h:=List.mem_filterMap.mpr ⟨b,hb,by rw[e];rfl⟩
def ZkV(hp:p∈ZeX fp h):p.1∈fp/\h.get? p.1=J p.2:=by
 obtain⟨b,hb,e⟩:=List.mem_filterMap.mp hp;cases q:h.get? b with
 |none=>rw[q]at e;cases e
 |some o=>rw[q]at e;have e':(b,o)=p:=YE e;subst e';exact⟨hb,q⟩
def Inv.pinned(I:Inv X aa Z H s)(hf:∀b∈fp,Zcr X aa H b)(ho:∀b∈fp,∃o,s.heap.get? b=J o/\∀v,o.data≠.cell v):Inv X (aa++ZeX fp s.heap) Z H s:=
 I.pins_of λp hp=>(OD.mp hp).elim (λz=>I.pin p (Ov _ z)) λz=>by obtain⟨hb,e⟩:=ZkV z;obtain⟨f0,f1,f2,_⟩:=hf p.1 hb;obtain⟨o,e',d⟩:=ho p.1 hb;rw[e]at e';cases e';exact⟨e,f0,f1,f2,d⟩
def Inv.unpinned(I:Inv X (aa++pl) Z H s):Inv X aa Z H s:=I.pins_of λp hp=>I.pin p (Ov _ (List.mem_append_left _ hp))
def Zqc(hp:PassesOwn (model X.prog X.w) X.A X.env X.xe)(hc:X.calm=Wr)(hi:PI X tg iter wi)(hg:PG X tg g)(hb:PSs X body tb)
 (hs:∀x,foldedSetIterable iter X.env x=pure x:=by intro _;rfl):PS X (.For tg iter body [] pos) (ZtL wi g tb):=by
 intro aa s Z H D I h;refine wpAny_For (thn (hi aa s Z H _ I h) λv s1 R=>thn R λfO s2 h2=>?_) hs;obtain⟨it,fp,tn,ku,H2,e,I2,T,b9,f2,W,⟨m0,w0⟩,turn⟩:=h2;subst e;have be:∀{H':Hp},(∀b∈fp,H' b=M)->∀b∈fp,Zcr X aa H' b:=λhn b hb=>⟨hn b hb,(f2 b hb).2⟩
 refine codeAny_forLoop_any (λn s'=>∃i σ' H',Inv X aa σ' H' s'/\tn i s'.heap/\(∀b∈fp,H' b=M)/\W i n σ' H') ?_ m0 ⟨0,Z,H2,I2,b9,λb hb=>(f2 b hb).1,w0⟩;rintro n s3 ⟨i,σ3,H3,I3,st3,fr3,w3⟩;rcases turn i n σ3 H3 w3 with⟨stop,qn⟩|⟨go,N,hN,step⟩
 . refine wpAny_passesOwn hp (thn (T.done X rfl rfl rfl hc i aa s3 σ3 H3 X.xe I3 (be fr3) st3 stop) λr s4 ⟨hr,I4⟩=>?_);subst hr;exact wpAny_execs_nil ⟨σ3,H3,I4,qn⟩
 . refine wpAny_passesOwn hp (thn (T.item X rfl rfl rfl hc i aa s3 σ3 H3 X.xe I3 (be fr3) st3 go) λr s4 ⟨u,hr,h4⟩=>?_);subst hr;refine wpAny_passesOwn hp (thn h4 λ_ s5 ⟨x,H5,I5,r5,y5,du,fm⟩=>?_);have jZ:=I5.pinned (be fm) (T.obj _ _ du);refine wpAny_passesOwn hp (thn (hg _ s5 σ3 H5 x u _ jZ r5 (step x H5 y5)) λ_ s6 ⟨σ6,H6,I6,q6⟩=>?_);refine wpAny_passesOwn hp (thn (hb _ s6 σ6 H6 _ I6 q6) λf s7 q7=>?_);have again:∀{σ7:St}{H7:Hp},Inv X (aa++ZeX fp s5.heap) σ7 H7 s7->N σ7 H7->∃m,m<n/\∃i σ' H',Inv X aa σ' H' s7/\tn i s7.heap/\(∀b∈fp,H' b=M)/\W i m σ' H':=λ{σ7 H7} I7 n7=>by obtain⟨m',hm,w7⟩:=hN σ7 H7 n7;refine⟨m',hm,i+1,σ7,H7,I7.unpinned,T.keep _ _ _ du λb hb o e=>(I7.pin (b,o) (Ov _ (Ov _ (ZbE hb e)))).1,λb hb=>?_,w7⟩;obtain⟨o,e,d⟩:=T.obj _ _ du b hb;exact(I7.pin (b,o) (Ov _ (Ov _ (ZbE hb e)))).2.1
   cases f with
   |next=>obtain⟨σ7,H7,I7,n7⟩:=q7;exact again I7 n7
   |cont=>obtain⟨σ7,H7,I7,n7⟩:=q7;exact again I7 n7
   |brk=>obtain⟨σ7,H7,I7,q7⟩:=q7;exact⟨σ7,H7,I7.unpinned,q7⟩
   |ret v=>obtain⟨x7,σ7,H7,I7,r7,q7⟩:=q7;exact⟨x7,σ7,H7,I7.unpinned,r7,q7⟩
end
abbrev R2:=V->V->Hp->VK->Prop
def OpR(X:Cx)(f:Yj->Yj->Sem Yj)(r:R2):Prop:=
 ∀(aa:List (Yi×Obj)) (s:Yb) (Z:St) (H:Hp) (x y:V) (v u:Yj) (Q:VK),Inv X aa Z H s->RelV x v->RelV y u->r x y H Q ->
  Yz (model X.prog X.w) X.A (f v u) (EP X aa Z Q) X.xe s
def UnR(X:Cx)(f:Yj->Sem Yj)(r:V->Hp->VK->Prop):Prop:=
 ∀(aa:List (Yi×Obj)) (s:Yb) (Z:St) (H:Hp) (x:V) (v:Yj) (Q:VK),Inv X aa Z H s->RelV x v->r x H Q ->
  Yz (model X.prog X.w) X.A (f v) (EP X aa Z Q) X.xe s
def Zag(X:Cx)(f:Yj)(r:List V->Hp->VK->Prop):Prop:=
 ∀(aa:List (Yi×Obj)) (s:Yb) (Z:St) (H:Hp) (xs:List V) (us:List Yj) (Q:VK),Inv X aa Z H s->Zn xs us->r xs H Q ->
  Yz (model X.prog X.w) X.A (call f us) (EP X aa Z Q) X.xe s
def Zuz(X:Cx)(r:V->Hp->(Bool->Hp->Prop)->Prop):Prop:=
 ∀(aa:List (Yi×Obj)) (s:Yb) (Z:St) (H:Hp) (x:V) (v:Yj) (Q:Bool->Hp->Prop),Inv X aa Z H s->RelV x v->r x H Q ->
  Yz (model X.prog X.w) X.A (truthy v) (TP X aa Z Q) X.xe s
def tOp(r:R2)(ta tb:TE):TE:=λZ H Q=>ta Z H λx H1=>tb Z H1 λy H2=>r x y H2 Q
noncomputable def tUn(r:V->Hp->VK->Prop)(ta:TE):TE:=λZ H Q=>ta Z H λx H1=>r x H1 Q
noncomputable def rI(C:Int->Int->Prop)(g:Int->Int->V):R2:=λx y H Q=>∃i j,x=.int i/\y=.int j/\C i j/\Q (g i j) H
noncomputable def rI0(g:Int->Int->V):R2:=λx y H Q=>∃i j,x=.int i/\y=.int j/\Q (g i j) H
def rU(g:Int->V):V->Hp->VK->Prop:=λx H Q=>∃i,x=.int i/\Q (g i) H
section
variable {X:Cx}{a b:Expr}{ta tb:TE}{pos:Pos}
def Zrw(ha:PE X a ta)(hb:PE X b tb){aa:List (Yi×Obj)}{s:Yb}{Z:St}{H:Hp}{kz:V->V->Hp->Prop}(I:Inv X aa Z H s)
 (h:ta Z H λx H1=>tb Z H1 λy H2=>kz x y H2) {Q:Yj->Yb->Prop}{f:Yj->Yj->Sem Yj}
 (hf:∀v u s2 x y H2,Inv X aa Z H2 s2->RelV x v->RelV y u->kz x y H2->Yz (model X.prog X.w) X.A (f v u) Q X.xe s2) :
 Yz (model X.prog X.w) X.A (eval a X.env) (λv s₁=>Yz (model X.prog X.w) X.A (eval b X.env) (λu s₂=>Yz (model X.prog X.w) X.A (f v u) Q X.xe s₂) X.xe s₁) X.xe s:=by
 refine thn (ha aa s Z H _ I h) λv s1 ⟨x,H1,I1,r1,q1⟩=>?_;refine thn (hb aa s1 Z H1 _ I1 q1) λu s2 ⟨y,H2,I2,r2,q2⟩=>?_;exact hf v u s2 x y H2 I2 r1 r2 q2
def Zsq{op:Operator}{r:R2}(ho:OpR X (binaryOp op) r)(ha:PE X a ta)(hb:PE X b tb):PE X (.BinOp a op b pos) (tOp r ta tb):=by intro aa s Z H Q I h;exact wpAny_BinOp (Zrw ha hb I h λv u s2 x y H2 I2 rx ry q=>ho aa s2 Z H2 x y v u Q I2 rx ry q)
def Zso{op:UnaryOp}{r:V->Hp->VK->Prop}(ho:UnR X (unaryOp op) r)(ha:PE X a ta):PE X (.UnaryOp op a pos) (tUn r ta):=by intro aa s Z H Q I h;exact UnaryOp_ (thn (ha aa s Z H _ I h) λv s1 ⟨x,H1,I1,r1,q1⟩=>ho aa s1 Z H1 x v Q I1 r1 q1)
def opI{f:Yj->Yj->Sem Yj}{C:Int->Int->Prop}{g:Int->Int->Int}
 (rule:∀(i j:Int) (t u:Tok) (s:Yb) (Q:Yj->Yb->Prop) (E:Yj->Yb->Prop),C i j->Q (.int (g i j) s.toks) {s with toks:=s.toks+1}->Yz (model X.prog X.w) X.A (f (.int i t) (.int j u)) Q E s) :
 OpR X f (rI C λi j=>.int (g i j)):=by
 intro aa s Z H x y v u Q I rx ry h;obtain⟨i,j,rfl,rfl,hc,q⟩:=h;obtain⟨t,rfl⟩:=rx;obtain⟨t',rfl⟩:=ry;exact rule i j t t' s _ _ hc ⟨.int (g i j),H,I.tok _,⟨_,rfl⟩,q⟩
def ZsC{g:Int->Int->Int}
 (rule:∀(i j:Int) (t u:Tok) (s:Yb) (Q:Yj->Yb->Prop) (E:Yj->Yb->Prop),Q (.int (g i j) s.toks) {s with toks:=s.toks+1}->Yz (model X.prog X.w) X.A (f (.int i t) (.int j u)) Q E s) :
 OpR X f (rI0 λi j=>.int (g i j)):=by
 intro aa s Z H x y v u Q I rx ry h;obtain⟨i,j,rfl,rfl,q⟩:=h;obtain⟨t,rfl⟩:=rx;obtain⟨t',rfl⟩:=ry;exact rule i j t t' s _ _ ⟨.int (g i j),H,I.tok _,⟨_,rfl⟩,q⟩
def Zob{g:Int->Int->Bool}
 (rule:∀(i j:Int) (t u:Tok) (s:Yb) (Q:Yj->Yb->Prop) (E:Yj->Yb->Prop),Q (.bool (g i j)) s->Yz (model X.prog X.w) X.A (f (.int i t) (.int j u)) Q E s) :
 OpR X f (rI0 λi j=>.bl (g i j)):=by
 intro aa s Z H x y v u Q I rx ry h;obtain⟨i,j,rfl,rfl,q⟩:=h;obtain⟨t,rfl⟩:=rx;obtain⟨t',rfl⟩:=ry;exact rule i j t t' s _ _ ⟨.bl (g i j),H,I,rfl,q⟩
def ZuB(i j:Int):Prop:=0<j/\j<1073741824
def ZuA(i j:Int):Prop:=0<=j/\j<=1000000/\i.natAbs<2^64
def ZqE:OpR X (binaryOp .Add) (rI0 λi j=>.int (i+j)):=ZsC λ_ _ _ _ _ _ _ q=>add_int q
def Zqy:OpR X (binaryOp .Sub) (rI0 λi j=>.int (i-j)):=ZsC λ_ _ _ _ _ _ _ q=>sub_int q
def Zn0:OpR X (binaryOp .FloorDiv) (rI ZuB λi j=>.int (i/j)):=opI λi j _ _ _ _ _ hc q=>by have R:(0:Int)<j:=hc.1;have h2:j<1073741824:=hc.2;exact floordiv_int (by lia) (by rw[Int.fdiv_eq_ediv_of_nonneg i (by lia)];exact q) (.inl (PyProof.noPylong_small (by lia)))
def ZqA:OpR X (binaryOp .Mod) (rI (λ_ j=>0<j) λi j=>.int (i%j)):=opI λi j _ _ _ _ _ hc q=>by have R:(0:Int)<j:=hc;exact mod_int' (by lia) (by rw[Int.fmod_eq_emod_of_nonneg i (by lia)];exact q)
def Zqz:OpR X (binaryOp .Pow) (rI ZuA λi j=>.int (i^j.toNat)):=opI λ_ _ _ _ _ _ _ hc q=>pow_int_small hc.1 hc.2.1 hc.2.2 q
def unI{g:Int->Int}
 (rule:∀(i:Int) (t:Tok) (s:Yb) (Q:Yj->Yb->Prop) (E:Yj->Yb->Prop),Q (.int (g i) s.toks) {s with toks:=s.toks+1}->Yz (model X.prog X.w) X.A (f (.int i t)) Q E s) :
 UnR X f (rU λi=>.int (g i)):=by
 intro aa s Z H x v Q I rx h;obtain⟨i,rfl,q⟩:=h;obtain⟨t,rfl⟩:=rx;exact rule i t s _ _ ⟨.int (g i),H,I.tok _,⟨_,rfl⟩,q⟩
def ZpJ:UnR X (unaryOp .USub) (rU λi=>.int (-i)):=unI λ_ _ _ _ _ q=>neg_int q
def ZmE(I:Inv X aa Z H s)(q:Q (.bl k) H)(e:k=k'):EP X aa Z Q (.bool k') s:=by subst e;exact⟨.bl k,H,I,rfl,q⟩
def Zsv:OpR X (YL .Lt) (rI0 λi j=>.bl (Wt (i<j))):=Zob λ_ _ _ _ _ _ _ q=>lt_int q
def Zsw:OpR X (YL .LtE) (rI0 λi j=>.bl (Wt (i<=j))):=Zob λ_ _ _ _ _ _ _ q=>le_int q
def Zsx:OpR X (YL .Gt) (rI0 λi j=>.bl (Wt (j<i))):=Zob λ_ _ _ _ _ _ _ q=>gt_int q
def Zsy:OpR X (YL .GtE) (rI0 λi j=>.bl (Wt (j<=i))):=Zob λ_ _ _ _ _ _ _ q=>ge_int q
def ZqB:OpR X (YL .Is) (λx y H Q=>y=.non/\Q (.bl (Wt (x=.non))) H):=by
 intro aa s Z H x y v u Q I rx ry h;obtain⟨rfl,q⟩:=h;cases ry;refine is_none_gen (ZmE I q ?_);cases x<;>first
  |(cases rx;rfl)
  |(obtain⟨t,rfl⟩:=rx;rfl)
def ZnY:OpR X (YL .IsNot) (λx y H Q=>y=.non/\Q (.bl (!Wt (x=.non))) H):=by
 intro aa s Z H x y v u Q I rx ry h;obtain⟨rfl,q⟩:=h;cases ry;refine isnot_none_gen (ZmE I q ?_);cases x<;>first
  |(cases rx;rfl)
  |(obtain⟨t,rfl⟩:=rx;rfl)
def ZnU{op:CmpOp}{r:R2}(ho:OpR X (YL op) r)(ha:PE X a ta)(hb:PE X b tb)(hm:behindInMarks op b=Ws):PE X (.Compare a [op] [b] pos) (tOp r ta tb):=by intro aa s Z H Q I h;exact wpAny_Compare1 (Zrw ha hb I h λv u s2 x y H2 I2 rx ry q=>ho aa s2 Z H2 x y v u Q I2 rx ry q) hm
noncomputable def ZrX(t:TE):TT:=λZ H Q=>t Z H λx H'=>∃k,x=.bl k/\Q k H'
def ZnD{op:CmpOp}{r:R2}(ho:OpR X (YL op) r)(ha:PE X a ta)(hb:PE X b tb)(hm:behindInMarks op b=Ws):PT X (.Compare a [op] [b] pos) (ZrX (tOp r ta tb)):=by
 intro aa s Z H Q I h;refine wpAny_isTrue_Compare1 (thn (ha aa s Z H _ I h) λv s1 ⟨x,H1,I1,r1,q1⟩=>thn (hb aa s1 Z H1 _ I1 q1) λu s2 ⟨y,H2,I2,r2,q2⟩=>thn (ho aa s2 Z H2 x y v u _ I2 r1 r2 q2) λc s3 ⟨z,H3,I3,r3,k,e,q3⟩=>?_) hm
 subst e;cases r3;exact wpAny_truthy_bool ⟨H3,I3,q3⟩
def ZrA(K:Yk)(x:V)(H:Hp)(k:Bool):Prop:=
 match x with
 |.non=>k=Ws
 |.bl b=>k=b
 |.int i=>k=(i != 0)
 |.str y=>y.length<=sizeLine/\k=((y.length:Int) != 0)
 |.byt y=>y.size<=sizeLine/\k=((y.size:Int) != 0)
 |.ref p=>(∃xs,SqL K H p xs/\k=!xs.isEmpty)\/(∃xs,SqT K H p xs/\k=!xs.isEmpty)\/∃kvs,H p=J (.dK kvs)/\k=!kvs.isEmpty
 |_=>False
def ZiX(r:KV kvs vs):(!vs.isEmpty)=!kvs.isEmpty:=by cases r<;>rfl
def Ze9(r:Zn xs its):(!its.toArray.isEmpty)=!xs.isEmpty:=by cases r<;>simp
def ZaZ:(sizeLine:Nat)<2^63:=by rw[YA];decide
def ZpO:Zuz X (λx H Q=>∃k,ZrA X.K x H k/\Q k H):=by
 intro aa s Z H x v Q I rx h;obtain⟨k,e,q⟩:=h;have hl:=ZaZ;have hs:sizeLine=16777216:=YA;cases x with
 |non=>cases rx;have e':k=Ws:=e;subst e';exact truthy_none ⟨H,I,q⟩
 |bl b=>cases rx;have e':k=b:=e;subst e';exact wpAny_truthy_bool ⟨H,I,q⟩
 |int i=>obtain⟨t,rfl⟩:=rx;have e':k=(i != 0):=e;subst e';exact PySem.P.truthy_int ⟨H,I,q⟩
 |str y=>obtain⟨t,rfl⟩:=rx;obtain⟨hy,e'⟩:y.length<=sizeLine/\k=((y.length:Int) != 0):=e;subst e';exact PySem.P.truthy_str (by lia) ⟨H,I.tok _,q⟩
 |byt y=>obtain⟨t,rfl⟩:=rx;obtain⟨hy,e'⟩:y.size<=sizeLine/\k=((y.size:Int) != 0):=e;subst e';exact PySem.W.truthy_bytes (by lia) ⟨H,I.tok _,q⟩
 |ref p=>
  cases rx;have e':(∃xs,SqL X.K H p xs/\k=!xs.isEmpty)\/(∃xs,SqT X.K H p xs/\k=!xs.isEmpty)\/∃kvs,H p=J (.dK kvs)/\k=!kvs.isEmpty:=e;rcases e' with⟨xs,hx,e'⟩|⟨xs,hx,e'⟩|⟨kvs,hx,e'⟩
  . subst e';obtain⟨its,r,pl,hz⟩:=I.list hx;have ao:=r.length;exact wpAny_truthy_list pl.isList (by simp only[Of];lia) ⟨H,I.tok _,by rw[Ze9 r];exact q⟩
  . subst e';obtain⟨its,r,pl,hz⟩:=I.tuple hx;have ao:=r.length;exact truthy_tuple pl (by simp only[Of];lia) ⟨H,I.tok _,by rw[Ze9 r];exact q⟩
  . subst e';obtain⟨hz,hS,vs,r,m⟩:kvs.length<=sizeLine/\(p==Ye)=Ws/\∃vs,KV kvs vs/\s.heap.DictOf (ZD X.prog X.w) p vs:=I.hok p _ hx;have ao:kvs.length=vs.length:=Paired.length r;exact wpAny_truthy_dict hS m (by lia) ⟨H,I.tok _,by rw[ZiX r];exact q⟩
 |_=>exact(show False from e).elim
def ZlS(ha:PE X a ta)(he:∀aM,isTrue a X.env aM=(do let v <- aM;standAt a.pos;holding [v] (truthy v))):
 PT X a (λZ H Q=>ta Z H λx H'=>∃k,ZrA X.K x H' k/\Q k H'):=by
 intro aa s Z H Q I h;exact isTrue_plain (thn (ha aa s Z H _ I h) λv s1 ⟨x,H1,I1,r1,q1⟩=>ZpO aa s1 Z H1 x v Q I1 r1 q1) (he _)
def ZiG:OpR X (binaryOp .Add) (λx y H Q=>∃i j,x=.str i/\y=.str j/\i.length+j.length<=sizeLine/\Q (.str (i++j)) H):=by intro aa s Z H x y v u Q I rx ry h;obtain⟨i,j,rfl,rfl,hz,q⟩:=h;obtain⟨t,rfl⟩:=rx;obtain⟨t',rfl⟩:=ry;exact add_str (λt' tk=>⟨.str (i++j),H,I.tok _,⟨_,rfl⟩,q⟩) hz
def vals1{x:V}{us:List Yj}(r:Zn [x] us):∃u,us=[u]/\RelV x u:=by
 cases r with
 |cons r1 r2=>cases r2;exact⟨_,rfl,r1⟩
def vals2{x y:V}{us:List Yj}(r:Zn [x,y] us):∃u w',us=[u,w']/\RelV x u/\RelV y w':=by
 cases r with
 |cons r1 r2=>
  cases r2 with
  |cons r3 r4=>cases r4;exact⟨_,_,rfl,r1,r3⟩
def Zgm:Zag X (.type "int") (λxs H Q=>(∃i,xs=[.int i]/\Q (.int i) H)\/∃k,xs=[.bl k]/\Q (.int (if k then 1 else 0)) H):=by
 intro aa s Z H xs us Q I r h;rcases h with⟨i,rfl,q⟩|⟨k,rfl,q⟩
 . obtain⟨u,rfl,t,rfl⟩:=vals1 r;exact call_int_int ⟨.int i,H,I,⟨_,rfl⟩,q⟩
 . obtain⟨u,rfl,r1⟩:=vals1 r;cases r1;exact call_int_bool ⟨.int (if k then 1 else 0),H,I.tok _,⟨_,rfl⟩,q⟩
end
structure ObjM(h:YF)(x dx C:Yi)(mA:Str->Option Yj):Prop where
 obj:h.get? x=J (We C dx)
 ns:h.Ns1 dx mA
 ne:dx≠x
def Zk0{h:YF}(n:h.Ns1 dx mA):∃od,h.get? dx=J od/\∀name,PySem.W.lookIn name od=J (mA name):=by
 obtain⟨o,es,ep,ho,hd,hk,_,hm⟩:=n;refine⟨o,ho,λname=>?_⟩;have e:=hm name;unfold nsFind findBy at e;rw[<-Array.find?_toList]at e;unfold PySem.W.lookIn;rw[hd];dsimp only;split
 . rename_i y q;rw[q]at e;exact congrArg J e
 . rename_i q;rw[q]at e;have a:es.toList.any (·.refKey)=Ws:=by rw[List.any_eq_false];intro y hy;obtain⟨z,t,bD⟩:=hk y (Array.mem_toList_iff.mp hy);simp[DictEntry.refKey,bD]
   have a':¬ es.toList.any (·.refKey)=Wr:=by rw[a];exact Ow
   rw[if_neg a'];exact congrArg J e
def ObjM.look(I:ObjM h x dx C mA):∃od,PySem.W.InstAt h x (We C dx) C (J od)/\∀name,PySem.W.lookIn name od=J (mA name):=
 let⟨od,ho,hl⟩:=Zk0 I.ns
 ⟨od,⟨I.obj,rfl,rfl,ho⟩,hl⟩
section
variable {prog:Yh}{w:Yg}{A:YG}{E:Yj->Yb->Prop}{s:Yb}{K:Yk}{x dx C f:Yi}{mA:Str->Option Yj}{name:Str}{v:Yj}
def Zow(X:K.In s.heap)(I:ObjM s.heap x dx C mA)(hg:PySem.W.plainGet K C name=Wr)(hh:PySem.W.hasDictIn K C=Wr)
 (ha:YI K (.ref C) name=J M) (hv:mA name=J v) (cM:PySem.W.handedIn v=Wr) (h:Q v {s with toks:=s.toks+1}) :
 Yz (model prog w) A (getAttr (.ref x) name expr) Q E s:=by
 obtain⟨od,ku,hl⟩:=I.look;exact PySem.W.get_value X ku (PySem.W.plainGet_of hg).1 (PySem.W.findObj_own hh ha rfl (by rw[hl,hv])) cM h
def ZmA(X:K.In s.heap)(I:ObjM s.heap x dx C mA)(hg:PySem.W.plainGet K C name=Wr)
 (hf:YI K (.ref C) name=J (J (.ref f))) (ht:PySem.W.isFn K (.ref f)=Wr) (hv:mA name=M) (h:Q (.ref f,[.ref x]) s) :
 Yz (model prog w) A (getMethod (.ref x) name pl) Q E s:=by
 obtain⟨od,ku,hl⟩:=I.look;exact PySem.W.method_fn X ku (PySem.W.plainGet_of hg).1 (PySem.W.plainGet_of hg).2 hf (beq_iff_eq.mp ht) (by show(PySem.W.lookIn name od).map (·.isSome)=J Ws;rw[hl,hv];rfl) h
def Zno(X:K.In s.heap)(I:ObjM s.heap x dx C mA)
 (hs:YI K (.ref C) "__setattr__"=J (J (.builtin "object.__setattr__"))) (hp:PySem.W.plainOver K C=Wr) (ht:PySem.W.takerIn K C name=J M) (hh:PySem.W.hasDictIn K C=Wr)
 (hw:PySem.Within mA ns) (hsz:ns.length<=sizeLine)
 (h:∀h',ObjM h' x dx C (λy=>if y=name then J v else mA y)->Heap.SameBut dx s.heap h'->Q () {s with heap:=h',toks:=s.toks+2}) :
 Yz (model prog w) A (setAttr (.ref x) name v) Q E s:=by
 obtain⟨od,ku,hl⟩:=I.look;refine PySem.W.set_plain X ku hs (PySem.W.osa_open (s:={s with toks:=s.toks+1}) (r:=M) X ku hp ht λb=>?_);obtain⟨cd,hc,gg⟩:=PySem.W.any_some hh;have hx:s.heap.get? x=J ⟨.ref C,J dx,.plain,#[]⟩:=I.obj;refine Ya (Yc (Ya (Ya (wpAny_loadPart hx (Ya (PySem.W.Looks.here (s:={s with toks:=s.toks+1}) (PySem.W.looks_clsIn X hc) ?_))))));rw[gg];refine Yc (a:=J dx) (Ya (Yc (Ya ?_)));refine wpAny_nsSet1 (s:={s with toks:=s.toks+1}) I.ns λh' fb cN=>?_;obtain⟨oD,ko,kr,jl,jC,jE⟩:=fb.count (PySem.Within.cons name v hw);refine Ya (wpAny_lookBehind jl (by rw[jC];exact pastItsLine_dict (OE jE (by rw[Os];lia))) ?_);exact Yc (h _ ⟨(cN.2 _ (YK I.ne)).trans I.obj,fb,I.ne⟩ cN)
def Zmj(X:K.In s.heap)(hm:PySem.W.makesIn K C=Wr)
 (hi:YI K (.ref C) "__init__"=J (J (.ref f))) (hf:PySem.W.typeIn K (.ref f)=J (.type "function"))
 (h:codeAny (model prog w) (A.under (.builtin "type.__call__" ⟨.ref C::vs,kw⟩)) (.call (.ref f) ⟨.ref (s.heap.objs.size+1)::vs,kw⟩) (PySem.W.InitBack (s.heap.objs.size+1) kz)
  {s with heap:=(s.heap.push YS).push (We C s.heap.objs.size)}) :
 codeAny (model prog w) A (.call (.ref C) ⟨vs,kw⟩) kz s:=by
 obtain⟨hh,g,d,t,os⟩:=s;exact PySem.W.make_core (PySem.W.makes_of X hm) (PySem.W.looks_findIn X hi) (λself=>PySem.W.bind_fn X self hf) (.inl rfl) h
end
noncomputable def ZbC(f:Str)(v:V):List (Str×V)->List (Str×V)
 |[]=>[(f,v)]
 |(g,x)::r=>if g=f then(g,v)::r else(g,x)::ZbC f v r
theorem ZdW(f g:Str)(v:V):∀fs:List (Str×V),(ZbC f v fs).lookup g=if g=f then J v else fs.lookup g
 |[]=>by
  show Wf g [(f,v)]=_;by_cases h:g=f
  . have hb:(g==f)=Wr:=beq_iff_eq.mpr h;simp only[Wf,hb,if_pos h]
  . have hb:(g==f)=Ws:=beq_eq_false_iff_ne.mpr h;simp only[Wf,hb,if_neg h]
 |(k,x)::r=>by
  have ih:=ZdW f g v r;rw[show ZbC f v ((k,x)::r)=(if k=f then(k,v)::r else(k,x)::ZbC f v r)from rfl];by_cases hk:k=f
  . rw[if_pos hk];by_cases h:g=k
    . have hb:(g==k)=Wr:=beq_iff_eq.mpr h;simp only[Wf,hb,if_pos (h.trans hk)]
    . have hb:(g==k)=Ws:=beq_eq_false_iff_ne.mpr h;simp only[Wf,hb,if_neg (λe:g=f=>h (e.trans hk.symm))]
  . rw[if_neg hk];by_cases h:g=k
    . have hb:(g==k)=Wr:=beq_iff_eq.mpr h;simp only[Wf,hb,if_neg (λe:g=f=>hk (h.symm.trans e))]
    . have hb:(g==k)=Ws:=beq_eq_false_iff_ne.mpr h;simp only[Wf,hb];exact ih
theorem ZdJ(f:Str)(v:V):∀fs:List (Str×V),f∈(ZbC f v fs).map (·.1)/\∀g,g∈fs.map (·.1)->g∈(ZbC f v fs).map (·.1)
 |[]=>⟨by simp[ZbC],λg h=>by simp at h⟩
 |(k,x)::r=>by
  obtain⟨i1,i2⟩:=ZdJ f v r;rw[show ZbC f v ((k,x)::r)=(if k=f then(k,v)::r else(k,x)::ZbC f v r)from rfl];by_cases hk:k=f
  . rw[if_pos hk];subst hk;exact⟨by simp,λg h=>by simpa using h⟩
  . rw[if_neg hk];refine⟨?_,λg h=>?_⟩
    . rw[Op];exact Oh _ i1
    . rw[Op]at h ⊢;rcases O2.mp h with e|e
      . exact O2.mpr (.inl e)
      . exact Oh _ (i2 g e)
theorem ZdY(f:Str)(v:V):∀fs:List (Str×V),(ZbC f v fs).length<=fs.length+1
 |[]=>by simp[ZbC]
 |(k,x)::r=>by
  have ih:=ZdY f v r;rw[show ZbC f v ((k,x)::r)=(if k=f then(k,v)::r else(k,x)::ZbC f v r)from rfl];by_cases hk:k=f
  . rw[if_pos hk,Os,Os];lia
  . rw[if_neg hk,Os,Os];lia
def Zdz.some_of(r:Zdz (J v) o):∃u,o=J u/\RelV v u:=by
 cases o with
 |none=>exact(show False from r).elim
 |some u=>exact⟨u,rfl,r⟩
def Zdz.none_of(r:Zdz M o):o=M:=by
 cases o with
 |none=>rfl
 |some u=>exact(show False from r).elim
def Zk5(r:RelV v u):PySem.W.handedIn u=Wr:=by
 cases v with
 |non=>cases (show u=Value.none from r);rfl
 |bl b=>cases (show u=Value.bool b from r);rfl
 |int i=>obtain⟨t,e⟩:=(show ∃t,u=Value.int i t from r);cases e;rfl
 |str x=>obtain⟨t,e⟩:=(show ∃t,u=Value.str x t from r);cases e;rfl
 |byt b=>obtain⟨t,e⟩:=(show ∃t,u=Value.bytes b t from r);cases e;rfl
 |flt b=>obtain⟨t,e⟩:=(show ∃t,u=Value.float b t from r);cases e;rfl
 |ref a=>cases (show u=YB a from r);rfl
 |ty n=>cases (show u=Value.type n from r);rfl
section
variable {P:Yh}{w:Yg}{H:Hp}{h:YF}{a C dx:Yi}{fs:List (Str×V)}
def ZgT(hok:HOk P w H h)(e:H a=J (.ins C dx fs)):∃mA,ObjM h a dx C mA/\(∀f,Zdz (fs.lookup f) (mA f))/\PySem.Within mA (fs.map (·.1))/\fs.length<=1000/\H dx=J (.own a):=by
 obtain⟨d,z,ne,ob,mA,n,r,q⟩:=(show Z5 P w H h a (.ins C dx fs)from hok a _ e)
 exact⟨mA,⟨ob,n,ne⟩,r,q,z,d⟩
end
structure Cls(K:Yk)(C:Yi):Prop where
 pg:PySem.W.plainGet K C Str.empty=Wr
 hd:PySem.W.hasDictIn K C=Wr
 po:PySem.W.plainOver K C=Wr
 sa:YI K (.ref C) "__setattr__"=J (J (.builtin "object.__setattr__"))
def Cls.get{K:Yk}(c:Cls K C)(f:Str):PySem.W.plainGet K C f=Wr:=c.pg
def Za9(K:Yk)(C:Yi)(f:Str):Prop:=YI K (.ref C) f=J M
def Za9.taker{K:Yk}(n:Za9 K C f):PySem.W.takerIn K C f=J M:=by unfold PySem.W.takerIn;rw[show YI K (.ref C) f=J M from n];rfl
structure Meth(K:Yk)(C:Yi)(m:Str)(f:Yi):Prop where
 at_:YI K (.ref C) m=J (J (.ref f))
 fn:PySem.W.isFn K (.ref f)=Wr
 kp:Wa K (.ref f)=Wr
section
variable {X:Cx}{aa:List (Yi×Obj)}{Z:St}{H:Hp}{s:Yb}{a C dx:Yi}{fs:List (Str×V)}{f:Str}{v:V}{A:YG}{E:Yj->Yb->Prop}
def ZiZ(I:Inv X aa Z H s)(e:H a=J (.ins C dx fs))(c:Cls X.K C)(n:Za9 X.K C f)(l:fs.lookup f=J v)
 (h:∀u s',Inv X aa Z H s'->RelV v u->Q u s'):Yz (model X.prog X.w) A (getAttr (.ref a) f b) Q E s:=by
 obtain⟨mA,O_,r,_,_,_⟩:=ZgT I.hok e;obtain⟨u,hu,ru⟩:=Zdz.some_of (v:=v) (o:=mA f) (by rw[<-l];exact r f);exact Zow I.kIn O_ (c.get f) c.hd n hu (Zk5 ru) (h u _ (I.tok _) ru)
def Zfc(I:Inv X aa Z H s)(e:H a=J (.ins C dx fs))(c:Cls X.K C)(k:Meth X.K C m g)(l:fs.lookup m=M)
 (h:Q (.ref g,[.ref a]) s):Yz (model X.prog X.w) A (getMethod (.ref a) m pl) Q E s:=by
 obtain⟨mA,O_,r,_,_,_⟩:=ZgT I.hok e;have hn:mA m=M:=Zdz.none_of (by rw[<-l];exact r m);exact ZmA I.kIn O_ (c.get m) k.at_ k.fn hn h
def Ziw(I:Inv X aa Z H s)(e:H a=J (.ins C dx fs))(c:Cls X.K C)(n:Za9 X.K C f)(hl:fs.length<1000)(ry:RelV y u)
 (h:∀s',Inv X aa Z (upd H a (.ins C dx (ZbC f y fs))) s'->Q () s'):Yz (model X.prog X.w) A (setAttr (.ref a) f u) Q E s:=by
 obtain⟨mA,O_,r,wi,_,ho⟩:=ZgT I.hok e;have hz:(fs.map (·.1)).length<=sizeLine:=by rw[Ys,YA];lia
 refine Zno I.kIn O_ c.sa c.po n.taker c.hd wi hz λh' O' sb=>h _ ?_;have hd:∃o,h'.get? dx=J o:=let⟨o,_,_,e',_⟩:=O'.ns;⟨o,e'⟩;refine I.write (x:=a) (e:=dx) (by rw[e];exact True.intro) (.inr ho) (λb q hb z=>(sb.2 b hb).trans z) hd ?_;refine⟨by rw[Zq O_.ne];exact ho,?_,O_.ne,O'.obj,_,O'.ns,λg=>?_,λg hg=>?_⟩
 . have:=ZdY f y fs;lia
 . show Zdz ((ZbC f y fs).lookup g) (if g=f then J u else mA g);rw[ZdW];by_cases q:g=f
   . rw[if_pos q,if_pos q];exact ry
   . rw[if_neg q,if_neg q];exact r g
 . by_cases q:g=f
   . rw[q];exact(ZdJ f y fs).1
   . refine(ZdJ f y fs).2 g (wi g λz=>hg ?_);show(if g=f then J u else mA g)=M;rw[if_neg q];exact z
def Inv.made(I:Inv X aa Z H s):Inv X aa Z (upd (upd H s.heap.objs.size (.own (s.heap.objs.size+1))) (s.heap.objs.size+1) (.ins C s.heap.objs.size []))
 {s with heap:=(s.heap.push YS).push (We C s.heap.objs.size)}:=by
 have e1:(s.heap.push YS).get? s.heap.objs.size=J YS:=Oj s.heap rfl;have e2:((s.heap.push YS).push (We C s.heap.objs.size)).get? (s.heap.objs.size+1)=J (We C s.heap.objs.size):=by
  have:=Oj (s.heap.push YS) (o:=We C s.heap.objs.size) rfl
  rwa [Heap.size_push]at this
 have e3:(s.heap.push YS).Ns s.heap.objs.size (λ_=>M):=⟨YS,#[],_,e1,rfl,(λe he=>absurd he (by simp)),λ_=>rfl⟩
 have I1:=I.laid (a:=s.heap.objs.size) (o:=.own (s.heap.objs.size+1)) (h':=s.heap.push YS) (t':=s.toks) (λb u q=>Od _ q) (Oq _) ⟨_,e1⟩;refine I1.laid (a:=s.heap.objs.size+1) (o:=.ins C s.heap.objs.size []) (t':=s.toks) (λb u q=>Od _ q) (Nat.le_of_eq (Heap.size_push _ _)) ?_;have ne:s.heap.objs.size≠s.heap.objs.size+1:=Ou (OH _);refine⟨by rw[Zq ne,Zi],Yv _,ne,e2,λ_=>M,(Heap.Ns1.of_empty e3).at λo q=>Od _ q,λ_=>True.intro,λy hy=>absurd rfl hy⟩
def Zo8(hb:attributeBase e f env (eval e env)=eval e env)
 (h:Yz (model prog w) A (eval e env) (λo s₁=>Yz (model prog w) A (getAttr o f Wr) Q E s₁) E s):Yz (model prog w) A (eval (.Attribute e f pos) env) Q E s:=
 Attribute_any_ h (by rw[arm_eval_Attribute,hb])
end
def ZtM(K:Yk)(ta:TE)(f:Str):TE:=λZ H Q=>ta Z H λx H1=>∃a C dx fs v,x=.ref a/\H1 a=J (.ins C dx fs)/\Cls K C/\Za9 K C f/\fs.lookup f=J v/\Q v H1
def ZtU(K:Yk)(ta tv:TE)(f:Str):TS:=λD Z H=>tv Z H λy H1=>ta Z H1 λx H2=>∃a C dx fs,x=.ref a/\H2 a=J (.ins C dx fs)/\Cls K C/\Za9 K C f/\fs.length<1000 /\
 D.nx Z (upd H2 a (.ins C dx (ZbC f y fs)))
section
variable {X:Cx}{o e value:Expr}{f:Str}{pos bv:Pos}{ta tv:TE}
def Zqt(he:PE X e ta)(hb:attributeBase e f X.env (eval e X.env)=eval e X.env):PE X (.Attribute e f pos) (ZtM X.K ta f):=by intro aa s Z H Q I h;refine Zo8 hb (thn (he aa s Z H _ I h) λu s1 ⟨x,H1,I1,rx,a,C,dx,fs,v,ex,ea,c,n,l,q⟩=>?_);subst ex;obtain rfl:u=YB a:=rx;exact ZiZ I1 ea c n l λu' s2 I2 ru=>⟨v,H1,I2,ru,q⟩
def Zqd(ha:PE X o ta)(hv:PE X value tv)(hs:swapsWith value (J (.Attribute o f bv)) pos.line X.env=pure Ws):PS X (.Assign [.Attribute o f bv] value pos) (ZtU X.K ta tv f):=by intro aa s Z H D I h;refine plainObj_wpAny_Assign_Attribute (thn (hv aa s Z H _ I h) λu s1 ⟨y,H1,I1,ry,q⟩=>thn (ha aa s1 Z H1 _ I1 q) λov s2 ⟨x,H2,I2,rx,a,C,dx,fs,ex,ea,c,n,l,q2⟩=>?_) hs;subst ex;obtain rfl:ov=YB a:=rx;exact Ziw I2 ea c n l ry λs3 I3=>⟨Z,_,I3,q2⟩
end
structure Room(k:Nat)(A:YG):Prop where
 hd:A.handled=M
 dp:A.depth+k+5<recursionLimit
 un:A.units+4*k+1300<cLine
 gd:A.guards=J []
def Room.mono(r:Room k A)(h:j<=k):Room j A:=⟨r.hd,by have:=r.dp;lia,by have:=r.un;lia,r.gd⟩
theorem Room.deeper(r:Room (k+1) A)(env:Env):Room k (A.deeper env):=⟨r.hd,by have:=r.dp;show A.depth+1+k+5<_;lia,by have:=r.un;show A.units+3+4*k+1300<_;lia,r.gd⟩
def ZiO{A:YG}:(A.under (.builtin "type.__call__" ⟨.ref C::us,kw⟩)).depth=A.depth+1:=by first|rfl|simp[Around.under,Code.weight,Code.isCreation,Code.isGuard,Code.isCaller,Code.frames,Code.isFrame,guardIds]
def ZiN{A:YG}:(A.under (.builtin "type.__call__" ⟨.ref C::us,kw⟩)).units=A.units+1:=by first|rfl|simp[Around.under,Code.cUnits,Code.frames,Code.isFrame]
def Room.make(r:Room (k+1) A)(C:Yi)(us:List Yj)(kw:List (Str×Yj)):Room k (A.under (.builtin "type.__call__" ⟨.ref C::us,kw⟩)):=⟨r.hd,by have:=r.dp;rw[ZiO];lia,by have:=r.un;rw[ZiN];lia,by first|exact r.gd|simpa[Around.under,Code.weight,Code.isCreation,Code.isGuard,Code.isCaller,Code.frames,Code.isFrame,guardIds]using r.gd⟩
theorem Room.depth(r:Room k A):A.depth<recursionLimit:=by have:=r.dp;lia
noncomputable def ZpR:TA:=λ_ H Q=>Q [] H
noncomputable def Zr4(ta:TE)(tr:TA):TA:=λZ H Q=>ta Z H λx H1=>tr Z H1 λxs H2=>Q (x::xs) H2
section
variable {X:Cx}{e:Expr}{es:List Expr}{te:TE}{t:TA}{pos:Pos}
def Zb3:PA X [] ZpR:=λ_ _ _ _ H Q I h=>Calls.spliced_nil ⟨[],H,I,.nil,h⟩
def ZaR(ha:PE X e te)(hr:PA X es t)(hs:Yy (e::es) X.env=(Ws,eval e X.env)::Yy es X.env:=by rfl):PA X (e::es) (Zr4 te t):=by intro pos aa s Z H Q I h;rw[hs];show Yz _ _ (spliced ((Ws,eval e X.env)::YR pos (Yy es X.env))) _ _ s;refine Calls.spliced_cons (thn (ha aa s Z H _ I h) λu s1 ⟨x,H1,I1,r1,q1⟩=>?_);exact thn (hr pos aa s1 Z H1 _ I1 q1) λus s2 ⟨xs,H2,I2,r2,q2⟩=>⟨x::xs,H2,I2,.cons r1 r2,q2⟩
def ZtC(t:TA):TE:=λZ H Q=>t Z H λxs H1=>xs.length<=sizeLine/\∀p,H1 p=M->Q (.ref p) (upd H1 p (.tup xs))
def ZtI(t:TA):TE:=λZ H Q=>t Z H λxs H1=>xs.length<=sizeLine/\∀p,H1 p=M->Q (.ref p) (upd H1 p (.lst xs))
def Zql{x1}(h:PA X es t):PE X (.Tuple es x1 pos) (ZtC t):=by intro aa s Z H Q I hq;refine wpAny_Tuple_spliced (thn (h pos aa s Z H _ I hq) λus s1 ⟨xs,H1,I1,r,z,q⟩=>⟨by rw[<-r.length];exact z,?_⟩);have hf:H1 s1.heap.objs.size=M:=I1.hok.fresh (Oq _);refine⟨.ref s1.heap.objs.size,upd H1 s1.heap.objs.size (.tup xs),I1.laid (t':=s1.toks) (λb u e=>Od _ e) (Oq _) ?_,rfl,q _ hf⟩;exact⟨z,us,r,⟨_,Oj _ rfl,rfl,rfl,_,rfl⟩⟩
def Zqq(h:PA X es t):PE X (.List es pos) (ZtI t):=by intro aa s Z H Q I hq;refine wpAny_List_spliced (thn (h pos aa s Z H _ I hq) λus s1 ⟨xs,H1,I1,r,z,q⟩=>⟨by rw[<-r.length];exact z,?_⟩);have hf:H1 s1.heap.objs.size=M:=I1.hok.fresh (Oq _);refine⟨.ref s1.heap.objs.size,upd H1 s1.heap.objs.size (.lst xs),I1.laid (t':=s1.toks) (λb u e=>Od _ e) (Oq _) ?_,rfl,q _ hf⟩;exact⟨z,us,0,r,Oj _ rfl⟩
end
abbrev Sp:=List V->Hp->VK->XK->Prop
abbrev CXT:=List Env->Hp->Yb->XK->Yj->Yb->Prop
structure Env0(P:Yh)(w:Yg)(K:Yk)(mg:Str->Option Yj)(base:YF)(A:YG)(outer:List Env)(s:Yb)(H:Hp):Prop where
 frames:A.frames=J outer
 mod:Mod K mg base
 bs:∀b o,base.get? b=J o->s.heap.get? b=J o/\H b=M
 bsz:base.objs.size<=s.heap.objs.size
 funs:s.heap.FunFrames base outer
 frf:∀b∈frs outer,H b=M
 hok:HOk P w H s.heap
 bare:AllBare s.gens
def CE(outer:List Env)(P:Yh)(w:Yg)(H:Hp)(s:Yb)(Q:VK)(u:Yj)(s':Yb):Prop:=∃v H',s'.os=s.os/\AllBare s'.gens/\Un (frs outer) [] H H' s.heap s'.heap/\HOk P w H' s'.heap/\RelV v u/\Q v H'
def CR(CX:CXT)(outer:List Env)(P:Yh)(w:Yg)(H:Hp)(s:Yb)(Q:VK)(E:XK)(r:Result)(s':Yb):Prop:=
 match r with
 |.ok (.ret u)=>CE outer P w H s Q u s'
 |.ok _=>False
 |.error e=>CX outer H s E e s'
structure FnOk(P:Yh)(w:Yg)(K:Yk)(mg:Str->Option Yj)(base:YF)(CX:CXT)(k:Nat)(f:Yi)(fd:FuncData)(ps:List Str)(sp:Sp):Prop where
 len:∀vs H Q E,sp vs H Q E->vs.length=ps.length
 run:∀(A:YG) (outer:List Env) (s:Yb) (H:Hp) (args:Args) (us:List Yj) (vs:List V) (Q:VK) (E:XK),Room k A->Env0 P w K mg base A outer s H->BindsTo s fd args (ps.zip us)->Zn vs us->sp vs H Q E ->
  codeAny (model P w) A (.call (.ref f) args) (CR CX outer P w H s Q E) s
def FnOk.imp{P:Yh}{w:Yg}{K:Yk}{mg:Str->Option Yj}{base:YF}{CX:CXT}{k:Nat}{f:Yi}{fd:FuncData}{ps:List Str}{sp gE:Sp}(F:FnOk P w K mg base CX k f fd ps sp)
 (h:∀vs H Q E,gE vs H Q E->sp vs H Q E):FnOk P w K mg base CX k f fd ps gE:=
 ⟨λvs H Q E q=>F.len vs H Q E (h _ _ _ _ q),λA outer s H args us vs Q E hr he hb hv hs=>F.run A outer s H args us vs Q E hr he hb hv (h _ _ _ _ hs)⟩
def Env0.make{P:Yh}{w:Yg}{K:Yk}{mg:Str->Option Yj}{base:YF}{A:YG}{outer:List Env}{s:Yb}{H:Hp}(e:Env0 P w K mg base A outer s H)(C:Yi)(us:List Yj)(kw:List (Str×Yj)):
 Env0 P w K mg base (A.under (.builtin "type.__call__" ⟨.ref C::us,kw⟩)) outer s H:=⟨by first|exact e.frames|(simpa[Around.under,Code.envs,Code.isFrame,pushEnvs]using e.frames),e.mod,e.bs,e.bsz,e.funs,e.frf,e.hok,e.bare⟩
section
variable {X:Cx}{aa:List (Yi×Obj)}{Z:St}{H:Hp}{s s':Yb}
def Inv.env0(I:Inv X aa Z H s):Env0 X.prog X.w X.K X.mg X.base X.A X.stack s H:=⟨I.ok.frames,I.ok.mod,I.bs,OE I.ok.bsz I.sz,I.stack,I.stkFree,I.hok,I.bare⟩
def Inv.after(I:Inv X aa Z H s)(h:CE X.stack X.prog X.w H s Q u s'):EP X aa Z Q u s':=by obtain⟨v,H',os,bare,un,hok,r,q⟩:=h;obtain⟨hh,g,d,t,iJ⟩:=s';obtain rfl:iJ=s.os:=os;exact⟨v,H',I.call (h':=hh) (g':=g) (d':=d) (t':=t) (ch:=[]) un hok bare (λb z=>absurd z (by simp)),r,q⟩
end
noncomputable def Zr5(sp:Sp)(aR:List V)(E:XK)(t:TA):TE:=λZ H Q=>t Z H λvs H1=>sp (vs++aR) H1 Q E
def Zpg(C:Yi)(m:Str)(sp:Sp)(aR:List V)(E:XK)(ta:TE)(t:TA):TE:=λZ H Q=>ta Z H λx H1=>∃a dx fs,x=.ref a/\H1 a=J (.ins C dx fs)/\fs.lookup m=M /\
 t Z H1 λvs H2=>sp (x::(vs++aR)) H2 Q E
def Zph(C:Yi)(sp:Sp)(aR:List V)(E:XK)(t:TA):TE:=λZ H Q=>t Z H λvs H1=>∀x dx,H1 x=M->H1 dx=M->dx≠x ->
 sp (.ref x::(vs++aR)) (upd (upd H1 dx (.own x)) x (.ins C dx [])) (λv H2=>v=.non/\Q (.ref x) H2) E
def Binds(K:Yk)(fd:FuncData)(ps:List Str)(ds:List Yj):Prop:=∀(s:Yb) (us:List Yj),K.In s.heap->(us++ds).length=ps.length->BindsTo s fd ⟨us,[]⟩ (ps.zip (us++ds))
def Binds.all{K:Yk}(h:∀us:List Yj,us.length=ps.length->bindArgs fd ⟨us,[]⟩=pure (ps.zip us)):Binds K fd ps []:=λs us _ hl=>by rw[Yr]at hl ⊢;exact .of_eq (h us hl)
def Za8(CX:CXT)(X:Cx)(E:XK):Prop:=∀(aa:List (Yi×Obj)) (Z:St) (H:Hp) (s:Yb) (e:Yj) (s':Yb),Inv X aa Z H s->CX X.stack H s E e s'->X.xe e s'
section
variable {X:Cx}{CX:CXT}{k:Nat}{f C:Yi}{fd:FuncData}{ps:List Str}{sp:Sp}{aR:List V}{ds:List Yj}{E:XK}{x m:Str}{p pos apos:Pos}{e o:Expr}{es:List Expr}{ta:TE}{t:TA}
def ZiA(F:FnOk X.prog X.w X.K X.mg X.base CX k f fd ps sp)(hr:Room k X.A)(hb:Binds X.K fd ps ds)(hd:Zn aR ds)(hx:Za8 CX X E)
 (I:Inv X aa Z H s) (r:Zn vs us) (h:sp (vs++aR) H Q E):Yz (model X.prog X.w) X.A (call (.ref f) us) (EP X aa Z Q) X.xe s:=by
 have r2:Zn (vs++aR) (us++ds):=r.append hd;have hl:(us++ds).length=ps.length:=by rw[<-r2.length];exact F.len _ _ _ _ h
 refine wpAny_call (codeAny_mono (F.run X.A X.stack s H ⟨us,[]⟩ (us++ds) (vs++aR) Q E hr I.env0 (hb s us I.kIn hl) r2 h) λr s' hq=>?_);cases r with
 |error e=>exact hx aa Z H s e s' I hq
 |ok fl=>
  cases fl with
  |ret u=>exact I.after hq
  |next=>exact False.elim hq
  |brk=>exact False.elim hq
  |cont=>exact False.elim hq
def ZnV(F:FnOk X.prog X.w X.K X.mg X.base CX k f fd ps sp)(hr:Room k X.A)(hg:Gl X x)(hm:X.mg x=J (.ref f))(hk:Wa X.K (.ref f)=Wr)(hb:Binds X.K fd ps ds)(hd:Zn aR ds)(hx:Za8 CX X E)
 (ha:PA X (e::es) t) (bH:(x==("__debug__" : Str))=Ws:=by decide) (he:Yy (e::es) X.env=(Ws,eval e X.env)::Yy es X.env:=by rfl) (aV:(YR pos (Yy es X.env)).any (·.1)=Ws:=by rfl) :
 PE X (.Call (.Name x p) (e::es) [] pos) (Zr5 sp aR E t):=by
 intro aa s Z H Q I h;refine YV (ZeH I hg hm ?_ bH);refine PySem.W.callWith_K (h₀:=X.base) I.ok.mod.kin hk (thn (ha pos aa s Z H _ I h) λus s1 ⟨vs,H1,I1,r,q⟩=>⟨I1.kIn,?_⟩) he aV;exact ZiA F hr hb hd hx I1 r q
def ZnO(he:PE X o ta)(c:Cls X.K C)(hm:Meth X.K C m f)(F:FnOk X.prog X.w X.K X.mg X.base CX k f fd ps sp)(hr:Room k X.A)(hb:Binds X.K fd ps ds)(hd:Zn aR ds)(hx:Za8 CX X E)(ha:PA X (e::es) t)
 (hst:Yy (e::es) X.env=(Ws,eval e X.env)::Yy es X.env:=by rfl) (aV:(YR pos (Yy es X.env)).any (·.1)=Ws:=by rfl)
 (ht:eval (.Call (.Attribute o m apos) (e::es) [] pos) X.env=(do
  let ov <- eval o X.env
  standAt apos.atName
  let (f,first) <- holding [ov] (getMethod ov m pl)
  callWith pos f first (YR pos (Yy (e::es) X.env)) (backToKw pos (YX [] X.env))):=by rfl) :
 PE X (.Call (.Attribute o m apos) (e::es) [] pos) (Zpg C m sp aR E ta t):=by
 intro aa s Z H Q I h;refine PySem.W.methodCall_KW (pl:=pl) (thn (he aa s Z H _ I h) λu s1 ⟨x,H1,I1,rx,a,dx,fs,ex,ea,l,q⟩=>?_) ht;subst ex;obtain rfl:u=YB a:=rx;refine Zfc I1 ea c hm l ?_;refine PySem.W.callWith_K (first:=[.ref a]) (h₀:=X.base) I.ok.mod.kin hm.kp (thn (ha pos aa s1 Z H1 _ I1 q) λus s2 ⟨vs,H2,I2,r,q2⟩=>⟨I2.kIn,?_⟩) hst aV;exact ZiA (us:=.ref a::us) (vs:=.ref a::vs) F hr hb hd hx I2 (.cons rfl r) q2
def Zl3(he:PE X o ta)(c:Cls X.K C)(hm:Meth X.K C m f)(F:FnOk X.prog X.w X.K X.mg X.base CX k f fd ps sp)(hr:Room k X.A)(hb:Binds X.K fd ps ds)(hd:Zn aR ds)(hx:Za8 CX X E)
 (ht:eval (.Call (.Attribute o m apos) [] [] pos) X.env=(do
  let ov <- eval o X.env
  standAt apos.atName
  let (f,first) <- holding [ov] (getMethod ov m pl)
  callWith pos f first (YR pos (Yy [] X.env)) (backToKw pos (YX [] X.env))):=by rfl) :
 PE X (.Call (.Attribute o m apos) [] [] pos) (Zpg C m sp aR E ta ZpR):=by
 intro aa s Z H Q I h;refine PySem.W.methodCall_KW (pl:=pl) (thn (he aa s Z H _ I h) λu s1 ⟨x,H1,I1,rx,a,dx,fs,ex,ea,l,q⟩=>?_) ht;subst ex;obtain rfl:u=YB a:=rx;refine Zfc I1 ea c hm l ?_;exact PySem.W.callWith_K0 (first:=[.ref a]) I1.kIn hm.kp (ZiA (us:=[.ref a]) (vs:=[.ref a]) F hr hb hd hx I1 (.cons rfl .nil) q)
structure Mk(K:Yk)(C f:Yi):Prop where
 makes:PySem.W.makesIn K C=Wr
 init:YI K (.ref C) "__init__"=J (J (.ref f))
 fn:PySem.W.isFn K (.ref f)=Wr
 kp:Wa K (.ref C)=Wr
def Zht(ky:Mk X.K C f)(F:FnOk X.prog X.w X.K X.mg X.base CX k f fd ps sp)(hr:Room (k+1) X.A)(hb:Binds X.K fd ps ds)(hd:Zn aR ds)
 (hx:Za8 CX X E) (I:Inv X aa Z H s) (r:Zn vs us)
 (h:∀x dx,H x=M->H dx=M->dx≠x->sp (.ref x::(vs++aR)) (upd (upd H dx (.own x)) x (.ins C dx [])) (λv H2=>v=.non/\Q (.ref x) H2) E) :
 Yz (model X.prog X.w) X.A (call (.ref C) us) (EP X aa Z Q) X.xe s:=by
 have hq:=h (s.heap.objs.size+1) s.heap.objs.size (I.hok.fresh (Nat.le_succ _)) (I.hok.fresh (Oq _)) (Ou (OH _));have I2:=Inv.made (C:=C) I;have r2:Zn (V.ref (s.heap.objs.size+1)::(vs++aR)) (YB (s.heap.objs.size+1)::(us++ds)):=.cons rfl (r.append hd);have hl:(YB (s.heap.objs.size+1)::us++ds).length=ps.length:=by have e:=r2.length;rw[F.len _ _ _ _ hq]at e;exact e.symm
 refine wpAny_call (Zmj (f:=f) I.kIn ky.makes ky.init (beq_iff_eq.mp ky.fn) (codeAny_mono (F.run _ X.stack _ _ ⟨YB (s.heap.objs.size+1)::us,[]⟩ (YB (s.heap.objs.size+1)::(us++ds)) _ _ E (hr.make C us [])
  (I2.env0.make C us []) (hb _ (YB (s.heap.objs.size+1)::us) I2.kIn hl) r2 hq) λr s' dY=>?_))
 cases r with
 |error e=>exact hx aa Z _ _ e s' I2 dY
 |ok fl=>
  cases fl with
  |ret u=>obtain⟨v,H',I3,rv,ev,q3⟩:=I2.after dY;subst ev;exact⟨rv,⟨V.ref (s.heap.objs.size+1),H',I3,rfl,q3⟩⟩
  |next=>exact False.elim dY
  |brk=>exact False.elim dY
  |cont=>exact False.elim dY
def ZnQ(ky:Mk X.K C f)(F:FnOk X.prog X.w X.K X.mg X.base CX k f fd ps sp)(hr:Room (k+1) X.A)(hg:Gl X x)(hm:X.mg x=J (.ref C))(hb:Binds X.K fd ps ds)(hd:Zn aR ds)(hx:Za8 CX X E)
 (ha:PA X (e::es) t) (bH:(x==("__debug__" : Str))=Ws:=by decide) (he:Yy (e::es) X.env=(Ws,eval e X.env)::Yy es X.env:=by rfl) (aV:(YR pos (Yy es X.env)).any (·.1)=Ws:=by rfl) :
 PE X (.Call (.Name x p) (e::es) [] pos) (Zph C sp aR E t):=by
 intro aa s Z H Q I h;refine YV (ZeH I hg hm ?_ bH);refine PySem.W.callWith_K (h₀:=X.base) I.ok.mod.kin ky.kp (thn (ha pos aa s Z H _ I h) λus s1 ⟨vs,H1,I1,r,q⟩=>⟨I1.kIn,?_⟩) he aV;exact Zht ky F hr hb hd hx I1 r q
def Zl4(ky:Mk X.K C f)(F:FnOk X.prog X.w X.K X.mg X.base CX k f fd ps sp)(hr:Room (k+1) X.A)(hg:Gl X x)(hm:X.mg x=J (.ref C))(hb:Binds X.K fd ps ds)(hd:Zn aR ds)(hx:Za8 CX X E)
 (bH:(x==("__debug__" : Str))=Ws:=by decide):PE X (.Call (.Name x p) [] [] pos) (Zph C sp aR E ZpR):=by
 intro aa s Z H Q I h;refine YV (ZeH I hg hm ?_ bH);exact PySem.W.callWith_K0 I.kIn ky.kp (Zht (us:=[]) ky F hr hb hd hx I .nil h)
end
structure FnScope(N P:List Str)(sc:Scope):Prop where
 kind:sc.kind=.function
 co:sc.isCoroutine=Ws
 gen:sc.isGenerator=Ws
 nd:N.Nodup
 pre:N.take P.length=P
 par:∀x∈P,sc.names.lookup x=J .local\/sc.names.lookup x=J .cell
 nofree:∀y∈sc.names,y.2≠.free
theorem Zgp{kindOf:Str->Option NameKind}:∀{binds:List (Str×Yj)}{m:Str->Option Yj},(∀v,(x,v) ∉ binds)->bindL kindOf binds m x=m x
 |[],_,_=>rfl
 |(n,v)::r,m,h=>by
  unfold bindL;rw[Zgp λw hw=>h w (Oh _ hw)];split
  . have:x≠n:=by rintro rfl;exact h v Oi
    simp[this]
  . rfl
theorem Zgr{kindOf:Str->Option NameKind}:∀{binds:List (Str×Yj)}{m:Str->Option Yj},(∀v,(x,v) ∉ binds)->bindC kindOf binds m x=m x
 |[],_,_=>rfl
 |(n,v)::r,m,h=>by
  unfold bindC;rw[Zgr λw hw=>h w (Oh _ hw)];split
  . rfl
  . have:x≠n:=by rintro rfl;exact h v Oi
    simp[this]
theorem Zgq{kindOf:Str->Option NameKind}:∀{P:List Str}{vs:List Yj}{i:Nat}{m:Str->Option Yj},P.Nodup->P[i]?=J x->vs[i]?=J v->kindOf x=J .local ->
 bindL kindOf (P.zip vs) m x=J v
 |[],_,_,_,_,h,_,_=>by simp at h
 |_::_,[],_,_,_,_,h,_=>by simp at h
 |p::P,w::vs,0,m,nd,R,h2,hk=>by simp at R h2;subst R;subst h2;show bindL kindOf ((p,w)::P.zip vs) m p=_;unfold bindL;rw[Zgp λv hv=>(List.nodup_cons.mp nd).1 (List.of_mem_zip hv).1,if_pos hk];simp
 |p::P,w::vs,i+1,m,nd,R,h2,hk=>by show bindL kindOf ((p,w)::P.zip vs) m x=_;unfold bindL;exact Zgq (i:=i) (List.nodup_cons.mp nd).2 (by simpa using R) (by simpa using h2) hk
theorem Zgs{kindOf:Str->Option NameKind}:∀{P:List Str}{vs:List Yj}{i:Nat}{m:Str->Option Yj},P.Nodup->P[i]?=J x->vs[i]?=J v->kindOf x≠J .local ->
 bindC kindOf (P.zip vs) m x=J v
 |[],_,_,_,_,h,_,_=>by simp at h
 |_::_,[],_,_,_,_,h,_=>by simp at h
 |p::P,w::vs,0,m,nd,R,h2,hk=>by simp at R h2;subst R;subst h2;show bindC kindOf ((p,w)::P.zip vs) m p=_;unfold bindC;rw[Zgr λv hv=>(List.nodup_cons.mp nd).1 (List.of_mem_zip hv).1,if_neg hk];simp
 |p::P,w::vs,i+1,m,nd,R,h2,hk=>by show bindC kindOf ((p,w)::P.zip vs) m x=_;unfold bindC;exact Zgs (i:=i) (List.nodup_cons.mp nd).2 (by simpa using R) (by simpa using h2) hk
noncomputable def start(N:List Str)(vs:List V):St:=vs.map J++YJ (N.length-vs.length) M
def Zi8(CX:CXT)(P:Yh)(w:Yg)(K:Yk)(mg:Str->Option Yj)(base:YF)(N:List Str)(ak:Str)(scope:Scope)(f:Yi)(cd:Yj)(A:YG)(outer:List Env)(s:Yb)(H:Hp)(E:XK):Cx where
 prog:=P
 w:=w
 K:=K
 mg:=mg
 base:=base
 A:=A.deeper (envOfC ak scope s.heap.objs.size f cd)
 N:=N
 s₀:=s
 H₀:=H
 env:=envOfC ak scope s.heap.objs.size f cd
 outer:=outer
 stack:=envOfC ak scope s.heap.objs.size f cd::outer
 ex:=[]
 calm:=Wr
 fn:=λ_=>Wr
 pn:=[]
 xe:=λe s'=>Yz (model P w) (A.deeper (envOfC ak scope s.heap.objs.size f cd)) (leaving (envOfC ak scope s.heap.objs.size f cd) e) (λ_ fH=>CX outer H s E e fH) (λe' fH=>CX outer H s E e' fH) s'
def Zh8{sc:Scope}(h:sc.names.lookup x=J .cell):∃c,(cellsFrom n sc.names []).lookup x=J c:=by have q:=PySem.W.cellsFrom_some sc.names n [] (.inl h);exact Option.isSome_iff_exists.mp q
def Zk3{CX:CXT}{P:Yh}{w:Yg}{K:Yk}{mg:Str->Option Yj}{base:YF}{N ps:List Str}{ak:Str}{scope:Scope}{f:Yi}{cd:Yj}{A:YG}{outer:List Env}{s s1:Yb}{H:Hp}{E:XK}{us:List Yj}{vs:List V}
 (S_:FnScope N ps scope) (hd:A.handled=M) (e0:Env0 P w K mg base A outer s H) (hl:vs.length=ps.length) (r:Zn vs us)
 (x:InCallC s s.heap.objs.size (bindL (envOfC ak scope s.heap.objs.size f cd).kindOf (ps.zip us) λ_=>M) (cellsFrom (s.heap.objs.size+1) scope.names []) (bindC (envOfC ak scope s.heap.objs.size f cd).kindOf (ps.zip us) λ_=>M) s1) :
 Inv (Zi8 CX P w K mg base N ak scope f cd A outer s H E) [] (start N vs) H s1:=by
 have aV:ps.length<=N.length:=by have:=congrArg List.length S_.pre;rw[List.length_take]at this;lia
 obtain⟨R,tk,rfl,hk⟩:=x.done;have dM:∀b:Yi,b ∉ (Zi8 CX P w K mg base N ak scope f cd A outer s H E).ex:=λb z=>absurd (show b∈([]:List Yi)from z) (by simp);refine⟨⟨e0.mod,S_.kind,rfl,rfl,Oq _,λy z c R h2=>?_,λy hy=>?_,λy c _ h=>?_,λ_=>hd,Around.frames_deeper e0.frames,.inr ⟨rfl,rfl⟩,λb z=>absurd z (dM b),e0.bs,e0.bsz,λb _ _=>dM b,λb z=>absurd z (dM b),e0.funs,e0.frf⟩,
  rfl,e0.bare,Un.kept hk,⟨_,x.toInCall.ns,λi y v R h2 h3=>?_⟩,λy c h=>⟨_,x.cell y c h⟩,e0.hok.fresh (Oq _),λy c h=>?_,λp hp=>absurd (show p∈([]:List (Yi×Obj))from hp) (by simp),e0.hok.kept hk,?_⟩
 . exact name_of_addr x.apart (YH R) (YH h2)
 . have hy:scope.names.lookup y=J .cell\/scope.names.lookup y=J .free:=hy;rcases hy with hy|hy
   . exact Zh8 hy
   . exact absurd rfl (S_.nofree _ (YH hy))
 . exact Nat.le_of_lt (x.above y c (YH h))
 . have hi:i<vs.length:=by
    unfold start at h2;by_cases hi:i<vs.length
    . exact hi
    . rw[Om (by simpa using hi)]at h2;rw[List.getElem?_replicate]at h2;split at h2<;>cases h2
   have ha:vs[i]?=J v:=by
    unfold start at h2;rw[Oe (by simpa using hi),On]at h2;cases e:vs[i]? with
    |none=>rw[e]at h2;cases h2
    |some a=>rw[e]at h2;cases h2;rfl
   obtain⟨u,hu,rv⟩:=r.get ha;have hp:ps[i]?=J y:=by rw[<-S_.pre,List.getElem?_take_of_lt (by lia)];exact R
   have gK:ps.Nodup:=by rw[<-S_.pre];exact S_.nd.sublist (List.take_sublist _ _)
   refine⟨u,rv,?_⟩;rcases S_.par y (O1 hp)with k|k
   . exact .inl ⟨k,Zgq gK hp hu k⟩
   . obtain⟨c,e⟩:=Zh8 (n:=s.heap.objs.size+1) k;refine .inr ⟨.inl k,c,e,?_⟩;have q:=x.cell y c e;rw[Zgs gK hp hu (by show scope.names.lookup y≠_;rw[k];decide)]at q;exact q
 . exact e0.hok.fresh (Nat.le_of_lt (x.above y c (YH h)))
 . unfold start;show _=N.length;rw[OA,Ys,List.length_replicate]
   lia
def Zs3{CX:CXT}{P:Yh}{w:Yg}{K:Yk}{mg:Str->Option Yj}{base:YF}{k:Nat}{f:Yi}{name ak:Str}{params:Arguments}{body:List Stmt}{scope:Scope}{dV kV aL pm aJ ct oc:Yj}{an od:Option Yi}
 {bx:Array (Option Yj)}{N ps:List Str}{sp:Sp} (lk:K.lookup f=J ⟨oc,od,.func (PySem.W.fnOf name ak params body scope dV kV aL pm an aJ ct),bx⟩) (bQ:PySem.W.codeIn K aJ ak=Wr) (S_:FnScope N ps scope)
 (len:∀vs H Q E,sp vs H Q E->vs.length=ps.length)
 (eE:∀(A:YG) (outer:List Env) (s:Yb) (H:Hp) (vs:List V) (Q:VK) (E:XK),Room k (A.deeper (envOfC ak scope s.heap.objs.size f aJ))->sp vs H Q E ->
  ∃t,PSs (Zi8 CX P w K mg base N ak scope f aJ A outer s H E) body t/\t {nx:=λ_ H'=>Q .non H',rt:=Q} (start N vs) H) :
 FnOk P w K mg base CX (k+1) f (PySem.W.fnOf name ak params body scope dV kV aL pm an aJ ct) ps sp:=by
 refine⟨len,λA outer s H args us vs Q E hr e0 hb r br=>?_⟩;have hl:=len _ _ _ _ br;have KX:K.In s.heap:=e0.mod.kin.keeps λb o e=>(e0.bs b o e).1;have iR:s.heap.NoLimit:=e0.mod.nolimit.keeps λb o e=>(e0.bs b o e).1;have d9:∀y∈ps.zip us,scope.names.lookup y.1=J .local\/(scope.names.lookup y.1=J .cell/\((cellsFrom (s.heap.objs.size+1) scope.names []).lookup y.1).isSome=Wr):=λ⟨n,v⟩ hy=>by
  rcases S_.par n (List.of_mem_zip hy).1 with q|q
  . exact .inl q
  . exact .inr ⟨q,PySem.W.cellsFrom_some _ _ _ (.inl q)⟩
 refine codeAny_call_function hr.depth (KX _ _ lk) rfl S_.co S_.gen rfl (PySem.W.codeRec_of KX bQ) (hb _ _ _ _ ?_);refine wpAny_newFunctionEnv_cells S_.kind d9 λenv he s1 x=>?_;subst he;refine⟨iR.keeps x.toInCall.keep,codeAny_func ?_⟩;obtain⟨t,ht,hq⟩:=eE A outer s H vs Q E (hr.deeper _) br;have I:Inv (Zi8 CX P w K mg base N ak scope f aJ A outer s H E) [] (start N vs) H s1:=Zk3 S_ hr.hd e0 hl r x;refine Yf (ht [] s1 (start N vs) H _ I hq) (λfl s' hs=>?_) λe s' hs=>hs;have fin:∀{σ':St}{H':Hp}{v:V}{u:Yj},Inv (Zi8 CX P w K mg base N ak scope f aJ A outer s H E) [] σ' H' s'->RelV v u->Q v H'->CE outer P w H s Q u s':=λ{σ' H' v u} ku rv q=>⟨v,H',ku.os,ku.bare,ku.base,ku.hok,rv,q⟩
 cases fl with
 |ret u=>obtain⟨v,σ',H',ku,rv,q⟩:=hs;exact fin ku rv q
 |next=>obtain⟨σ',H',ku,q⟩:=hs;exact fin (v:=V.non) (u:=Value.none) ku rfl q
 |brk=>obtain⟨_,_,_,q⟩:=hs;exact False.elim q
 |cont=>obtain⟨_,_,_,q⟩:=hs;exact False.elim q
section
variable {X:Cx}{x:Str}{p pos:Pos}{e:Expr}{es:List Expr}{t:TA}{id T:String}{r:List V->Hp->VK->Prop}
noncomputable def tCB(r:List V->Hp->VK->Prop)(t:TA):TE:=λZ H Q=>t Z H λvs H1=>r vs H1 Q
def ZaY(hc:Zag X (.builtin id) r)(hg:Gl X x)(hm:X.mg x=M)(hv:bootBuiltins x=J (.builtin id))(ha:PA X (e::es) t)(hn:x ≠ "__name__" := by decide)(bH:(x==("__debug__" : Str))=Ws:=by decide)
 (he:Yy (e::es) X.env=(Ws,eval e X.env)::Yy es X.env:=by rfl) (aV:(YR pos (Yy es X.env)).any (·.1)=Ws:=by rfl):PE X (.Call (.Name x p) (e::es) [] pos) (tCB r t):=by
 intro aa s Z H Q I h;refine YV (Zbi I hg hm hv ?_ hn bH);exact PyProof.Rows.callWith_builtin1 (thn (ha pos aa s Z H _ I h) λus s1 ⟨vs,H1,I1,r1,q1⟩=>hc aa s1 Z H1 vs us Q I1 r1 q1) he aV
def Zf8(hc:Zag X (.type T) r)(hg:Gl X x)(hm:X.mg x=M)(hv:bootBuiltins x=J (.type T))(ha:PA X (e::es) t)(hn:x ≠ "__name__" := by decide)(bH:(x==("__debug__" : Str))=Ws:=by decide)
 (he:Yy (e::es) X.env=(Ws,eval e X.env)::Yy es X.env:=by rfl) (aV:(YR pos (Yy es X.env)).any (·.1)=Ws:=by rfl):PE X (.Call (.Name x p) (e::es) [] pos) (tCB r t):=by
 intro aa s Z H Q I h;refine YV (Zbi I hg hm hv ?_ hn bH);exact PyProof.Rows.callWith_type1 (thn (ha pos aa s Z H _ I h) λus s1 ⟨vs,H1,I1,r1,q1⟩=>hc aa s1 Z H1 vs us Q I1 r1 q1) he aV
end
end L2
namespace HT
open PySem PyProof.Rows
section
variable {prog:Yh}{w:Yg}{A:YG}{E:Yj->Yb->Prop}{s:Yb}
def ZoO(ht:IsTup s.heap t vs.toArray)(hb:IsTup s.heap b ws.toArray)(hv:vs≠[])
 (R:ws=[]->Q (.ref t) s) (h2:ws≠[]->Q (.ref s.heap.objs.size) {s with heap:=s.heap.push {cls:=.type "tuple",data:=.seq (vs++ws).toArray}})
 (hsz:vs.length+ws.length<=sizeLine):Yz (model prog w) A (binaryOp .Add (.ref t) (.ref b)) Q E s:=by
 obtain⟨⟨cls,dd,data,sl⟩,ho,hc,n,hd⟩:=id ht;obtain⟨⟨gA,ft,data2,eU⟩,cS,eB,n2,eA⟩:=id hb;simp only at hc hd eB eA;subst hc hd eB eA;have e:vs.toArray++ws.toArray=(vs++ws).toArray:=by simp
 by_cases hw:ws=[]
 . exact concat_meets ⟨_,ho,rfl⟩ ⟨_,cS,rfl⟩ noFill_tuple_add seq_tuple_add PySem.F.slot_tuple_add PySem.F.entry_tuple_add (PySem.F.args_tuple_add_2 _ _)
    (tuple_addW1 t b vs.toArray ws.toArray n n2 dd ft sl eU (by simpa using hv) (by simp[hw])) ⟨ho,cS,R hw⟩
 . refine concat_meets ⟨_,ho,rfl⟩ ⟨_,cS,rfl⟩ noFill_tuple_add seq_tuple_add PySem.F.slot_tuple_add PySem.F.entry_tuple_add (PySem.F.args_tuple_add_2 _ _)
    (tuple_addW2 t b vs.toArray ws.toArray n n2 dd ft sl eU (by simpa using hv) (by simpa using hw) (by rw[Of,Of];exact hsz)) ⟨ho,cS,?_⟩
   rw[e];exact h2 hw
noncomputable def sIx(n d:Nat):Option Int->Nat
 |none=>d
 |some v=>if v<0 then(v+(n:Int)).toNat else min v.toNat n
def ZpZ(n d:Nat)(hd:d<=n)(o:Option Int):sIx n d o<=n:=by
 cases o with
 |none=>exact hd
 |some v=>
  show(if v<0 then(v+(n:Int)).toNat else min v.toNat n)<=n;by_cases hv:v<0
  . rw[if_pos hv];lia
  . rw[if_neg hv];exact Nat.min_le_right _ _
def Zkd(v:Int)(n d:Nat):(if v<0 then max (v+(n:Int)) 0 else min v (n:Int))=((sIx n d (J v):Nat):Int):=by
 show(if v<0 then max (v+(n:Int)) 0 else min v (n:Int))=(((if v<0 then(v+(n:Int)).toNat else min v.toNat n):Nat):Int)
 by_cases hv:v<0
 . simp only[if_pos hv];lia
 . simp only[if_neg hv];lia
def Zjf(lo hi:Option Int)(n:Nat):Builtin.Slice.sliceAdjust lo hi 1 (n:Int)=(((sIx n 0 lo:Nat):Int),((sIx n n hi:Nat):Int)):=by
 have R:¬ ((1:Int)<0):=by lia
 unfold Builtin.Slice.sliceAdjust;simp only[R,if_false];refine Prod.ext ?_ ?_
 . cases lo with
   |none=>rfl
   |some v=>exact Zkd v n 0
 . cases hi with
   |none=>rfl
   |some v=>exact Zkd v n n
def ZiF(i j:Nat):Builtin.Slice.slicePlaces (i:Int) (j:Int) 1=j-i:=by
 unfold Builtin.Slice.slicePlaces;have R:(1:Int) > 0:=by lia
 simp only[R,if_true,Int.ediv_one];split<;>lia
def ZeR(p:IsPart v o)(h:Q o s):Yz (model prog w) A (Builtin.Slice.slicePartIndex v) Q E s:=by
 cases p with
 |none=>exact slicePart_none h
 |int i t=>exact slicePart_int h
def Zbr{sl:Yi}{vl vu:Yj}{lo hi:Option Int}{n:Nat}{Q:Int×Int×Nat->Yb->Prop}(hs:s.heap.IsSliceOf sl vl vu .none)(pl:IsPart vl lo)(pu:IsPart vu hi)
 (h:Q (((sIx n 0 lo:Nat):Int),1,sIx n n hi-sIx n 0 lo) s):Yz (model prog w) A (Builtin.Slice.sliceApplied (.ref sl) (pure (n:Int))) Q E s:=by
 obtain⟨os,cQ,fg,ej⟩:=id hs;unfold Builtin.Slice.sliceApplied Builtin.Slice.sliceFields;refine Ya (Ya (YQ cQ ej (x:=vl) rfl (Ya (YQ cQ ej (x:=vu) rfl (Ya (YQ cQ ej (x:=.none) rfl (Yc ?_)))))));refine Ya (slicePart_none ?_);show Yz _ _ (if ((1:Int)==0)=Wr then _ else _) _ _ s;rw[if_neg (by decide)];refine Ya (ZeR pl (Ya (ZeR pu (Ya (Yc ?_)))));show Yz _ _ (match Builtin.Slice.sliceAdjust lo hi 1 (n:Int)with|(lo,hi)=>pure (lo,(1:Int),Builtin.Slice.slicePlaces lo hi 1)) _ _ s;rw[Zjf lo hi n];show Yz _ _ (pure (((sIx n 0 lo:Nat):Int),(1:Int),Builtin.Slice.slicePlaces ((sIx n 0 lo:Nat):Int) ((sIx n n hi:Nat):Int) 1)) _ _ s;rw[ZiF];exact Yc h
def ZlZ(xs:Array Yj)(i k:Nat):((List.range k).filterMap λ(m:Nat)=>xs[((i:Int)+(m:Int)*1).toNat]?).toArray=((xs.toList.drop i).take k).toArray:=by
 have e:(λ(m:Nat)=>xs[((i:Int)+(m:Int)*1).toNat]?)=λm=>xs[i+m]? := by
  funext m;have:((i:Int)+(m:Int)*1).toNat=i+m:=by lia
  rw[this]
 rw[e];have:=pick_run xs i k;rw[List.filterMap_map]at this;have e2:((λx=>xs[x]?) ∘ λx=>i+x)=λm=>xs[i+m]? := rfl;rw[e2]at this;rw[this]
def Zdf{t sl:Yi}{items:Array Yj}{vl vu:Yj}{lo hi:Option Int}{Q:Yj->Yb->Prop}(ht:IsTup s.heap t items)(hs:s.heap.IsSliceOf sl vl vu .none)(pl:IsPart vl lo)(pu:IsPart vu hi)
 (hw:¬ (sIx items.size 0 lo=0/\sIx items.size items.size hi=items.size))
 (h:Q (.ref s.heap.objs.size) {s with heap:=s.heap.push {cls:=.type "tuple",data:=.seq ((items.toList.drop (sIx items.size 0 lo)).take (sIx items.size items.size hi-sIx items.size 0 lo)).toArray}})
 (hsz:items.size<=sizeLine):Yz (model prog w) A (getItem (.ref t) (.ref sl)) Q E s:=by
 have bh:sizeOk (.seq ((items.toList.drop (sIx items.size 0 lo)).take (sIx items.size items.size hi-sIx items.size 0 lo)).toArray):=by
  show((items.toList.drop (sIx items.size 0 lo)).take (sIx items.size items.size hi-sIx items.size 0 lo)).toArray.size<=sizeLine;rw[Of,List.length_take,List.length_drop,Array.length_toList]
  lia
 have hj:sIx items.size items.size hi<=items.size:=ZpZ _ _ (Oq _) hi;obtain⟨os,cQ,fg,ej⟩:=id hs;have gr:s.TypeIs (.ref sl) "slice" := ⟨os,cQ,fg⟩
 unfold getItem
 try with_reducible refine Wb ?_
 first|refine Ya (Yc ?_)|skip
 refine Ya (wpAny_sequenceKey ht.typeIs (by decide) ?_);refine Ya (YY (name:=O "__getitem__") ht.typeIs Wg
  (Wc Wg ht.typeIs entry_tuple_getitem ?_ (args_tuple_getitem _ _)))
 show Yz _ _ (Builtin.Tuple.tupleItemsOf (.ref t) >>= _) _ _ s;refine Ya (tupleItemsOf_ ht ?_);refine Ya (wpAny_typeOf gr ?_);rw[if_pos (by decide)];refine Ya (Zbr hs pl pu ?_);have jm:¬ ((((sIx items.size 0 lo:Nat):Int)==0&&(1:Int)==1&&(sIx items.size items.size hi-sIx items.size 0 lo)==items.size)=Wr):=by intro q;rw[Oa,Oa]at q;have q1:((sIx items.size 0 lo:Nat):Int)=0:=eq_of_beq q.1.1;have q2:sIx items.size items.size hi-sIx items.size 0 lo=items.size:=eq_of_beq q.2;exact hw ⟨by lia,by lia⟩
 show Yz _ _ (if (((sIx items.size 0 lo:Nat):Int)==0&&(1:Int)==1&&(sIx items.size items.size hi-sIx items.size 0 lo)==items.size)=Wr then _ else _) _ _ s;rw[if_neg jm,ZlZ]
 first
  |exact Ya (m:=Builtin.Tuple.tupleExact _) (Yq (Yc ⟨_,rfl,Yc h⟩) bh)
  |exact Ya (m:=Builtin.Tuple.tupleExact _) (Yq (Ya (Yc (Yc ⟨_,rfl,Yc h⟩))) bh)
  |exact Ya (Ya (m:=Builtin.Tuple.tupleExact _) (Yq (Yc (Yc ⟨_,rfl,Yc h⟩)) bh))
  |exact Ya (Ya (m:=Builtin.Tuple.tupleExact _) (Yq (Yc ⟨_,rfl,Yc h⟩) bh))
end
end HT
namespace L2
open PySem PySem.Spec PyProof.Rows
abbrev TO:=St->Hp->(Option Int->Hp->Prop)->Prop
def PO(X:Cx)(e:Option Expr)(t:TO):Prop:=
 ∀(aa:List (Yi×Obj)) (s:Yb) (Z:St) (H:Hp) (Q:Option Int->Hp->Prop),Inv X aa Z H s->t Z H Q ->
  Yz (model X.prog X.w) X.A (evalPart e X.env) (λu s'=>∃o H',Inv X aa Z H' s'/\IsPart u o/\Q o H') X.xe s
noncomputable def Znl:TO:=λ_ H Q=>Q M H
noncomputable def ZrY(t:TE):TO:=λZ H Q=>t Z H λx H1=>∃i,x=.int i/\Q (J i) H1
section
variable {X:Cx}{e:Expr}{te:TE}{lo hi:Option Expr}{tl th:TO}{pos p2:Pos}
def ZnJ:PO X M Znl:=by intro aa s Z H Q I h;rw[evalPart_none];exact Yc ⟨M,H,I,.none,h⟩
def ZnI(h:PE X e te):PO X (J e) (ZrY te):=by intro aa s Z H Q I hw;rw[evalPart_some];refine thn (h aa s Z H _ I hw) λu s1 ⟨x,H1,I1,r1,q1⟩=>?_;obtain⟨i,rfl,q⟩:=q1;obtain⟨t,rfl⟩:=r1;exact⟨J i,H1,I1,.int i t,q⟩
def SlR(X:Cx)(r:V->Option Int->Option Int->Hp->VK->Prop):Prop:=
 ∀(aa:List (Yi×Obj)) (s:Yb) (Z:St) (H:Hp) (x:V) (v vl vu:Yj) (lo hi:Option Int) (sl:Yi) (Q:VK),Inv X aa Z H s->RelV x v->s.heap.IsSliceOf sl vl vu .none->IsPart vl lo->IsPart vu hi->r x lo hi H Q ->
  ∃T id,typeLookup (.type T) "__getitem__"=pure (J (.builtin id))/\s.TypeIs v T/\Yz (model X.prog X.w) X.A (getItem v (.ref sl)) (EP X aa Z Q) X.xe s
noncomputable def tSl(r:V->Option Int->Option Int->Hp->VK->Prop)(te:TE)(tl th:TO):TE:=λZ H Q=>te Z H λx H1=>tl Z H1 λl H2=>th Z H2 λu H3=>r x l u H3 Q
def Zl1(hr:SlR X r)(he:PE X e te)(hl:PO X lo tl)(hu:PO X hi th):PE X (.Subscript e (.Slice lo hi M p2) pos) (tSl r te tl th):=by intro aa s Z H Q I h;refine Subscript_ (thn (he aa s Z H _ I h) λv s1 ⟨x,H1,I1,r1,q1⟩=>?_);refine wpAny_Slice (thn (hl aa s1 Z H1 _ I1 q1) λvl s2 ⟨l,H2,I2,pl,q2⟩=>thn (hu aa s2 Z H2 _ I2 q2) λvu s3 ⟨u,H3,I3,pu,q3⟩=>?_);rw[evalPart_none];refine Yc ?_;have I4:Inv X aa Z H3 {s3 with heap:=s3.heap.push {cls:=.type "slice",data:=.fields #[vl,vu,.none]}}:=I3.kept (t':=s3.toks) λb ob q=>Od _ q;obtain⟨T,id,hT,ht,hg⟩:=hr aa {s3 with heap:=s3.heap.push {cls:=.type "slice",data:=.fields #[vl,vu,.none]}} Z H3 x v vl vu l u s3.heap.objs.size Q I4 r1 (Heap.IsSliceOf.new ..) pl pu q3;show Yz (model X.prog X.w) X.A (subscriptTail e (.Slice lo hi M p2) v (.ref s3.heap.objs.size)) (EP X aa Z Q) X.xe {s3 with heap:=s3.heap.push {cls:=.type "slice",data:=.fields #[vl,vu,.none]}};exact tail_any (ops:=[.ref s3.heap.objs.size,v]) ht hT hg (by with_unfolding_all rfl)
def Zh2(xs:List V)(lo hi:Option Int):List V:=(xs.drop (HT.sIx xs.length 0 lo)).take (HT.sIx xs.length xs.length hi-HT.sIx xs.length 0 lo)
def Zd6(xs:List V)(lo hi:Option Int):(Zh2 xs lo hi).length<=xs.length:=by
 unfold Zh2;rw[List.length_take,List.length_drop]
 lia
def ZtZ(K:Yk):V->Option Int->Option Int->Hp->VK->Prop:=λx lo hi H Q=>∃a xs,x=.ref a/\SqT K H a xs /\
 ¬ (HT.sIx xs.length 0 lo=0/\HT.sIx xs.length xs.length hi=xs.length)/\∀p,H p=M->Q (.ref p) (upd H p (.tup (Zh2 xs lo hi)))
def ZpU:SlR X (ZtZ X.K):=by
 intro aa s Z H x v vl vu lo hi sl Q I rx hs pl pu h;obtain⟨a,xs,rfl,hx,hw,q⟩:=h;cases rx;obtain⟨its,r,ht,hz⟩:=I.tuple hx;have ao:its.toArray.size=xs.length:=by rw[Of];exact r.length.symm
 refine⟨"tuple",_,PyProof.Rows.slot_tuple_getitem.lookup,ht.typeIs,?_⟩;refine HT.Zdf ht hs pl pu (by rw[ao];exact hw) ?_ (by rw[ao];exact hz);rw[ao];refine⟨.ref s.heap.objs.size,_,I.laid (t':=s.toks) (o:=.tup (Zh2 xs lo hi)) (λb ob q=>Od _ q) (Oq _) ?_,rfl,q _ (I.hok.fresh (Oq _))⟩;exact⟨OE (Zd6 xs lo hi) hz,_,(r.drop (HT.sIx xs.length 0 lo)).take (HT.sIx xs.length xs.length hi-HT.sIx xs.length 0 lo),ZaO.fresh _ _⟩
def Zsk(K:Yk):R2:=λx y H Q=>∃a b xs ys,x=.ref a/\y=.ref b/\SqT K H a xs/\SqT K H b ys/\xs≠[]/\xs.length+ys.length<=sizeLine /\
 (ys=[]->Q (.ref a) H)/\(ys≠[]->∀p,H p=M->Q (.ref p) (upd H p (.tup (xs++ys))))
def Zn.nil_iff(r:Zn xs us):us=[]↔xs=[]:=by
 cases r with
 |nil=>simp
 |cons _ _=>simp
def Zn1:OpR X (binaryOp .Add) (Zsk X.K):=by intro aa s Z H x y v u Q I rx ry h;obtain⟨a,b,xs,ys,rfl,rfl,ha,hb,hx,hz,q1,q2⟩:=h;cases rx;cases ry;obtain⟨its,r1,p1,_⟩:=I.tuple ha;obtain⟨aC,r2,p2,_⟩:=I.tuple hb;refine HT.ZoO p1 p2 (λz=>hx (r1.nil_iff.mp z)) (λz=>⟨.ref a,H,I,rfl,q1 (r2.nil_iff.mp z)⟩) (λz=>?_) (by rw[<-r1.length,<-r2.length];exact hz);refine⟨.ref s.heap.objs.size,_,I.laid (t':=s.toks) (o:=.tup (xs++ys)) (λb ob q=>Od _ q) (Oq _) ?_,rfl,q2 (λw=>z (r2.nil_iff.mpr w)) _ (I.hok.fresh (Oq _))⟩;exact⟨by rw[OA];exact hz,_,r1.append r2,ZaO.fresh _ _⟩
end
noncomputable def ixN(n:Nat)(i:Int):Option Nat:=if 0<=i then(if i<n then J i.toNat else M)else if -(n:Int)<=i then J (i+n).toNat else M
def atI(xs:List α)(i:Int):Option α:=(ixN xs.length i).bind λj=>xs[j]?
def ZjV(h:ixN n i=J j):seqIndex? i n=J j/\j<n/\-(n:Int)<=i/\i<n:=by
 unfold ixN at h;by_cases h0:0<=i
 . rw[if_pos h0]at h;by_cases R:i<n
   . rw[if_pos R]at h;have e:i.toNat=j:=YE h;exact⟨by rw[seqIndex_of h0 R,e],by lia,by lia,R⟩
   . rw[if_neg R]at h;cases h
 . rw[if_neg h0]at h;by_cases R:-(n:Int)<=i
   . rw[if_pos R]at h;have e:(i+n).toNat=j:=YE h;exact⟨by rw[seqIndex_neg (by lia) R,e],by lia,R,by lia⟩
   . rw[if_neg R]at h;cases h
def Zhl(h:atI xs i=J v):∃j,seqIndex? i xs.length=J j/\xs[j]?=J v/\j<xs.length/\-(xs.length:Int)<=i/\i<xs.length:=by
 unfold atI at h;cases e:ixN xs.length i with
 |none=>rw[e]at h;cases h
 |some j=>rw[e]at h;obtain⟨R,h2,h3,h4⟩:=ZjV e;exact⟨j,R,h,h2,h3,h4⟩
def Zhm(b:Expr):Prop:=∀o i,subscripted b Ws o i=operate [o,i] (getItem o i)
def IxR(X:Cx)(r:R2):Prop:=
 ∀(value slice:Expr) (aa:List (Yi×Obj)) (s:Yb) (Z:St) (H:Hp) (x y:V) (v u:Yj) (Q:VK),Inv X aa Z H s->RelV x v->RelV y u->r x y H Q ->
  subscripted slice Ws v u=operate [v,u] (getItem v u)->Yz (model X.prog X.w) X.A (subscriptTail value slice v u) (EP X aa Z Q) X.xe s
def MtR(X:Cx)(id:String)(r:V->List V->Hp->VK->Prop):Prop:=
 ∀(aa:List (Yi×Obj)) (s:Yb) (Z:St) (H:Hp) (x:V) (xs:List V) (v:Yj) (us:List Yj) (Q:VK),Inv X aa Z H s->RelV x v->Zn xs us->r x xs H Q ->
  Yz (model X.prog X.w) X.A (call (.builtin id) (v::us)) (EP X aa Z Q) X.xe s
section
variable {X:Cx}{a b:Expr}{ta tb:TE}{pos:Pos}
def Zsr{r:R2}(hr:IxR X r)(ha:PE X a ta)(hb:PE X b tb)(hs:Zhm b):PE X (.Subscript a b pos) (tOp r ta tb):=by intro aa s Z H Q I h;exact Subscript_ (Zrw ha hb I h λv u s2 x y H2 I2 rx ry q=>hr a b aa s2 Z H2 x y v u Q I2 rx ry q (hs _ _))
def Zt5(K:Yk):R2:=λx y H Q=>∃p xs i v,x=.ref p/\y=.int i/\SqL K H p xs/\atI xs i=J v/\Q v H
def Zt3(K:Yk):R2:=λx y H Q=>∃p xs i v,x=.ref p/\y=.int i/\SqT K H p xs/\atI xs i=J v/\Q v H
def Zt4:R2:=λx y H Q=>∃z i c,x=.str z/\y=.int i/\z.length<=sizeLine/\atI z.cps.toList i=J c/\Q (.str ⟨#[c]⟩) H
def Zos:IxR X (Zt5 X.K):=by
 intro value slice aa s Z H x y v u Q I rx ry h hs;obtain⟨p,xs,i,z,rfl,rfl,hq,he,q⟩:=h;cases rx;obtain⟨t,rfl⟩:=ry;obtain⟨its,r,pl,hz⟩:=I.list hq;obtain⟨j,R,h2,h3,h4,h5⟩:=Zhl he;obtain⟨w,ew,az⟩:=r.get h2;have hl:=r.length;have hn:=ZaZ;have fin:EP X aa Z Q w s:=⟨z,H,I,az,q⟩
 by_cases h0:0<=i
 . have hj:i.toNat=j:=by rw[seqIndex_of h0 h5]at R;exact YE R
   exact item_listR pl.isList h0 (by lia) (by rw[hj];simpa using ew) fin hs
 . have hj:(i+(its.toArray.size:Int)).toNat=j:=by rw[seqIndex_neg (by lia) h4]at R;rw[Of,<-hl];exact YE R
   exact subscriptTail_builtinR (x:=w) pl.isList.typeIs slot_list_getitem.lookup
    (wpAny_getItem_list_neg (Q:=λr s'=>r=w/\EP X aa Z Q r s') pl.isList (by lia) (by rw[Of]<;>lia) (by lia) (by rw[hj];simpa using ew) ⟨rfl,fin⟩) hs
def Zq3:IxR X (Zt3 X.K):=by
 intro value slice aa s Z H x y v u Q I rx ry h hs;obtain⟨p,xs,i,z,rfl,rfl,hq,he,q⟩:=h;cases rx;obtain⟨t,rfl⟩:=ry;obtain⟨its,r,pl,hz⟩:=I.tuple hq;obtain⟨j,R,h2,h3,h4,h5⟩:=Zhl he;obtain⟨w,ew,az⟩:=r.get h2;have hl:=r.length;have hn:=ZaZ;have fin:EP X aa Z Q w s:=⟨z,H,I,az,q⟩
 exact subscriptTail_builtinR (x:=w) pl.typeIs slot_tuple_getitem.lookup
  (getItem_tuple (j:=j) (Q:=λr s'=>r=w/\EP X aa Z Q r s') pl (by lia) (by lia) (by rw[Of,<-hl];exact R) (by simpa using ew) ⟨rfl,fin⟩) hs
theorem Zq4:IxR X Zt4:=by
 intro value slice aa s Z H x y v u Q I rx ry h hs;obtain⟨z,i,c,rfl,rfl,hz,he,q⟩:=h;obtain⟨t,rfl⟩:=rx;obtain⟨t',rfl⟩:=ry;obtain⟨j,R,h2,h3,h4,h5⟩:=Zhl he;have hl:z.cps.toList.length=z.length:=by simp [Str.length]
 rw [hl] at R h4 h5;have hn:=ZaZ;exact tail_any (typeIs_str s z t) slot_str_getitem.lookup (getItem_str (c:=c) (by
   have e1:Wt (i < -(2^63:Int))=Ws:=decide_eq_false (by lia);have e2:Wt (i ≥ 2^63)=Ws:=decide_eq_false (by lia);rw [e1,e2,Bool.or_false]) (by rw [R];simpa using h2) ⟨.str ⟨#[c]⟩,H,I.tok _,⟨_,rfl⟩,q⟩) hs
def ZiM(its:List Yj)(n j:Nat)(u:Yj):Obj.mapSeq (·.setIfInBounds j u) {cls:=.type "list",data:=.seq its.toArray n}={cls:=.type "list",data:=.seq (its.set j u).toArray n}:=by simp[Obj.mapSeq]
theorem Inv.lst(I:Inv X aa Z H s)(h:H p=J (.lst xs)):
 ∃(its:List Yj) (n:Nat),Zn xs its/\s.heap.get? p=J {cls:=.type "list",data:=.seq its.toArray n}/\xs.length<=sizeLine:=by
 obtain⟨z,its,n,r,e⟩:=I.hok p _ h;exact⟨its,n,r,e,z⟩
def Inv.lstUpd{aa:List (Yi×Obj)}{Z:St}{H:Hp}{s:Yb}{p:Yi}{xs ys:List V}{its its':List Yj}{n n':Nat}{f:Obj->Obj}(I:Inv X aa Z H s)(h:H p=J (.lst xs))
 (ho:s.heap.get? p=J {cls:=.type "list",data:=.seq its.toArray n}) (hf:f {cls:=.type "list",data:=.seq its.toArray n}={cls:=.type "list",data:=.seq its'.toArray n'}) (r:Zn ys its') (hz:ys.length<=sizeLine) (t:Nat) :
 Inv X aa Z (upd H p (.lst ys)) {s with heap:=s.heap.update p f,toks:=t}:=by
 have e:(s.heap.update p f).get? p=J {cls:=.type "list",data:=.seq its'.toArray n'}:=by rw[YU f ho (by rw[hf]<;>rfl),hf]
 refine I.write (x:=p) (e:=p) (by rw[h];trivial) (.inl rfl) (λb u hb q=>(YM _ _ (YK hb)).trans q) ⟨_,e⟩ ?_;exact⟨hz,its',n',r,e⟩
def Zsi:V->V->V->Hp->(Hp->Prop)->Prop:=λo i v H Q=>∃p xs k j,o=.ref p/\i=.int k/\H p=J (.lst xs)/\ixN xs.length k=J j/\Q (upd H p (.lst (xs.set j v)))
def set_list:Zpa X Zsi:=by
 intro aa s Z H o i v ov iv u Q I ro ri rv h;obtain⟨p,xs,k,j,rfl,rfl,hp,hj,q⟩:=h;cases ro;obtain⟨t,rfl⟩:=ri;obtain⟨its,n,r,ho,hz⟩:=I.lst hp;obtain⟨R,h2,h3,h4⟩:=ZjV hj;have hl:=r.length;have hn:=ZaZ;have I':Inv X aa Z (upd H p (.lst (xs.set j v))) {s with heap:=s.heap.update p (Obj.mapSeq (·.setIfInBounds j u))}:=I.lstUpd hp ho (ZiM its n j u) (r.set rv j) (by rw[List.length_set];exact hz) s.toks
 by_cases h0:0<=k
 . have hk:k.toNat=j:=by rw[seqIndex_of h0 h4]at R;exact YE R
   exact PySem.W.ki_setAt ho h0 (by lia) (by rw[Of,<-hl];exact h4) (by rw[hk];exact⟨_,I',q⟩)
 . have hk:(k+(its.toArray.size:Int)).toNat=j:=by rw[seqIndex_neg (by lia) h3]at R;rw[Of,<-hl];exact YE R
   exact PySem.W.ki_setBack ho (by lia) (by rw[Of,<-hl];exact h3) (by lia) (by rw[hk];exact⟨_,I',q⟩)
def ZgB(lo hi:Option Int)(n:Nat):(sliceBounds lo hi M n).1=((HT.sIx n 0 lo:Nat):Int)/\(sliceBounds lo hi M n).2.1=((HT.sIx n n hi:Nat):Int)/\(sliceBounds lo hi M n).2.2=1:=by
 refine⟨?_,?_,rfl⟩
 . cases lo with
   |none=>simp[sliceBounds,HT.sIx]
   |some i=>
    simp only[sliceBounds,HT.sIx,Option.getD_none,show(1:Int) > 0 by decide,if_true];by_cases h:i<0
    . simp only[h,if_true]<;>lia
    . simp only[h,if_false]<;>lia
 . cases hi with
   |none=>simp[sliceBounds,HT.sIx]
   |some i=>
    simp only[sliceBounds,HT.sIx,Option.getD_none,show(1:Int) > 0 by decide,if_true];by_cases h:i<0
    . simp only[h,if_true]<;>lia
    . simp only[h,if_false]<;>lia
def ZfJ(its:List Yj)(lo hi:Option Int):slicePick its.toArray lo hi M=((its.drop (HT.sIx its.length 0 lo)).take (HT.sIx its.length its.length hi-HT.sIx its.length 0 lo)).toArray:=by obtain⟨R,h2,h3⟩:=ZgB lo hi its.toArray.size;unfold slicePick;rw[R,h2,h3];simp only[sliceRange_one,pick_run,Of]<;>rfl
def Zt1(K:Yk):V->Option Int->Option Int->Hp->VK->Prop:=λx lo hi H Q=>∃a xs,x=.ref a/\SqL K H a xs/\∀p,H p=M->Q (.ref p) (upd H p (.lst (Zh2 xs lo hi)))
def Znn:SlR X (Zt1 X.K):=by intro aa s Z H x v vl vu lo hi sl Q I rx hs pl pu h;obtain⟨a,xs,rfl,hx,q⟩:=h;cases rx;obtain⟨its,r,ht,hz⟩:=I.list hx;have ao:=r.length;refine⟨"list",_,slot_list_getitem.lookup,ht.isList.typeIs,?_⟩;refine wpAny_getItem_list_slice ht.isList hs pl pu .none (by simp) ?_ (by rw[Of]<;>lia);rw[ZfJ,<-ao];refine⟨.ref s.heap.objs.size,_,I.laid (t':=s.toks) (o:=.lst (Zh2 xs lo hi)) (λb ob q=>Od _ q) (Oq _) ?_,rfl,q _ (I.hok.fresh (Oq _))⟩;exact⟨OE (Zd6 xs lo hi) hz,_,0,(r.drop (HT.sIx xs.length 0 lo)).take (HT.sIx xs.length xs.length hi-HT.sIx xs.length 0 lo),Oj _ rfl⟩
noncomputable def ZcL:V->Bool
 |.non=>Wr
 |.bl _=>Wr
 |.int _=>Wr
 |.str _=>Wr
 |_=>Ws
noncomputable def eqV:V->V->Bool
 |.non,.non=>Wr
 |.bl a,.bl b=>a==b
 |.bl a,.int b=>(if a then 1 else 0)==b
 |.int a,.bl b=>a==(if b then 1 else 0)
 |.int a,.int b=>a==b
 |.str a,.str b=>a==b
 |_,_=>Ws
def Zro(ry:RelV y u)(rx:RelV x v)(fy:ZcL y=Wr)(fx:ZcL x=Wr):SeqAt.EqAt A s u v (eqV y x):=by
 cases y with
 |non=>
  cases ry;cases x with
  |non=>cases rx;exact SeqAt.EqAt.same _
  |bl b=>cases rx;exact SeqAt.EqAt.none_bool b
  |int b=>obtain⟨t,rfl⟩:=rx;exact SeqAt.EqAt.none_int b t
  |str b=>obtain⟨t,rfl⟩:=rx;exact SeqAt.EqAt.none_str b t
  |_=>exact absurd (show Ws=Wr from fx) Ow
 |bl a=>
  cases ry;cases x with
  |non=>cases rx;exact SeqAt.EqAt.bool_none a
  |bl b=>cases rx;exact SeqAt.EqAt.bool_bool a b
  |int b=>obtain⟨t,rfl⟩:=rx;exact SeqAt.EqAt.bool_int a b t
  |str b=>obtain⟨t,rfl⟩:=rx;exact SeqAt.EqAt.bool_str a b t
  |_=>exact absurd (show Ws=Wr from fx) Ow
 |int a=>
  obtain⟨t',rfl⟩:=ry;cases x with
  |non=>cases rx;exact SeqAt.EqAt.int_none a t'
  |bl b=>cases rx;exact SeqAt.EqAt.int_bool a t' b
  |int b=>obtain⟨t,rfl⟩:=rx;exact SeqAt.EqAt.int_int a t' b t
  |str b=>obtain⟨t,rfl⟩:=rx;exact SeqAt.EqAt.int_str a t' b t
  |_=>exact absurd (show Ws=Wr from fx) Ow
 |str a=>
  obtain⟨t',rfl⟩:=ry;cases x with
  |non=>cases rx;exact SeqAt.EqAt.str_none a t'
  |bl b=>cases rx;exact SeqAt.EqAt.str_bool a t' b
  |int b=>obtain⟨t,rfl⟩:=rx;exact SeqAt.EqAt.str_int a t' b t
  |str b=>obtain⟨t,rfl⟩:=rx;exact SeqAt.EqAt.str_str a t' b t
  |_=>exact absurd (show Ws=Wr from fx) Ow
 |_=>exact absurd (show Ws=Wr from fy) Ow
def eqU(x:V)(u:Yj):Bool:=match u with
 |.none=>eqV .non x
 |.bool b=>eqV (.bl b) x
 |.int i _=>eqV (.int i) x
 |.str z _=>eqV (.str z) x
 |_=>Ws
def ZmI(r:RelV y u)(f:ZcL y=Wr):eqU x u=eqV y x:=by
 cases y with
 |non=>cases r;rfl
 |bl b=>cases r;rfl
 |int i=>obtain⟨t,rfl⟩:=r;rfl
 |str z=>obtain⟨t,rfl⟩:=r;rfl
 |_=>exact absurd (show Ws=Wr from f) Ow
theorem Zdy:∀{xs:List V}{us:List Yj},Zn xs us->xs.all ZcL=Wr->us.any (eqU x)=xs.any λy=>eqV y x
 |_,_,.nil,_=>rfl
 |y::xs,u::us,.cons r t,f=>by rw[List.all_cons,Oa]at f;rw[YZ,YZ,ZmI r f.1,Zdy t f.2]
theorem Zb4(rx:RelV x v)(fx:ZcL x=Wr):∀{xs:List V}{us:List Yj},Zn xs us->xs.all ZcL=Wr->∀u∈us,SeqAt.EqAt A s u v (eqU x u)
 |_,_,.nil,_=>λu hu=>by cases hu
 |y::xs,u::us,.cons r t,f=>λu' hu=>by
  rw[List.all_cons,Oa]at f;rcases O2.mp hu with rfl|hu
  . rw[ZmI r f.1];exact Zro r rx f.1 fx
  . exact Zb4 rx fx t f.2 u' hu
def inV(x:V)(xs:List V):Bool:=xs.any λy=>eqV y x
def rIn(K:Yk)(neg:Bool):R2:=λx y H Q=>∃p xs,y=.ref p/\(SqL K H p xs\/SqT K H p xs)/\ZcL x=Wr/\xs.all ZcL=Wr/\Q (.bl (if neg then !inV x xs else inV x xs)) H
def ZkT:OpR X (YL .In) (rIn X.K Ws):=by
 intro aa s Z H x y v u Q I rx ry h;obtain⟨p,xs,rfl,hq,fx,fs,q⟩:=h;cases ry;rcases hq with hq|hq
 . obtain⟨its,r,pl,hz⟩:=I.list hq;refine SeqAt.in_listAt (eqU x) pl.isList (λw hw=>Zb4 rx fx r fs w (by simpa using hw)) ⟨.bl _,H,I,rfl,?_⟩;rw[show its.toArray.any (eqU x)=its.any (eqU x) by simp,Zdy r fs];exact q
 . obtain⟨its,r,pl,hz⟩:=I.tuple hq;refine SeqAt.in_tupleAt (eqU x) pl (λw hw=>Zb4 rx fx r fs w (by simpa using hw)) ⟨.bl _,H,I,rfl,?_⟩;rw[show its.toArray.any (eqU x)=its.any (eqU x) by simp,Zdy r fs];exact q
def ZgF:OpR X (YL .NotIn) (rIn X.K Wr):=by
 intro aa s Z H x y v u Q I rx ry h;obtain⟨p,xs,rfl,hq,fx,fs,q⟩:=h;cases ry;rcases hq with hq|hq
 . obtain⟨its,r,pl,hz⟩:=I.list hq;refine SeqAt.notIn_listAt (eqU x) pl.isList (λw hw=>Zb4 rx fx r fs w (by simpa using hw)) ⟨.bl _,H,I,rfl,?_⟩;rw[show its.toArray.any (eqU x)=its.any (eqU x) by simp,Zdy r fs];exact q
 . obtain⟨its,r,pl,hz⟩:=I.tuple hq;refine SeqAt.notIn_tupleAt (eqU x) pl (λw hw=>Zb4 rx fx r fs w (by simpa using hw)) ⟨.bl _,H,I,rfl,?_⟩;rw[show its.toArray.any (eqU x)=its.any (eqU x) by simp,Zdy r fs];exact q
def Zg7:Zag X (.builtin "len") (λxs H Q=>∃p ys,xs=[.ref p]/\(SqL X.K H p ys\/SqT X.K H p ys)/\Q (.int ys.length) H):=by
 intro aa s Z H xs us Q I r h;obtain⟨p,ys,rfl,hq,q⟩:=h;obtain⟨u,rfl,rx⟩:=vals1 r;cases rx;have hn:=ZaZ;rcases hq with hq|hq
 . obtain⟨its,r',pl,hz⟩:=I.list hq;have ao:=r'.length;exact Calls.call_len_list pl.isList (by simp only[Of]<;>lia) ⟨.int ys.length,H,I.tok _,⟨s.toks+1,by rw[Of,ao]⟩,q⟩
 . obtain⟨its,r',pl,hz⟩:=I.tuple hq;have ao:=r'.length;exact len_tuple pl (by simp only[Of]<;>lia) ⟨.int ys.length,H,I.tok _,⟨s.toks+1,by rw[Of,ao]⟩,q⟩
def Zg6:Zag X (.builtin "len") (λxs H Q=>∃z,xs=[.str z]/\z.length<=sizeLine/\Q (.int z.length) H):=by intro aa s Z H xs us Q I r h;obtain⟨z,rfl,hz,q⟩:=h;obtain⟨u,rfl,t,rfl⟩:=vals1 r;have hn:=ZaZ;exact len_str (by lia) ⟨.int z.length,H,I.tok _,⟨_,rfl⟩,q⟩
def Zg5:Zag X (.type "list") (λxs H Q=>∃p ys,xs=[.ref p]/\(SqL X.K H p ys\/SqT X.K H p ys)/\∀l,H l=M->Q (.ref l) (upd H l (.lst ys))):=by
 intro aa s Z H xs us Q I r h;obtain⟨p,ys,rfl,hq,q⟩:=h;obtain⟨u,rfl,rx⟩:=vals1 r;cases rx;have fin:∀(its:List Yj),Zn ys its->ys.length<=sizeLine->∀(h':YF) (c':Nat),(∀b o',s.heap.get? b=J o'->h'.get? b=J o') ->
  h'.get? s.heap.objs.size=J {cls:=.type "list",dict:=M,data:=.seq its.toArray c',slots:=#[]}->EP X aa Z Q (.ref s.heap.objs.size) {s with heap:=h'}:=λits r' hz h' c' kp e=>
  ⟨.ref s.heap.objs.size,_,I.laid (t':=s.toks) kp (Oq _) (show Z5 X.prog X.w _ h' _ (.lst ys)from⟨hz,its,c',r',e⟩),rfl,q _ (I.hok.fresh (Oq _))⟩
 rcases hq with hq|hq
 . obtain⟨its,r',pl,hz⟩:=I.list hq;have ao:=r'.length;obtain⟨o,ho,hc,n,hd⟩:=pl.isList;exact call_list_seq p (.inl rfl) ho hc hd (λh' c' kp e=>fin its r' hz h' c' kp e) (by simp only[Of]<;>lia)
 . obtain⟨its,r',pl,hz⟩:=I.tuple hq;have ao:=r'.length;obtain⟨o,ho,hc,n,hd⟩:=pl;exact call_list_seq p (.inr rfl) ho hc hd (λh' c' kp e=>fin its r' hz h' c' kp e) (by simp only[Of]<;>lia)
def tyV(K:Yk)(T:String)(x:V)(H:Hp):Prop:=match x with
 |.str _=>T="str"
 |.int _=>T="int"
 |.ref p=>(T="list" /\ ∃xs,SqL K H p xs)\/(T="tuple" /\ ∃o,K.lookup p=J o/\o.cls=.type "tuple" /\ o.dict=M) \/
  (T="dict" /\ ((∃kvs,H p=J (.dK kvs))\/∃kvs,H p=J (.dT kvs)))\/(T="set" /\ ∃S_ n,H p=J (.set S_ n))
 |_=>False
def Zlo(I:Inv X aa Z H s)(r:RelV x v)(ty:tyV X.K T x H):
 s.TypeIs v T/\∀a,v=.ref a->∃ob,s.heap.get? a=J ob/\ob.dict=M:=by
 cases x with
 |str z=>obtain⟨t,rfl⟩:=r;cases (show T="str" from ty);exact⟨typeIs_str s z t,λ_ e=>nomatch e⟩
 |int i=>obtain⟨t,rfl⟩:=r;cases (show T="int" from ty);exact⟨typeIs_int s i t,λ_ e=>nomatch e⟩
 |ref p=>
  cases r;rcases ty with⟨rfl,xs,hq⟩|⟨rfl,o,hk,hc,hd⟩|⟨rfl,hk⟩|⟨rfl,S_,n,hk⟩
  . obtain⟨its,_,pl,_⟩:=I.list hq;refine⟨pl.isList.typeIs,λa e=>?_⟩;cases e;obtain⟨o,n,e,c,hd,_⟩:=pl;exact⟨o,e,hd⟩
  . refine⟨⟨o,I.kIn p o hk,hc⟩,λa e=>?_⟩;cases e;exact⟨o,I.kIn _ o hk,hd⟩
  . have z:∃o,s.heap.get? p=J o/\o.ExactDict:=by
     rcases hk with⟨kvs,hk⟩|⟨kvs,hk⟩
     . obtain⟨_,_,_,_,o,_,_,e,ex,_⟩:=I.hok p _ hk;exact⟨o,e,ex⟩
     . obtain⟨_,_,_,_,o,_,_,e,ex,_⟩:=I.hok p _ hk;exact⟨o,e,ex⟩
    obtain⟨o,e,ex⟩:=z;refine⟨⟨o,e,ex.1⟩,λa e2=>?_⟩;cases e2;exact⟨o,e,ex.2.1⟩
  . obtain⟨o,_,_,_,e,ex,_⟩:=I.hok p _ hk;refine⟨⟨o,e,ex.1⟩,λa e2=>?_⟩;cases e2;exact⟨o,e,ex.2.1⟩
 |_=>exact False.elim ty
noncomputable def ZtO(K:Yk)(T:String)(r:V->List V->Hp->VK->Prop)(to:TE):TE:=λZ H Q=>to Z H λx H1=>tyV K T x H1/\r x [] H1 Q
noncomputable def tBM(K:Yk)(T:String)(r:V->List V->Hp->VK->Prop)(to:TE)(t:TA):TE:=λZ H Q=>to Z H λx H1=>tyV K T x H1/\t Z H1 λxs H2=>r x xs H2 Q
variable {o e:Expr}{es:List Expr}{to:TE}{t:TA}{name:Str}{apos aw:Pos}{T id:String}{r:V->List V->Hp->VK->Prop}
def Zqv(pa:PlainAttrs T)(slot:Slot T name id)(fS:typeOf (.builtin id)=pure (.type "method_descriptor"))(hm:MtR X id r)(ho:PE X o to)
 (aF:attributeBase o name X.env (eval o X.env)=eval o X.env:=by rfl) (aE:(apos.endLine==aw.line)=Wr:=by rfl):PE X (.Call (.Attribute o name apos) [] [] aw) (ZtO X.K T r to):=by
 intro aa s Z H Q I h;refine wpAny_Call_method0_late aF aE (thn (ho aa s Z H _ I h) λv s1 ⟨x,H1,I1,r1,ty,q1⟩=>?_);obtain⟨R,h2⟩:=Zlo I1 r1 ty;exact⟨T,id,pa,slot,fS,R,h2,Calls.callWith_builtin rfl (PySem.evalArgs_none (hm aa s1 Z H1 x [] v [] Q I1 r1 .nil q1))⟩
def Zss(pa:PlainAttrs T)(slot:Slot T name id)(fS:typeOf (.builtin id)=pure (.type "method_descriptor"))(hm:MtR X id r)(ho:PE X o to)(ha:PA X (e::es) t)
 (aF:attributeBase o name X.env (eval o X.env)=eval o X.env:=by rfl)
 (bG:((YR aw (Yy (e::es) X.env)).all (λx=>!x.1)&&(backToKw aw (YX [] X.env)).all (λx=>x.1.isSome)
  && Wt ((e::es).length+([]:List Keyword).length+(if ([]:List Keyword).isEmpty then 0 else 1)<30))=Wr:=by rfl)
 (aE:(apos.endLine==aw.line)=Wr:=by rfl) (hs:Yy (e::es) X.env=(Ws,eval e X.env)::Yy es X.env:=by rfl) (cP:(YR aw (Yy es X.env)).any (·.1)=Ws:=by rfl) :
 PE X (.Call (.Attribute o name apos) (e::es) [] aw) (tBM X.K T r to t):=by
 intro aa s Z H Q I h;refine wpAny_Call_method_late aF bG aE rfl (thn (ho aa s Z H _ I h) λv s1 ⟨x,H1,I1,r1,ty,q1⟩=>?_);obtain⟨R,h2⟩:=Zlo I1 r1 ty;refine⟨T,id,pa,slot,fS,R,h2,?_⟩;have hA:=ha aw aa s1 Z H1 _ I1 q1;rw[hs]at hA ⊢;refine Calls.callWith_builtin (by show(Ws||(YR aw (Yy es X.env)).any (·.1))=Ws;rw[cP]<;>rfl) (Calls.evalArgs_plain ?_);exact thn hA λus s2 ⟨vs,H2,I2,r2,q2⟩=>hm aa s2 Z H2 x vs v us Q I2 r1 r2 q2
end
def MtM(X:Cx)(id:String)(r:V->List V->Hp->VK->Prop):Prop:=
 ∀(aa:List (Yi×Obj)) (s:Yb) (Z:St) (H:Hp) (x:V) (xs:List V) (v:Yj) (us:List Yj) (Q:VK),Inv X aa Z H s->RelV x v->Zn xs us->r x xs H Q ->
  Yz (model X.prog X.w) X.A (call (.builtin id) (v::us)) (EP X aa Z Q) X.xe s
def Zn.one:∀{x:V}{us:List Yj},Zn [x] us->∃u,us=[u]/\RelV x u
 |_,_,.cons r .nil=>⟨_,rfl,r⟩
def Zn.zero:∀{us:List Yj},Zn [] us->us=[]
 |_,.nil=>rfl
theorem Zn.dropLast(h:Zn xs us):Zn xs.dropLast us.dropLast:=by
 induction h with
 |nil=>exact .nil
 |cons r t ih=>
  cases t with
  |nil=>exact .nil
  |cons q t'=>exact .cons r ih
theorem Zn.reverse(h:Zn xs us):Zn xs.reverse us.reverse:=by
 induction h with
 |nil=>exact .nil
 |cons r t ih=>rw[List.reverse_cons,List.reverse_cons];exact Zn.append ih (.cons r .nil)
def Zi6(l:List α):l.eraseIdx (l.length-1)=l.dropLast:=by
 induction l with
 |nil=>rfl
 |cons a r ih=>
  cases r with
  |nil=>rfl
  |cons b r=>
   have e:(a::b::r).length-1=((b::r).length-1)+1:=by
    have R:(a::b::r).length=r.length+2:=rfl;have h2:(b::r).length=r.length+1:=rfl
    lia
   rw[e,List.eraseIdx_cons_succ,ih]
   all_goals rfl
section
variable {X:Cx}{aa:List (Yi×Obj)}{Z:St}{H:Hp}{s:Yb}{l:Yi}{xs ys:List V}
def Inv.lset{its its':List Yj}{n:Nat}{f:Array Yj->Array Yj}{t':Nat}(I:Inv X aa Z H s)(hH:H l=J (.lst xs))
 (e:s.heap.get? l=J {cls:=.type "list",data:=.seq its.toArray n}) (hf:f its.toArray=its'.toArray) (hv:Zn ys its') (hz:ys.length<=sizeLine) :
 Inv X aa Z (upd H l (.lst ys)) {s with heap:=s.heap.update l (Obj.mapSeq f),toks:=t'}:=by
 have q:=PySem.IsL.update e f;rw[hf]at q;refine I.write (x:=l) (e:=l) (by rw[hH];exact trivial) (.inl rfl) (λb' u hb hu=>(YM s.heap (Obj.mapSeq f) (YK hb)).trans hu) ⟨_,q⟩ ?_;exact⟨hz,its',_,hv,q⟩
def Inv.lnew(I:Inv X aa Z H s)(hv:Zn ys its)(hz:ys.length<=sizeLine):
 Inv X aa Z (upd H s.heap.objs.size (.lst ys)) {s with heap:=s.heap.push {cls:=.type "list",data:=.seq its.toArray},toks:=t'}:=
 I.laid (λ_ _ q=>Od _ q) (Oq _) ⟨hz,its,0,hv,Oj _ rfl⟩
theorem Inv.fresh(I:Inv X aa Z H s):H s.heap.objs.size=M:=I.hok.fresh (Oq _)
def Inv.lstM(I:Inv X aa Z H s)(hH:H l=J (.lst xs)):xs.length<=sizeLine/\∃(its:List Yj) (n:Nat),Zn xs its/\xs.length=its.length/\s.heap.get? l=J {cls:=.type "list",data:=.seq its.toArray n}:=by obtain⟨z,its,n,r,e⟩:=I.hok l _ hH;exact⟨z,its,n,r,r.length,e⟩
def ZhG{n:Nat}(h:n<=sizeLine):Wj n=Ws:=by unfold Wj;exact decide_eq_false (by lia)
end
section
variable {X:Cx}
def Znz:V->List V->Hp->VK->Prop:=λx vs H Q=>∃l xs y,x=.ref l/\vs=[y]/\H l=J (.lst xs)/\xs.length<sizeLine/\Q .non (upd H l (.lst (xs++[y])))
def Zgb:MtM X "list.append" Znz:=by
 intro aa s Z H x vs v us Q I rx rv h;obtain⟨l,xs,y,rfl,rfl,hH,hz,q⟩:=h;cases rx;obtain⟨u,rfl,ru⟩:=rv.one;obtain⟨z,its,n,r,hl,e⟩:=I.lstM hH;refine call_meets F.slot_list_append ⟨_,e,rfl⟩ F.entry_list_append (F.args_list_append_2 _ _) (PySem.list_append l its.toArray n u (by rw[Of];lia)) ⟨e,?_⟩;refine⟨.non,_,I.lset (its':=its++[u]) hH e (by simp) (r.append (.cons ru .nil)) ?_,rfl,q⟩;rw[OA,List.length_singleton]
 lia
def Zny:V->List V->Hp->VK->Prop:=λx vs H Q=>∃l b xs zs,x=.ref l/\vs=[.ref b]/\H l=J (.lst xs)/\H b=J (.lst zs)/\xs.length+zs.length<=sizeLine/\Q .non (upd H l (.lst (xs++zs)))
def ZkY:MtM X "list.extend" Zny:=by
 intro aa s Z H x vs v us Q I rx rv h;obtain⟨l,b,xs,zs,rfl,rfl,hH,hB,hz,q⟩:=h;cases rx;obtain⟨u,rfl,ru⟩:=rv.one;cases ru;obtain⟨z,its,n,r,hl,e⟩:=I.lstM hH;obtain⟨z2,aC,n2,r2,bm,e2⟩:=I.lstM hB;have hsz:its.toArray.size+aC.toArray.size<=sizeLine:=by rw[Of,Of];lia
 have bC:¬ (!its.toArray.isEmpty&&Wj (its.toArray.size+aC.toArray.size))=Wr:=by rw[ZhG hsz,Bool.and_false];exact Ow
 refine call_meets F.slot_list_extend ⟨_,e,rfl⟩ F.entry_list_extend (F.args_list_extend_2 _ _)
  (AutoSeq1.list_extend_list_list_0 l its.toArray n b aC.toArray n2 bC (by rw[Of];lia) (by lia)) ⟨e,e2,?_⟩
 refine⟨.non,_,I.lset (its':=its++aC) hH e (by simp) (r.append r2) ?_,rfl,q⟩;rw[OA]
 lia
def Zt2:V->List V->Hp->VK->Prop:=λx vs H Q=>∃l xs y,x=.ref l/\vs=[]/\H l=J (.lst xs)/\xs[xs.length-1]?=J y/\Q y (upd H l (.lst xs.dropLast))
def ZqK:MtM X "list.pop" Zt2:=by
 intro aa s Z H x vs v us Q I rx rv h;obtain⟨l,xs,y,rfl,rfl,hH,hy,q⟩:=h;cases rx;have dX:=rv.zero;subst dX;obtain⟨z,its,n,r,hl,e⟩:=I.lstM hH;obtain⟨u,hu,ru⟩:=r.get hy;have bW:its.toArray[its.toArray.size-1]?=J u:=by show its.toArray[its.length-1]?=J u;rw[<-Array.getElem?_toList,<-hl];exact hu
 refine call_meets F.slot_list_pop ⟨_,e,rfl⟩ F.entry_list_pop (F.args_list_pop_1 _) (MeetsSeq.list_pop_last l its.toArray n u bW (by rw[Of];lia)) ⟨e,?_⟩;refine⟨y,_,I.lset (its':=its.dropLast) hH e ?_ r.dropLast ?_,ru,q⟩
 . show its.toArray.eraseIdxIfInBounds (its.toArray.size-1)=its.dropLast.toArray;rw[Of,List.eraseIdxIfInBounds_toArray,Zi6]
 . rw[List.length_dropLast]
   lia
def ZlP:V->List V->Hp->VK->Prop:=λx vs H Q=>∃l xs,x=.ref l/\vs=[]/\H l=J (.lst xs)/\Q .non (upd H l (.lst xs.reverse))
def ZiK:MtM X "list.reverse" ZlP:=by
 intro aa s Z H x vs v us Q I rx rv h;obtain⟨l,xs,rfl,rfl,hH,q⟩:=h;cases rx;have dX:=rv.zero;subst dX;obtain⟨z,its,n,r,hl,e⟩:=I.lstM hH;refine call_meets F.slot_list_reverse ⟨_,e,rfl⟩ F.entry_list_reverse (F.args_list_reverse_1 _) (AutoSeq1.list_reverse_list_0 l its.toArray n (by rw[Of];lia)) ⟨e,?_⟩;refine⟨.non,_,I.lset (its':=its.reverse) hH e (by simp) r.reverse ?_,rfl,q⟩;rw[List.length_reverse]
 lia
def Zp6:V->List V->Hp->VK->Prop:=λx vs H Q=>∃l xs,x=.ref l/\vs=[]/\H l=J (.lst xs)/\Q .non (upd H l (.lst []))
def Zmf:MtM X "list.clear" Zp6:=by intro aa s Z H x vs v us Q I rx rv h;obtain⟨l,xs,rfl,rfl,hH,q⟩:=h;cases rx;have dX:=rv.zero;subst dX;obtain⟨z,its,n,r,hl,e⟩:=I.lstM hH;refine call_meets F.slot_list_clear ⟨_,e,rfl⟩ F.entry_list_clear (F.args_list_clear_1 _) (AutoSeq1.list_clear_list_0 l its.toArray n (by rw[Of];lia)) ⟨e,?_⟩;exact⟨.non,_,I.lset (its':=[]) (ys:=[]) hH e rfl .nil (Yv _),rfl,q⟩
def Zt7:R2:=λx y H Q=>∃l b xs zs,x=.ref l/\y=.ref b/\H l=J (.lst xs)/\H b=J (.lst zs)/\xs.length+zs.length<=sizeLine/\∀p,H p=M->Q (.ref p) (upd H p (.lst (xs++zs)))
def ZqD:OpR X (binaryOp .Add) Zt7:=by
 intro aa s Z H x y v u Q I rx ry h;obtain⟨l,b,xs,zs,rfl,rfl,hH,hB,hz,q⟩:=h;cases rx;cases ry;obtain⟨z,its,n,r,hl,e⟩:=I.lstM hH;obtain⟨z2,aC,n2,r2,bm,e2⟩:=I.lstM hB;refine PySem.P.add_list e e2 ?_ (by rw[Of,Of];lia);have ea:its.toArray++aC.toArray=(its++aC).toArray:=by simp
 rw[ea];exact⟨.ref _,_,I.lnew (t':=s.toks) (r.append r2) (by rw[OA];lia),rfl,q _ I.fresh⟩
end
end L2
namespace Att
open PySem PySem.W PySem.Calls PyProof.Rows
def Zej:∀(ns:List Int) (vs:List Yj),WellAll P h vs (ns.map WData.int)->IntsAre vs ns:=by
 intro ns;induction ns with
 |nil=>intro vs w;rw[Oy]at w;cases w;exact .nil
 |cons n ns ih=>
  intro vs w;rw[Op]at w;cases w with
  |cons a b=>cases a;exact .cons _ _ (ih _ b)
def ZkG{l:OpenLaw}{n:Nat}(hn:l.most=J n){P:Params}{h:YF}{args:List WData}{bc:List Yj}
 (bY:l.row.toRowW.claim.pre args=Wr) (fQ:WellAll P h bc args) :
 ∃a vs ns,bc=[YB a]/\args=[WData.list (ns.map WData.int)]/\h.get? a=J {cls:=.type "list",data:=.seq vs.toArray}/\IntsAre vs ns/\ns.length<=n:=by
 have jg:WShape.hasAll [] args [.list .int]=Wr:=(pre_splitW bY).1;have hc:l.pre.holds [] {args:=args}=Wr:=(pre_splitW bY).2;obtain⟨d,r,rfl,R,h2⟩:=hasAllW_cons jg;obtain rfl:=hasAllW_nil h2;obtain⟨xs,rfl,h3⟩:=hasW_list R;obtain⟨ns,rfl⟩:=items_int h3;have ao:ns.length<=n:=by
  unfold OpenLaw.pre at hc;have h4:(WTm.not (.lt (.lit (.int (n:Int))) (.len (.arg 0)))).holds [] {args:=[.list (ns.map .int)]}=Wr:=by have h4:=(holds_andW hc).1;rw[hn]at h4;exact h4
  have h5:=condW_of h4 (w_not (w_lt w_lit (w_len_list (w_arg rfl))));rw[Ys]at h5;refine Nat.le_of_not_lt λq=>?_;have q':(n:Int)<((ns.length:Nat):Int):=by lia
  first
   |(rw[decide_eq_true q']at h5;exact absurd h5 (by decide))
   |(simp at h5;lia)
 cases fQ with
 |cons w1 w2=>
  cases w2;cases w1 with
  |list ho bJ=>exact⟨_,_,ns,rfl,rfl,ho,Zej ns _ bJ,ao⟩
def ZkL(l:OpenLaw)(args:List WData):l.row.toRowW.claim.post args (.bool Wr) args=Wr:=
 postW_of (r:=l.row.toRowW) (X:=(Wr==Wr))
  (show WShape.has [] (.bool Wr) .bool=Wr by first|rfl|decide|simp[WShape.has,WShape.arms,WShape.armsAll])
  (show(WTm.eq .res (.lit (.bool Wr))).value [] {args:=args,res:=J (.bool Wr),after:=args}=J (.bool (Wr==Wr))from w_eq_bool (w_res rfl) w_lit) rfl
def Zin{l:OpenLaw}{n:Nat}{q:Yh}{aZ:List Str}{XP:(Str->Option Yj)->YF->Prop}{YP:Yg->YF->Prop}{d:DefRec}
 (hn:l.most=J n) (ez:d.params.defaults=[])
 (call:∀(w:Yg) (s₀ s₁:Yb) (mg mb:Str->Option Yj) (fa:Yi) (o:Obj) (pm cd aL:Yj) (a:Yi) (vs:List Yj) (ns:List Int),
  Ground q aZ [] XP w s₀ mg mb s₁.heap->YP w s₁.heap ->
  s₁.heap.get? fa=J o->o.data=.func (docDef d.name d.params d.body d.scope pm cd aL)->s₁.heap.CodeRec cd d.name->mg d.name=J (.ref fa) ->
  s₁.heap.get? a=J {cls:=.type "list",data:=.seq vs.toArray}->IntsAre vs ns->ns.length<=n->s₁.gens=#[] ->
  codeAny (model l.prog w) callerA (.call (.ref fa) ⟨[.ref a],[]⟩) (λr s'=>r=.ok (.ret (.bool Wr))/\OldK s₁.heap s'.heap/\s'.os=s₁.os/\AllBare s'.gens) s₁) :
 WalkO q aZ XP YP l.row.toRowW d [] (λf vs=>PySem.call f vs):=by
 intro w s₀ s₁ mg mb G Y fa o pm cd aL dV kV ho hd bQ hD dA hg args bc as bY jt ka fQ kg;obtain rfl:dV=.none:=Dflts.none hD ez;obtain rfl:kV=.none:=Dflts.noKw hD;obtain⟨a,vs,ns,rfl,rfl,cR,bE,ao⟩:=ZkG hn bY fQ;refine enter_call (codeAny_mono (call w s₀ s₁ mg mb fa o pm cd aL a vs ns G Y ho (fd_plain hd) bQ dA cR bE ao hg) λr s' hq=>?_);obtain⟨rfl,h2,h3,h4⟩:=hq;exact⟨.inl ⟨.bool Wr,.bool Wr,[],rfl,λ_=>rfl,.bool Wr,ZkL l _,λ_=>⟨List.Pairwise.nil,λ_ hm=>(nomatch hm)⟩⟩,h2,h3,h4⟩
end Att
namespace L2
open PySem PySem.Spec PyProof.Rows
theorem Zf3:∀{vs:List Yj}{ns:List Int},IntsAre vs ns->Zn (ns.map V.int) vs
 |_,_,.nil=>.nil
 |_,_,.cons n t h=>.cons ⟨t,rfl⟩ (Zf3 h)
def Zpb(H:Hp):Prop:=∀b,H b=M\/∃o xs,H b=J (.frz o (.lst xs))
theorem Zmp{P:Yh}{w:Yg}{K:Yk}{mg mb:Str->Option Yj}{CX:CXT}{k:Nat}{fa a:Yi}{fd:FuncData}{x:Str}{sp:Sp}{s₁:Yb}{vs:List Yj}{ns:List Int}
   (KX:K.In s₁.heap) (cj:s₁.heap.Ns Yd mg) (hb:s₁.heap.Ns builtinsNs mb) (gm:∀ x:Str,x ≠ "__name__" -> mb x=bootBuiltins x) (f8:s₁.heap.NoLimit) (hg:s₁.gens=#[])
   (ha:s₁.heap.get? a=J {cls:=.type "list",data:=.seq vs.toArray}) (hi:IntsAre vs ns) (hl:ns.length<=sizeLine) (hr:Room k callerA)
   (F:∀ base:YF,K.In base->base.Ns Yd mg->FnOk P w K mg base CX k fa fd [x] sp) (eF:∀ (s:Yb) (u:Yj),BindsTo s fd ⟨[u],[]⟩ [(x,u)])
   (br:∀ H:Hp,Zpb H->SqL K H a (ns.map V.int)->sp [.ref a] H (λv _=>v=.bl Wr) λ_ _ _=>False)
   (gv:∀ H e s',CX [] H s₁ (λ_ _ _=>False) e s'->False) :
   codeAny (model P w) callerA (.call (.ref fa) ⟨[.ref a],[]⟩) (λr s'=>r=.ok (.ret (.bool Wr))/\OldK s₁.heap s'.heap/\s'.os=s₁.os/\AllBare s'.gens) s₁:=by
 have rv:=Zf3 hi;have fN:=hi.length;have eN:∀ H:Hp,Zpb H->SqL K H a (ns.map V.int)->HOk P w H s₁.heap->(∀ b,H b≠M->b=a)->(H a≠M->K.lookup a=M) ->
     codeAny (model P w) callerA (.call (.ref fa) ⟨[.ref a],[]⟩) (λr s'=>r=.ok (.ret (.bool Wr))/\OldK s₁.heap s'.heap/\s'.os=s₁.os/\AllBare s'.gens) s₁:=by
   intro H hO hS hok hA hK;have bi:∀ {b:Yi}{o:Obj},s₁.heap.get? b=J o->H b=M->(ZgU s₁.heap H).get? b=J o:=λe n=>Zmz e n;have dM:∀ {b:Yi}{o:Obj}{es:Array DictEntry}{ep:Nat},s₁.heap.get? b=J o->o.data=.dict es ep->H b=M:=λ{b o es ep} e d=>by
     cases q:H b with
     |none=>rfl
     |some u =>
       have e':b=a:=hA b (by rw [q];simp);subst e';rw [ha] at e;cases e;have d':Data.seq vs.toArray _=Data.dict es ep:=d;cases d'
   have eW:∀ {b:Yi}{m:Str->Option Yj},s₁.heap.Ns b m->(ZgU s₁.heap H).Ns b m:=λ{b m} ⟨o,es,ep,e,d,r⟩=>⟨o,es,ep,bi e (dM e d),d,r⟩
   have hW:K.In (ZgU s₁.heap H):=λb o e=>bi (KX b o e) (by
     cases q:H b with
     |none=>rfl
     |some u =>
       have e':b=a:=hA b (by rw [q];simp);subst e';rw [hK (by rw [q];simp)] at e;cases e)
   have hM:Mod K mg (ZgU s₁.heap H):=⟨hW,eW cj,⟨mb,eW hb,gm⟩,let⟨mc,R,h2⟩:=f8;⟨mc,eW R,h2⟩⟩
   have e0:Env0 P w K mg (ZgU s₁.heap H) callerA [] s₁ H:=⟨rfl,hM,λb o e=>Zoc e,Nat.le_of_eq (Zk4 _ _),trivial,λb hb=>absurd (show b∈([]:List Yi) from hb) (by simp),hok,.of_eq hg⟩
   refine codeAny_mono ((F _ hW (eW cj)).run callerA [] s₁ H ⟨[.ref a],[]⟩ [.ref a] [.ref a] _ _ hr e0 (eF s₁ (.ref a)) (.cons rfl .nil) (br H hO hS)) λr s' h=>?_;cases r with
   |error e=>exact(gv H e s' h).elim
   |ok fl =>
     cases fl with
     |next=>exact False.elim h
     |brk=>exact False.elim h
     |cont=>exact False.elim h
     |ret u =>
       obtain⟨v,H',os,bare,un,fZ,r',q⟩:=h;have q':v=.bl Wr:=q;subst q';obtain rfl:u=Value.bool Wr:=r';refine⟨rfl,OldK.of_keep λb o e=>?_,os,bare⟩;cases q:H b with
       |none=>exact un.keep b o e q (by intro z;exact absurd (show b∈([]:List Yi) from z) (by simp)) (by simp)
       |some u =>
         rcases hO b with z|⟨ob,xs,z⟩
         . rw [q] at z;cases z
         . have z2:=un.frzs b ob _ z;obtain⟨e1,_⟩:=hok b _ z;obtain⟨e2,_⟩:=fZ b _ z2;rw [e] at e1;cases e1;exact e2
 cases hk:K.lookup a with
 |some o =>
   have e:=KX a o hk;rw [ha] at e;cases e;refine eN (λ_=>M) (λ_=>.inl rfl) (.inr ⟨_,vs.toArray,_,hk,rfl,rfl,rfl,by rw [Of,fN];exact hl,by simpa using rv⟩) (λb u z=>by have z':(M:Option HO)=J u:=z;cases z') (λb z=>absurd rfl z) λz=>absurd rfl z
 |none =>
   refine eN (λb=>if b=a then J (.frz {cls:=.type "list",data:=.seq vs.toArray} (.lst (ns.map V.int))) else M) (λb=>?_) (.inl (.inr ⟨{cls:=.type "list",data:=.seq vs.toArray},if_pos rfl⟩)) (λb u z=>?_) (λb z=>?_) λ_=>hk
   . by_cases hb:b=a
     . exact .inr ⟨_,_,if_pos hb⟩
     . exact .inl (if_neg hb)
   . by_cases hb:b=a
     . have z':=(if_pos hb).symm.trans z;cases z';subst hb;exact⟨ha,by rw [Ys];exact hl,vs,_,rv,ha⟩
     . have z':=(if_neg hb).symm.trans z;cases z'
   . by_cases hb:b=a
     . exact hb
     . exact absurd (if_neg hb) z
def Znb{l:PySem.W.OpenLaw}{n k:Nat}{q:Yh}{aZ:List Str}{XP:(Str->Option Yj)->YF->Prop}{YP:Yg->YF->Prop}{d:DefRec}{K:Params->Yk}{CX:Yg->CXT}{sp:Yg->Sp}{x:Str}
 (hn:l.most=J n) (fb:n<=sizeLine) (ez:d.params.defaults=[]) (hr:Room k callerA)
 (hY:∀(w:Yg) (h:YF),YP w h->(K w.params).In h)
 (F:∀(w:Yg) (mg:Str->Option Yj) (fa:Yi) (h:YF),(K w.params).In h->h.Ns Yd mg->mg d.name=J (.ref fa) ->
  ∃fd:FuncData,(∀(s:Yb) (u:Yj),BindsTo s fd ⟨[u],[]⟩ [(x,u)]) /\
   ∀base:YF,(K w.params).In base->base.Ns Yd mg->FnOk l.prog w (K w.params) mg base (CX w) k fa fd [x] (sp w))
 (br:∀(w:Yg) (H:Hp) (a:Yi) (ns:List Int),ns.length<=n->Zpb H->SqL (K w.params) H a (ns.map V.int)->sp w [.ref a] H (λv _=>v=.bl Wr) λ_ _ _=>False)
 (gv:∀(w:Yg) (H:Hp) (s:Yb) (e:Yj) (s':Yb),CX w [] H s (λ_ _ _=>False) e s'->False) :
 PySem.W.WalkO q aZ XP YP l.row.toRowW d [] (λf vs=>PySem.call f vs):=by
 refine Att.Zin hn ez λw s₀ s₁ mg mb fa o pm cd aL a vs ns G Y ho hd bQ dA cR bE ao hg=>?_;have KX:=hY w _ Y;obtain⟨fd,hb,hF⟩:=F w mg fa _ KX G.T.g dA;exact Zmp KX G.T.g G.T.b G.T.builtins G.T.nolimit hg cR bE (OE ao fb) hr hF hb (λH hO hS=>br w H a ns ao hO hS) λH e s'=>gv w H s₁ e s'
noncomputable def inClass(s:Stmt)(j:Nat):Stmt:=match s with
 |.ClassDef _ _ _ body _ _ _ _ _ _ _=>body.getD j (.Pass ⟨0,0,0,0⟩)
 |_=>.Pass ⟨0,0,0,0⟩
noncomputable def Zcz(s:Stmt):Arguments:=match s with
 |.FunctionDef _ a _ _ _ _ _ _ _ _=>a
 |_=>{posonlyargs:=[],args:=[],vararg:=M,kwonlyargs:=[],kw_defaults:=[],kwarg:=M,defaults:=[]}
noncomputable def Zbc(s:Stmt):List Stmt:=match s with
 |.FunctionDef _ _ b _ _ _ _ _ _ _=>b
 |_=>[]
noncomputable def ZN(s:Stmt):Scope:=match s with
 |.FunctionDef _ _ _ _ _ _ sc _ _ _=>sc
 |_=>{kind:=.function,names:=[],isGenerator:=false,isCoroutine:=false}
noncomputable abbrev E0:XK:=λ_ _ _=>False
structure Fun(K:Yk)(x ak:Str)(st:Stmt)(f:Yi)(fd:FuncData):Prop where
 ex:∃(oc:Yj) (od:Option Yi) (kV aL pm:Yj) (an:Option Yi) (aJ ct:Yj) (bx:Array (Option Yj)),
  fd=PySem.W.fnOf x ak (Zcz st) (Zbc st) (ZN st) .none kV aL pm an aJ ct/\K.lookup f=J ⟨oc,od,.func fd,bx⟩/\PySem.W.codeIn K aJ ak=Wr
 kp:Wa K (.ref f)=Wr
section
variable {K:Yk}
def Fun.binds{x ak:Str}{st:Stmt}{f:Yi}{fd:FuncData}{ps:List Str}(F:Fun K x ak st f fd)
 (h:∀(kV aL pm:Yj) (an:Option Yi) (aJ ct:Yj) (us:List Yj),us.length=ps.length->bindArgs (PySem.W.fnOf x ak (Zcz st) (Zbc st) (ZN st) .none kV aL pm an aJ ct) ⟨us,[]⟩=pure (ps.zip us)):Binds K fd ps []:=by
 obtain⟨oc,od,kV,aL,pm,an,aJ,ct,bx,rfl,lk,bQ⟩:=F.ex;exact .all (h kV aL pm an aJ ct)
def ZmC{x ak:Str}{st:Stmt}{f:Yi}{oc:Yj}{od an:Option Yi}{bx:Array (Option Yj)}{kV aL pm aJ ct:Yj}(l:K.lookup f=J ⟨oc,od,.func (PySem.W.fnOf x ak (Zcz st) (Zbc st) (ZN st) .none kV aL pm an aJ ct),bx⟩)
 (c:PySem.W.codeIn K aJ ak=Wr) (k:Wa K (.ref f)=Wr):Fun K x ak st f (PySem.W.fnOf x ak (Zcz st) (Zbc st) (ZN st) .none kV aL pm an aJ ct):=⟨⟨oc,od,kV,aL,pm,an,aJ,ct,bx,rfl,l,c⟩,k⟩
end
def ZiV{A B_:Prop}(h:B_):if Ws=Wr then A else B_:=by rw[if_neg Ow];exact h
def ZiU{A B_:Prop}(h:A):if Wr=Wr then A else B_:=by rw[if_pos rfl];exact h
set_option tactic.hygienic false
section
variable {κ:Type}[DecidableEq κ]
noncomputable def Zc6(kvs:List (κ×V))(k:κ):Option V:=(kvs.find? λkv=>Wt (kv.1=k)).map (·.2)
noncomputable def putK(kvs:List (κ×V))(k:κ)(v:V):List (κ×V):=if (kvs.any λkv=>Wt (kv.1=k))=Wr then kvs.map (λkv=>if kv.1=k then(kv.1,v)else kv)else kvs++[(k,v)]
def Zlk{p:κ×V}{r:List (κ×V)}{k:κ}(e:p.1=k):Zc6 (p::r) k=J p.2:=by simp[Zc6,Wn,e]
def Zll{p:κ×V}{r:List (κ×V)}{k:κ}(e:¬ p.1=k):Zc6 (p::r) k=Zc6 r k:=by simp[Zc6,Wn,e]
def ZdX(kvs:List (κ×V))(k:κ)(v:V):(putK kvs k v).length<=kvs.length+1:=by
 unfold putK;split
 . rw[Ys];lia
 . rw[OA,Os,List.length_nil];lia
def Zdz.isSome_eq{o:Option V}{u:Option Yj}(r:Zdz o u):o.isSome=u.isSome:=by
 cases o with
 |none=>cases u with
  |none=>rfl
  |some _=>exact(show False from r).elim
 |some _=>cases u with
  |none=>exact(show False from r).elim
  |some _=>rfl
def KV.val{kvs:List (κ×V)}{vs:List (κ×Yj)}(r:KV kvs vs)(k:κ):Zdz (Zc6 kvs k) (valueAt vs k):=by
 unfold KV at r;induction r with
 |nil=>exact True.intro
 |@cons p q ps qs h t ih=>
  obtain⟨R,h2⟩:=h;by_cases e:p.1=k
  . have e':q.1=k:=R.symm.trans e;have b:valueAt (q::qs) k=J q.2:=by simp[valueAt,Wn,e']
    rw[Zlk e,b];exact h2
  . have e':¬ q.1=k:=λz=>e (R.trans z);have b:valueAt (q::qs) k=valueAt qs k:=by simp[valueAt,Wn,e']
    rw[Zll e,b];exact ih
theorem KV.any{kvs:List (κ×V)}{vs:List (κ×Yj)}(r:KV kvs vs)(k:κ):(kvs.any λkv=>Wt (kv.1=k))=vs.any λkv=>Wt (kv.1=k):=by
 unfold KV at r;induction r with
 |nil=>rfl
 |cons h t ih=>rw[YZ,YZ,ih,h.1]
def KV.repl{kvs:List (κ×V)}{vs:List (κ×Yj)}(r:KV kvs vs)(k:κ){y:V}{u:Yj}(ry:RelV y u):
 KV (kvs.map λkv=>if kv.1=k then(kv.1,y)else kv) (vs.map λkv=>if kv.1=k then(kv.1,u)else kv):=by
 unfold KV at r ⊢;induction r with
 |nil=>exact .nil
 |@cons p q ps qs h t ih=>
  rw[Op,Op];refine .cons ?_ ih;obtain⟨R,h2⟩:=h;by_cases e:p.1=k
  . rw[if_pos e,if_pos (R.symm.trans e)];exact⟨R,ry⟩
  . rw[if_neg e,if_neg (λz=>e (R.trans z))];exact⟨R,h2⟩
def KV.put{kvs:List (κ×V)}{vs:List (κ×Yj)}(r:KV kvs vs)(k:κ){y:V}{u:Yj}(ry:RelV y u):KV (putK kvs k y) (stored vs k u):=by
 unfold putK stored;rw[r.any k];by_cases e:(vs.any λkv=>Wt (kv.1=k))=Wr
 . rw[if_pos e,if_pos e];exact r.repl k ry
 . rw[if_neg e,if_neg e];exact Paired.snoc r ⟨rfl,ry⟩
theorem KV.length(r:KV kvs vs):kvs.length=vs.length:=Paired.length r
end
def ZhR(r:RelV (kV k) u):(ZD P w).is k u=Wr:=by
 cases k with
 |inl i=>obtain⟨t,e⟩:=(show ∃t,u=Value.int i t from r);subst e;exact ZhL P w i t
 |inr x=>obtain⟨t,e⟩:=(show ∃t,u=Value.str x t from r);subst e;exact ZhK P w x t
section
variable {P:Yh}{w:Yg}{H:Hp}{h:YF}{a:Yi}
def Zsc(ok:HOk P w H h)(e:Rd H a u):Z5 P w H h a u:=e.ok ok
def Zpv(ok:HOk P w H h)(e:Rd H a (.dK kvs)):kvs.length<=sizeLine/\(a==Ye)=Ws/\∃vs,KV kvs vs/\h.DictOf (ZD P w) a vs:=show Z5 P w H h a (.dK kvs)from Zsc ok e
def Zpw(ok:HOk P w H h)(e:H a=J (.dK kvs)):kvs.length<=sizeLine/\(a==Ye)=Ws/\∃vs,KV kvs vs/\h.DictOf (ZD P w) a vs:=Zpv ok (.inl e)
end
section
variable {X:Cx}{aa:List (Yi×Obj)}{Z:St}{H:Hp}{s:Yb}{a:Yi}
def Inv.big(I:Inv X aa Z H s):Ye<s.heap.objs.size:=by have h:Yd<s.heap.objs.size:=(I.mod.glob.keeps I.bk).lt;exact Nat.lt_trans (by decide) h
def Zj8(I:Inv X aa Z H s)(mu:Mut (H a))(hs:Heap.SameBut a s.heap h')(he:∃q,h'.get? a=J q)(new:Z5 X.prog X.w (upd H a ob) h' a ob):
 Inv X aa Z (upd H a ob) {s with heap:=h',toks:=t'}:=
 I.write (x:=a) (e:=a) mu (.inl rfl) (λb q hb z=>(hs.2 b hb).trans z) he new
def ZmK(z:kvs.length<=sizeLine)(hd:(a==Ye)=Ws)(am:KV kvs vs)(dd:h'.DictOf (ZD P w) a vs):
 Z5 P w H' h' a (.dK kvs):=⟨z,hd,vs,am,dd⟩
end
def Zh1(h:YF)(hb:Ye<h.objs.size):Z5 P w H (h.push {cls:=.type "dict",data:=.dict #[]}) h.objs.size (.dK []):=⟨Yv _,beq_eq_false_iff_ne.mpr (YK (Ou hb)),[],.nil,Heap.DictOf.new h⟩
def ZpS:TE:=λ_ H Q=>∀p,H p=M->Q (.ref p) (upd H p (.dK []))
section
variable {X:Cx}{pos:Pos}
def Zl6:PE X (.Dict [] [] pos) ZpS:=λaa s Z H Q I h=>wpAny_Dict_empty ⟨.ref s.heap.objs.size,_,I.laid (a:=s.heap.objs.size) (o:=.dK []) (t':=s.toks) (λ_ _ q=>Od _ q) (Oq _) (Zh1 s.heap I.big),rfl,h _ (I.hok.fresh (Oq _))⟩
end
def Zgz:List (TE×TE)->St->Hp->(List (V×V)->Hp->Prop)->Prop
 |[],_,H,Q=>Q [] H
 |(tk,tv)::r,Z,H,Q=>tk Z H λx H1=>tv Z H1 λy H2=>Zgz r Z H2 λps H3=>Q ((x,y)::ps) H3
abbrev VV:List (V×V)->List (Yj×Yj)->Prop:=Paired λp q=>RelV p.1 q.1/\RelV p.2 q.2
def PPs(X:Cx)(pos:Pos)(keys:List (Option Expr))(values:List Expr)(trs:List (TE×TE)):Prop:=
 ∀(aa:List (Yi×Obj)) (s:Yb) (Z:St) (H:Hp) (Q:List (V×V)->Hp->Prop),Inv X aa Z H s->Zgz trs Z H Q ->
  Yz (model X.prog X.w) X.A (evalPairs (pairTrees keys values X.env pos)) (λvs s'=>∃ps H',Inv X aa Z H' s'/\VV ps vs/\Q ps H') X.xe s
def ZnH:PPs X pos [] [] []:=λaa s Z H Q I h=>pairTrees_nil_walk ⟨[],H,I,.nil,h⟩
def ZlY(hk:PE X k tk)(hv:PE X v tv)(hr:PPs X pos ks vs trs):
 PPs X pos (J k::ks) (v::vs) ((tk,tv)::trs):=λaa s Z H Q I h=>
 pairTrees_cons_walk (thn (hk aa s Z H _ I h) λu s1 ⟨x,H1,I1,rx,q1⟩=>thn (hv aa s1 Z H1 _ I1 q1) λw2 s2 ⟨y,H2,I2,ry,q2⟩=>thn (hr aa s2 Z H2 _ I2 q2) λws s3 ⟨ps,H3,I3,am,q3⟩=>⟨(x,y)::ps,H3,I3,.cons ⟨rx,ry⟩ am,q3⟩)
def ZdH(kvs more:List (Key×V)):List (Key×V):=more.foldl (λag kv=>putK ag kv.1 kv.2) kvs
def KV.merge:∀{more:List (Key×V)}{rs:List (Key×Yj)}{kvs:List (Key×V)}{vs:List (Key×Yj)},KV more rs->KV kvs vs->KV (ZdH kvs more) (merged vs rs):=by
 intro more rs kvs vs r;unfold KV at r;induction r generalizing kvs vs with
 |nil=>intro q;exact q
 |@cons p q ps qs h t ih=>
  intro r0;have e:KV (putK kvs p.1 p.2) (stored vs q.1 q.2):=by have:=r0.put p.1 h.2;rw[<-h.1];exact this
  exact ih e
theorem ZcI:∀(more kvs:List (Key×V)),(ZdH kvs more).length<=kvs.length+more.length
 |[],kvs=>by show kvs.length<=kvs.length+0;lia
 |p::r,kvs=>by have R:=ZcI r (putK kvs p.1 p.2);have h2:=ZdX kvs p.1 p.2;show(ZdH (putK kvs p.1 p.2) r).length<=_;rw[Os];lia
theorem Zfs:∀{kvs:List (Key×V)}{ws:List (Yj×Yj)},VV (kvs.map λkv=>(kV kv.1,kv.2)) ws->∃rs,Carries (ZD P w) ws rs/\KV kvs rs
 |[],_,r=>by rw[Oy]at r;cases r;exact⟨[],True.intro,.nil⟩
 |p::kvs,_,r=>by
  rw[Op]at r;cases r with
  |@cons a b as bs h t=>obtain⟨rs,c,q⟩:=Zfs (P:=P) (w:=w) t;obtain⟨b1,b2⟩:=b;exact⟨(p.1,b2)::rs,⟨ZhR h.1,rfl,c⟩,.cons ⟨rfl,h.2⟩ q⟩
def Zr2(trs:List (TE×TE)):TE:=λZ H Q=>∀p,H p=M->Zgz trs Z (upd H p (.dK [])) λps H2=>H2 p=J (.dK [])/\∃kvs:List (Key×V),ps=kvs.map (λkv=>(kV kv.1,kv.2))/\kvs.length<=15/\Q (.ref p) (upd H2 p (.dK (ZdH [] kvs)))
def ZnS(h:PPs X pos keys values trs)(bJ:keys.all (·.isSome)=Wr)(hl:keys.length=values.length)(h0:keys≠[])
 (gy:keys.length<=15):PE X (.Dict keys values pos) (Zr2 trs):=by
 intro aa s Z H Q I q;have hn:=I.hok.fresh (Oq s.heap.objs.size);have I1:=I.laid (a:=s.heap.objs.size) (o:=.dK []) (h':=s.heap.push {cls:=.type "dict",data:=.dict #[]}) (t':=s.toks) (λ_ _ q=>Od _ q) (Oq _) (Zh1 s.heap I.big);refine wpAny_Dict_walk (knd:=ZD X.prog X.w) bJ hl h0 gy (thn (h aa _ Z _ _ I1 (q _ hn)) λws s2 ⟨ps,H2,I2,am,e,kvs,ep,lk,q2⟩=>?_);subst ep;obtain⟨rs,c,rk⟩:=Zfs (P:=X.prog) (w:=X.w) am;obtain⟨z,hd,j4,r0,dd⟩:=Zpw I2.hok e;cases r0;refine⟨rs,c,dd,λh' eM hs=>⟨.ref s.heap.objs.size,_,?_,rfl,q2⟩⟩;have hz:(ZdH [] kvs).length<=sizeLine:=by have R:=ZcI kvs [];rw[List.length_nil]at R;rw[YA];lia
 have he:∃q,h'.get? s.heap.objs.size=J q:=let⟨q,_,_,hq,_⟩:=eM;⟨q,hq⟩;exact Zj8 I2 (by rw[e];exact True.intro) hs he (ZmK hz hd (rk.merge .nil) eM)
set_option tactic.hygienic true
theorem Zb6{env:Env}:∀(names:List (Str×NameKind)) (x:Str),
 (names.map λ(n,k)=>if (k==Yn&&env.scope.kind==.function&&env.kindOf n==J .cell)then(n,NameKind.cell)else(n,k)).lookup x =
  (names.lookup x).map λk=>if (k==Yn&&env.scope.kind==.function&&env.kindOf x==J .cell)then NameKind.cell else k
 |[],_=>rfl
 |(n,k)::r,x=>by
  have ih:=@Zb6 env r x;show Wf x ((if (k==Yn&&env.scope.kind==.function&&env.kindOf n==J .cell)=Wr then(n,NameKind.cell)else(n,k))::_)=_;cases hx:x==n with
  |true=>
   have e:x=n:=by simpa using hx
   subst e;by_cases hc:(k==Yn&&env.scope.kind==.function&&env.kindOf x==J .cell)=Wr
   . rw[if_pos hc];simp only[OF,hx,Yt,if_pos hc]
   . rw[if_neg hc];simp only[OF,hx,Yt,if_neg hc]
  |false=>
   by_cases hc:(k==Yn&&env.scope.kind==.function&&env.kindOf n==J .cell)=Wr
   . rw[if_pos hc];simp only[OF,hx];exact ih
   . rw[if_neg hc];simp only[OF,hx];exact ih
noncomputable def ZdQ(env:Env):List (Str×NameKind)->List (Str×Yi)->List (Str×Yi)
 |[],cs=>cs
 |(n,k)::r,cs=>ZdQ env r (if (k==.free)=Wr then(n,(env.cells.lookup n).getD 0)::cs else cs)
theorem Zh6{env:Env}:∀(l:List (Str×NameKind)) (cs:List (Str×Yi)),(∀y∈l,y.2=.free->∃c,env.cells.lookup y.1=J c) ->
 (∀x c,(x,c)∈cs->env.cells.lookup x=J c)->∀x c,(x,c)∈ZdQ env l cs->env.cells.lookup x=J c
 |[],cs,_,h2,x,c,hm=>h2 x c hm
 |(n,k)::r,cs,R,h2,x,c,hm=>by
  refine Zh6 r _ (λy hy=>R y (Oh _ hy)) (λx c hm=>?_) x c hm;by_cases hk:(k==Yn)=Wr
  . rw[if_pos hk]at hm;rcases O2.mp hm with e|hm
    . cases e;have gc:k=.free:=by cases k<;>first|rfl|(exact absurd hk (by decide))
      obtain⟨c,e⟩:=R (n,k) Oi gc;rw[e];rfl
    . exact h2 x c hm
  . rw[if_neg hk]at hm;exact h2 x c hm
theorem Zgl:∀(l:List (Str×NameKind)) (cs:List (Str×Yi)) (p:Str×Yi),p∈cs->p∈ZdQ env l cs
 |[],_,_,h=>h
 |(n,k)::r,cs,p,h=>by
  refine Zgl r _ p ?_;by_cases hk:(k==Yn)=Wr
  . rw[if_pos hk];exact Oh _ h
  . rw[if_neg hk];exact h
theorem Zh7:∀(l:List (Str×NameKind)) (cs:List (Str×Yi)) (y:Str×NameKind),y∈l->y.2=.free->∃c,(y.1,c)∈ZdQ env l cs
 |(n,k)::r,cs,y,h,hf=>by
  rcases O2.mp h with e|h
  . subst e;refine⟨(env.cells.lookup n).getD 0,Zgl r _ _ ?_⟩;have hk:(k==Yn)=Wr:=by have:k=.free:=hf;subst this;rfl
    rw[if_pos hk];exact Oi
  . exact Zh7 r _ y h hf
theorem ZcH:∀{l:List (Str×α)}{x:Str}{c:α},(x,c)∈l->∃c',l.lookup x=J c'/\(x,c')∈l
 |(n,d)::r,x,c,h=>by
  cases hx:x==n with
  |true=>
   have e:x=n:=by simpa using hx
   subst e;exact⟨d,by simp[OF],Oi⟩
  |false=>
   rcases O2.mp h with e|h
   . cases e;simp at hx
   . obtain⟨c',R,h2⟩:=ZcH h;exact⟨c',by simp only[OF,hx];exact R,Oh _ h2⟩
def ZfP(h:∀y∈scope.names,y.2=.free->∃c,env.cells.lookup y.1=J c):closureFor scope env=pure (ZdQ env scope.names []):=by
 have all:∀(l:List (Str×NameKind)) (cs:List (Str×Yi)),(∀y∈l,y.2=.free->∃c,env.cells.lookup y.1=J c) ->
  (forIn l cs λ(x:Str×NameKind) r=>match x with|(name,kind)=>if (kind==Yn)=Wr then(do let a <- cellOf env name;pure (ForInStep.yield ((name,a)::r)))else pure (ForInStep.yield r):Sem (List (Str×Yi)))=pure (ZdQ env l cs):=by
  intro l;induction l with
  |nil=>intro cs _;rfl
  |cons y r ih=>
   intro cs hl;obtain⟨n,k⟩:=y;rw[List.forIn_cons];have hr:=λcs=>ih cs λy hy=>hl y (Oh _ hy);by_cases hk:(k==Yn)=Wr
   . have gc:k=.free:=by cases k<;>first|rfl|(exact absurd hk (by decide))
     obtain⟨c,e⟩:=hl (n,k) Oi gc;have ec:cellOf env n=pure c:=by unfold cellOf;rw[e]
     simp only[hk,if_true,ec];show(forIn r ((n,c)::cs) _:Sem _)=_;rw[hr];show _=pure (ZdQ env r (if (k==Yn)=Wr then(n,(env.cells.lookup n).getD 0)::cs else cs));rw[if_pos hk,e];rfl
   . simp only[hk];show(forIn r cs _:Sem _)=_;rw[hr];show _=pure (ZdQ env r (if (k==Yn)=Wr then(n,(env.cells.lookup n).getD 0)::cs else cs));rw[if_neg hk]
 unfold closureFor;have z:=all scope.names [] h;dsimp only at z ⊢;rw[z];rfl
set_option tactic.hygienic false
def Zh5(I:Nat->Yb->Prop)
 (turn:∀n s,I n s->Yz (model prog w) A (pyNext it) (λr s₁=>match r with
  |none=>kz (.ok .next) s₁
  |some v=>Yz (model prog w) A (letOwnedTupleGo target it v) (λ_ s₁'=>Yz (model prog w) A (assign target env v) (λ_ s₂=>
   Yz (model prog w) A (forIn aY Wr λc r=>if r=Wr then do let ok <- isTrue c env (eval c env);pure (ForInStep.yield ok)else pure (ForInStep.yield r)) (λok s₃=>
    if ok=Wr then Yz (model prog w) A (eval aG env) (λx s₄=>Yz (model prog w) A (call (.builtin "list.append") [ag,x]) (λ_ s₅=>∃m,m<n/\I m s₅) (notedBy (model prog w) A env λe s'=>kz (.error e) s') s₄) (notedBy (model prog w) A env λe s'=>kz (.error e) s') s₃
    else ∃m,m<n/\I m s₃) (notedBy (model prog w) A env λe s'=>kz (.error e) s') s₂) (notedBy (model prog w) A env λe s'=>kz (.error e) s') s₁') (notedBy (model prog w) A env λe s'=>kz (.error e) s') s₁) (notedBy (model prog w) A env λe s'=>kz (.error e) s') s)
 (n:Nat) (h:I n s) :
 codeAny (model prog w) A (.compLoop (.ListComp aG [⟨target,iter,aY,0⟩] scope pos) 0 it ag env) kz s:=by
 refine codeAny_loop rfl I (λn s hI=>?_) n h;show Yz _ A ((compTurn (.ListComp aG [⟨target,iter,aY,0⟩] scope pos) 0 it ag env).onRaise (λx=>do noteFrame x env;theTreesLotGoes x)) _ _ s;refine wpAny_noted ?_;rw[compTurn_list];refine Ya (wpAny_standAt (Ya (Yf (turn n s hI) (λr s₁ h₁=>?_) λ_ _ h'=>h')));cases r with
 |none=>exact Yc h₁
 |some v=>
  refine Ya (Yf h₁ (λ_ s₁' h₁'=>?_) λ_ _ h'=>h');refine Ya (Yf h₁' (λ_ s₂ h₂=>Ya (Yf h₂ (λok s₃ h₃=>?_) λ_ _ h'=>h')) λ_ _ h'=>h');cases ok with
  |false=>exact Yc ⟨rfl,h₃⟩
  |true=>exact Ya (Ya (Yf h₃ (λx s₄ h₄=>Ya (Yf h₄ (λ_ s₅ h₅=>Yc (Yc ⟨rfl,h₅⟩)) λ_ _ h'=>h')) λ_ _ h'=>h'))
structure CompSc(NC N:List Str)(js:List (Option Nat))(sc scope:Scope):Prop where
 kind:scope.kind=.function
 dkind:sc.kind=.function
 nocell:∀y∈scope.names,y.2≠.cell
 locs:∀y∈scope.names,y.2=.local->scope.names.lookup y.1=J .local
 free:∀y∈scope.names,y.2=.free->sc.names.lookup y.1=J .cell
 nd:NC.Nodup
 len:js.length=NC.length
 jok:((NC.zip js).all λp=>p.2.all λj=>Wt (N[j]?=J p.1)&&Wt (scope.names.lookup p.1=J .free))=Wr
theorem CompSc.at{NC N:List Str}{js:List (Option Nat)}(S_:CompSc NC N js sc scope){i j:Nat}{x:Str}(R:NC[i]?=J x)(h2:js[i]?=J (J j)):N[j]?=J x/\scope.names.lookup x=J .free:=by
 have h:=S_.jok;rw[OC]at h;have hm:(x,J j)∈NC.zip js:=by refine O1 (i:=i) ?_;rw[List.getElem?_zip_eq_some];exact⟨R,h2⟩
 have q:=h _ hm;simp only[Option.all_some,Oa,decide_eq_true_eq]at q;exact q
def capt(js:List (Option Nat))(Z:St):St:=js.map λo=>o.bind λj=>(Z[j]?).join
def Zx(X:Cx)(NC:List Str)(scope:Scope)(C:Yi)(s3:Yb)(H3:Hp)(fp:List Yi):Cx:={X with N:=NC,s₀:=s3,H₀:=H3,env:=compEnvC scope (ZdQ X.env scope.names []) C X.env,outer:=X.stack,stack:=X.stack,ex:=fp,fn:=λ_=>Ws,calm:=true,pn:=[],xe:=λ_ _=>False}
def Zjg(k:Nat)(g:TG):Prop:=∀x Z H Q,g x Z H Q->g x Z H λσ2 H2=>Q σ2 H2/\σ2.length=Z.length/\∀j,k<=j->σ2[j]?=Z[j]?
def Zio(k:Nat)(g:TGs):Prop:=∀x Z H Q,g x Z H Q->g x Z H λσ2 H2=>Q σ2 H2/\σ2.length=Z.length/\∀j,k<=j->σ2[j]?=Z[j]?
def Znj(h:i<k):Zjg k (ZbQ i):=λx Z H Q q=>⟨q,List.length_set,λj hj=>by rw[Oc (by lia)]⟩
def Zjn:Zio k Zoy:=λx Z H Q q=>⟨q.1,q.2,rfl,λ_ _=>rfl⟩
def ZeK(h:i<k)(hu:Zio k u):Zio k (ZhW (ZbQ i) u):=by
 rintro xs Z H Q ⟨v,r,e,q⟩;refine⟨v,r,e,?_⟩;have z:=hu r (Z.set i (J v)) H Q q;have z2:=hu r (Z.set i (J v)) H (λσ2 H2=>Q σ2 H2/\σ2.length=(Z.set i (J v)).length/\∀j,k<=j->σ2[j]?=(Z.set i (J v))[j]?) z;show u r (Z.set i (J v)) H _;have e1:(Z.set i (J v)).length=Z.length:=List.length_set;have e2:∀j,k<=j->(Z.set i (J v))[j]?=Z[j]? := λj hj=>Oc (by lia);have e3:(λσ2 H2=>Q σ2 H2/\σ2.length=Z.length/\∀j,k<=j->σ2[j]?=Z[j]?)=(λσ2 H2=>Q σ2 H2/\σ2.length=(Z.set i (J v)).length/\∀j,k<=j->σ2[j]?=(Z.set i (J v))[j]?):=by funext σ2 H2;rw[e1];refine propext ⟨λ⟨a,b,c⟩=>⟨a,b,λj hj=>(c j hj).trans (e2 j hj).symm⟩,λ⟨a,b,c⟩=>⟨a,b,λj hj=>(c j hj).trans (e2 j hj)⟩⟩
 rw[e3];exact z
def Zlu{K:Yk}(hu:Zio k u):Zjg k (Zox K n u):=by rintro x Z H Q ⟨a,xs,e,R,h2,q⟩;exact⟨a,xs,e,R,h2,hu xs Z H Q q⟩
def PIf(X:Cx)(aY:List Expr)(t:TT):Prop:=
 ∀(aa:List (Yi×Obj)) (s:Yb) (Z:St) (H:Hp) (Q:Bool->Hp->Prop),Inv X aa Z H s->t Z H Q ->
  Yz (model X.prog X.w) X.A (forIn aY Wr λc r=>if r=Wr then do let ok <- isTrue c X.env (eval c X.env);pure (ForInStep.yield ok)else pure (ForInStep.yield r)) (TP X aa Z Q) X.xe s
noncomputable def ZtA:TT:=λ_ H Q=>Q Wr H
def ZnL{X:Cx}:PIf X [] ZtA:=λ_ _ _ H _ I h=>wpAny_tests_nil ⟨H,I,h⟩
def ZnK{X:Cx}{c:Expr}{t:TT}(hc:PT X c t):PIf X [c] t:=λaa s Z H Q I h=>wpAny_tests_one (hc aa s Z H Q I h)
def Zlx(wi:TI)(js:List (Option Nat))(g:TG)(tc:TT)(te:TE):TE:=λZ H Q=>wi Z H λku H1=>∀D,H1 D=M->∃W:Nat->Nat->List V->Hp->Prop,(∃m,W 0 m [] (upd H1 D (.lst []))) /\
 ∀i m ys H,W i m ys H->H D=J (.lst ys)->(ku.stop i H/\Q (.ref D) H) \/
  (ku.go i H/\ys.length<sizeLine/\∀x H',ku.yld i H x H'->g x (capt js Z) H' λσ2 H2=>tc σ2 H2 λb H3=>
   if b=Wr then te σ2 H3 λy H4=>H4 D=J (.lst ys)/\∃m',m'<m/\W (i+1) m' (ys++[y]) (upd H4 D (.lst (ys++[y])))
   else H3 D=J (.lst ys)/\∃m',m'<m/\W (i+1) m' ys H3)
section
variable {X:Cx}{aa:List (Yi×Obj)}{Z:St}{H:Hp}{s:Yb}
def Zmy{NC:List Str}{js:List (Option Nat)}{sc scope:Scope}{C:Yi}{h4:YF}{tk:Nat}{fp:List Yi}{m:Str->Option Yj}(S_:CompSc NC X.N js sc scope)(bj:X.env.scope=sc)(hc:X.calm=Wr)
 (I:Inv X aa Z H s) (f:∀b∈fp,Zcr X aa H b) (fo:∀b∈fp,∃o,s.heap.get? b=J o) (hC:C=s.heap.objs.size) (cj:h4.Ns C m) (hk:∀b o,s.heap.get? b=J o->h4.get? b=J o) :
 Inv (Zx X NC scope C s H fp) [] (capt js Z) H {s with heap:=h4,toks:=tk}:=by
 have bf:∀y∈scope.names,y.2=.free->∃c,X.env.cells.lookup y.1=J c:=λy hy hf=>I.ok.has y.1 (.inl (show X.env.scope.names.lookup y.1=J .cell by rw[bj];exact S_.free y hy hf));have dD:∀x c,(ZdQ X.env scope.names []).lookup x=J c->X.env.cells.lookup x=J c:=λx c e=>Zh6 scope.names [] bf (λ_ _ z=>by cases z) x c (YH e);have ie:∀y∈scope.names,y.2=.free->∃c,(ZdQ X.env scope.names []).lookup y.1=J c:=λy hy hf=>by obtain⟨c,hm⟩:=Zh7 (env:=X.env) scope.names [] y hy hf;obtain⟨c',e,_⟩:=ZcH hm;exact⟨c',e⟩
 have kinds:∀x,(Zx X NC scope C s H fp).env.kindOf x=(scope.names.lookup x).map λk=>if (k==Yn&&X.env.scope.kind==.function&&X.env.kindOf x==J .cell)then NameKind.cell else k:=λx=>Zb6 scope.names x;have eK:∀x,scope.names.lookup x=J .free->(Zx X NC scope C s H fp).env.kindOf x=J .cell:=λx e=>by
  rw[kinds,e];have R:X.env.kindOf x=J .cell:=show X.env.scope.names.lookup x=J .cell by rw[bj];exact S_.free (x,.free) (YH e) rfl
  have h2:X.env.scope.kind=.function:=I.ok.kind;simp only[Yt,R,h2];rfl
 have flt:∀b∈fp,b<s.heap.objs.size:=λb hb=>let⟨o,e⟩:=fo b hb;Ym e;refine⟨⟨I.ok.mod,S_.kind,I.ok.glob,I.ok.blt,Nat.le_of_eq hC.symm,λx y c R h2=>I.ok.inj x y c (dD x c R) (dD y c h2),λx hx=>?_,λx c hf _=>absurd (show Ws=Wr from hf) Ow,λ_=>I.ok.hd hc,I.ok.frames,.inl rfl,λb hb=>⟨?_,λx c e=>(f b hb).2.2.2.2.1 x c (dD x c e)⟩,
  I.bs,OE I.ok.bsz I.sz,λb o e hb=>?_,λb hb hm=>?_,I.stack,I.stkFree⟩,
  rfl,I.bare,Un.kept hk,⟨m,cj,λi x v R h2 h3=>?_⟩,λx c e=>?_,?_,λx c e=>I.freeC x c (dD x c e),λp hp=>absurd (show p∈([]:List (Yi×Obj))from hp) (by simp),I.hok.kept hk,?_⟩
 . rw[kinds]at hx;cases e:scope.names.lookup x with
   |none=>rw[e]at hx;rcases hx with hx|hx<;>cases hx
   |some k=>
    rw[e]at hx;have hm:=YH e;have hk:k=.free:=by
     by_cases hf:(k==Yn)=Wr
     . cases k<;>first|rfl|(exact absurd hf (by decide))
     . have jA:(k==Yn)=Ws:=Bool.eq_false_iff.mpr hf;simp only[Yt,jA,Bool.false_and,OG,if_false]at hx;rcases hx with hx|hx
       . exact absurd (YE hx) (S_.nocell _ hm)
       . exact YE hx
    exact ie (x,k) hm hk
 . show b≠C;rw[hC];exact Ou (flt b hb)
 . obtain⟨_,_,_,f3,_⟩:=f b hb;rcases f3 with z|z
   . exact I.ok.noex b o e z
   . exact absurd (Ot (Ym e) (OE I.ok.bsz z)) (Yu _)
 . obtain⟨_,f1,f2,_⟩:=f b hb;exact(O2.mp (I.stkSub b hm)).elim f1 f2
 . have hj:∃j,js[i]?=J (J j)/\Z[j]?=J (J v):=by
    unfold capt at h2;rw[On]at h2;cases e:js[i]? with
    |none=>rw[e]at h2;cases h2
    |some o=>
     rw[e]at h2;have hX:(o.bind λj=>(Z[j]?).join)=J v:=YE h2;cases o with
     |none=>cases hX
     |some j=>
      refine⟨j,rfl,?_⟩;have fj:(Z[j]?).join=J v:=hX;cases q:Z[j]? with
      |none=>rw[q]at fj;cases fj
      |some r=>rw[q]at fj;rw[show r=J v from fj]
   obtain⟨j,hj,hσ⟩:=hj;obtain⟨hN,cX⟩:=S_.at (show NC[i]?=J x from R) hj;have aQ:X.env.scope.names.lookup x=J .cell:=by rw[bj];exact S_.free (x,.free) (YH cX) rfl
   obtain⟨m0,_,hl⟩:=I.loc;obtain⟨u,r,l⟩:=hl j x v hN hσ (.inr (.inl aQ));refine⟨u,r,?_⟩;rcases l with⟨k,_⟩|⟨_,c,e,z⟩
   . rw[show X.env.kindOf x=J .cell from aQ]at k;cases k
   . obtain⟨c',e'⟩:=ie (x,.free) (YH cX) rfl;have ec:=dD x c' e';rw[e]at ec;cases ec;obtain⟨o,ho,hd⟩:=z;exact .inr ⟨.inl (eK x cX),c,e',o,hk _ _ ho,hd⟩
 . obtain⟨v,o,ho,hd⟩:=I.cell x c (dD x c e);exact⟨v,o,hk _ _ ho,hd⟩
 . show H C=M;rw[hC];exact I.hok.fresh (Oq _)
 . unfold capt;rw[Ys];exact S_.len
end
section
variable {X:Cx}{aG tg iter:Expr}{aY:List Expr}{scope sc:Scope}{pos:Pos}{NC:List Str}{js:List (Option Nat)}{k:Nat}{wi:TI}{g:TG}{tc:TT}{te:TE}
def Inv.comp_out{aa:List (Yi×Obj)}{Z σ':St}{H3 H':Hp}{s3 s1:Yb}{C:Yi}{fp:List Yi}{h'':YF}(I3:Inv X aa Z H3 s3)(f:∀b∈fp,Zcr X aa H3 b)(hC:C=s3.heap.objs.size)
 (I':Inv (Zx X NC scope C s3 H3 fp) [] σ' H' s1) (hs:Heap.SameBut C s1.heap h''):Inv X aa Z H' {s1 with heap:=h''}:=by
 have ne:∀b o,s3.heap.get? b=J o->b≠C:=λb o e=>by rw[hC];exact Ou (Ym e)
 have u:=I'.base;refine I3.call' (s':={s1 with heap:=h''}) (ch:=fp) I'.os ⟨λb o e n hb hx=>(hs.2 b (ne b o e)).trans (u.keep b o e n hb hx),λb o e n hb hx=>?_,u.free,λb o e hx=>?_,u.tups,u.frzs,u.tbls⟩ ?_ I'.bare λb hb=>?_
 . obtain⟨sl,q⟩:=u.slot b o e n hb hx;exact⟨sl,(hs.2 b (ne b o e)).trans q⟩
 . obtain⟨o',q⟩:=u.there b o e hx;exact⟨o',(hs.2 b (ne b o e)).trans q⟩
 . have ba:H' C=M:=I'.free;intro b ob e;refine(I'.hok b ob e).stay (λc w' hc q=>(hs.2 c ?_).trans q) (λ_ q=>q) λ_ _ q=>q;rintro rfl;rcases hc with rfl|hc
   . rw[ba]at e;cases e
   . rw[ba]at hc;cases hc
 . obtain⟨_,f1,_,f3,f4,f5⟩:=f b hb;exact⟨f3,f1,f4,f5⟩
def Zk8{aa:List (Yi×Obj)}{Z:St}{H3:Hp}{s3 s4:Yb}{C Dd it:Yi}{fp:List Yi}{tn:Nat->YF->Prop}{ku:It}{W:Nat->Nat->List V->Hp->Prop}{Q:VK}{m0:Nat}{post:Result->Yb->Prop}
 (hb:∀(C:Yi) (s3:Yb) (H3:Hp) (fp:List Yi),PG (Zx X NC scope C s3 H3 fp) tg g/\PIf (Zx X NC scope C s3 H3 fp) aY tc/\PE (Zx X NC scope C s3 H3 fp) aG te)
 (hk:Zjg k g) (cV:∀j,j<k->js[j]?=J M) (hC:C=s3.heap.objs.size) (f3:∀b∈fp,Zcr X aa H3 b) (fq:∀b∈fp,∃o,s3.heap.get? b=J o) (I4:Inv (Zx X NC scope C s3 H3 fp) [] (capt js Z) H3 s4) (T:Turn X.prog X.w X.K tg ku fp it tn) (eT:tn 0 s4.heap) (jO:H3 Dd=J (.lst [])) (w0:W 0 m0 [] H3)
 (turn:∀i m ys H,W i m ys H->H Dd=J (.lst ys)->(ku.stop i H/\Q (.ref Dd) H)\/(ku.go i H/\ys.length<sizeLine/\∀x H',ku.yld i H x H'->g x (capt js Z) H' λσ2 H2=>tc σ2 H2 λb H3=>if b=Wr then te σ2 H3 λy H4=>H4 Dd=J (.lst ys)/\∃m',m'<m/\W (i+1) m' (ys++[y]) (upd H4 Dd (.lst (ys++[y])))else H3 Dd=J (.lst ys)/\∃m',m'<m/\W (i+1) m' ys H3))
 (fF:∀s6 H5,Inv (Zx X NC scope C s3 H3 fp) [] (capt js Z) H5 s6->Q (.ref Dd) H5->post (.ok .next) s6) :
 codeAny (model X.prog X.w) X.A (.compLoop (.ListComp aG [⟨tg,iter,aY,0⟩] scope pos) 0 (.ref it) (.ref Dd) (compEnvC scope (ZdQ X.env scope.names []) C X.env)) post s4:=by
 have be:∀{H':Hp},(∀b∈fp,H' b=M)->∀b∈fp,Zcr (Zx X NC scope C s3 H3 fp) [] H' b:=λhn b hb=>⟨hn b hb,(by rw[hC];exact Ou (let⟨o,e⟩:=fq b hb;Ym e)),λhm=>I4.ok.exfs b hb hm,.inl hb,λx c e=>(I4.ok.exf b hb).2 x c e,λp hp=>absurd (show p∈([]:List (Yi×Obj))from hp) (by simp)⟩
 refine Zh5 (λn s'=>∃i ys H',Inv (Zx X NC scope C s3 H3 fp) [] (capt js Z) H' s'/\tn i s'.heap/\(∀b∈fp,H' b=M)/\H' Dd=J (.lst ys)/\W i n ys H') ?_ m0
  ⟨0,[],_,I4,eT,λb hb=>(f3 b hb).1,jO,w0⟩
 rintro n s5 ⟨i,ys,H5,I5,du,fm,jN,w5⟩;rcases turn i n ys H5 w5 jN with⟨stop,qn⟩|⟨go,ao,step⟩
 . refine Yf (T.done (Zx X NC scope C s3 H3 fp) rfl rfl rfl rfl i [] s5 (capt js Z) H5 (λ_ _=>False) I5 (be fm) du stop) (λr s6 ⟨hr,I6⟩=>?_) λ_ _ z=>z.elim;subst hr;exact fF s6 H5 I6 qn
 . refine Yf (T.item (Zx X NC scope C s3 H3 fp) rfl rfl rfl rfl i [] s5 (capt js Z) H5 (λ_ _=>False) I5 (be fm) du go) (λr s6 ⟨u,hr,h6⟩=>?_) λ_ _ z=>z.elim;subst hr;refine Yf h6 (λ_ s7 ⟨x,H7,I7,r7,y7,fG,jQ⟩=>?_) λ_ _ z=>z.elim;have jY:=I7.pinned (be jQ) (T.obj _ _ fG);obtain⟨pg,iF,pe⟩:=hb C s3 H3 fp;refine Yf (pg _ s7 (capt js Z) H7 x u _ jY r7 (hk _ _ _ _ (step x H7 y7))) (λ_ s8 ⟨σ8,H8,I8,q8,l8,k8⟩=>?_) λ_ _ z=>z.elim;have back:∀{H9:Hp}{s9:Yb},Inv (Zx X NC scope C s3 H3 fp) ([]++ZeX fp s7.heap) σ8 H9 s9 ->
    Inv (Zx X NC scope C s3 H3 fp) [] (capt js Z) H9 s9/\tn (i+1) s9.heap/\∀b∈fp,H9 b=M:=λ{H9 s9} I9=>by
    refine⟨(I9.unpinned).weak l8.symm λj v e=>?_,T.keep _ _ _ fG λb hb o e=>(I9.pin (b,o) (Ov _ (Ov _ (ZbE hb e)))).1,λb hb=>?_⟩
    . by_cases hj:j<k
      . unfold capt at e;rw[On,cV j hj]at e;cases e
      . rw[k8 j (Nat.le_of_not_lt hj)];exact e
    . obtain⟨o,e,d⟩:=T.obj _ _ fG b hb;exact(I9.pin (b,o) (Ov _ (Ov _ (ZbE hb e)))).2.1
   refine Yf (iF _ s8 σ8 H8 _ I8 q8) (λok s9 ⟨H9,I9,q9⟩=>?_) λ_ _ z=>z.elim;cases ok with
   |false=>rw[if_neg Ow]at q9 ⊢;obtain⟨jM,m',hm,w9⟩:=q9;obtain⟨b1,b2,b3⟩:=back I9;exact⟨m',hm,i+1,ys,H9,b1,b2,b3,jM,w9⟩
   |true=>
    rw[if_pos rfl]at q9 ⊢;refine Yf (pe _ s9 σ8 H9 _ I9 q9) (λy iz ⟨v,ij,j1,iD,gu,m',hm,ir⟩=>?_) λ_ _ z=>z.elim;refine Yf (Zgb (X:=Zx X NC scope C s3 H3 fp) _ iz σ8 ij (.ref Dd) [v] (.ref Dd) [y]
     (λ_ ii=>ii=upd ij Dd (.lst (ys++[v]))) j1 rfl (.cons iD .nil) ⟨_,ys,v,rfl,rfl,gu,ao,rfl⟩) (λ_ j5 ⟨_,ii,j0,_,jS⟩=>?_) λ_ _ z=>z.elim
    subst jS;obtain⟨b1,b2,b3⟩:=back j0;exact⟨m',hm,i+1,ys++[v],_,b1,b2,b3,Zi,ir⟩
def Zh4{U:Option (Yj->Sem Unit)}{Q0:Yj->Yb->Prop}{Q:VK}{aa:List (Yi×Obj)}{Z:St}{H:Hp}{s:Yb}(S_:CompSc NC X.N js sc scope)(bj:X.env.scope=sc)(hc:X.calm=Wr)(hi:PI X tg iter wi)
 (hb:∀(C:Yi) (s3:Yb) (H3:Hp) (fp:List Yi),PG (Zx X NC scope C s3 H3 fp) tg g/\PIf (Zx X NC scope C s3 H3 fp) aY tc/\PE (Zx X NC scope C s3 H3 fp) aG te)
 (hk:Zjg k g) (cV:∀j,j<k->js[j]?=J M) (hs:∀x,foldedSetIterable iter X.env x=pure x) (I:Inv X aa Z H s) (h:Zlx wi js g tc te Z H Q)
 (fF:∀C Dd (s3 s6:Yb) H3 H5 fp,C=s3.heap.objs.size->Inv X aa Z H3 s3->(∀b∈fp,Zcr X aa H3 b)->Inv (Zx X NC scope C s3 H3 fp) [] (capt js Z) H5 s6->Q (.ref Dd) H5->compPost (model X.prog X.w) X.A X.xe U Q0 (.ref Dd) C (.ok .next) s6) :
 Yz (model X.prog X.w) X.A (comprehension (.ListComp aG [⟨tg,iter,aY,0⟩] scope pos) scope X.env posn (newList []) Ws (eval iter X.env) U) Q0 X.xe s:=by
 have bf:∀y∈scope.names,y.2=.free->∃c,X.env.cells.lookup y.1=J c:=λy hy hf=>I.ok.has y.1 (.inl (show X.env.scope.names.lookup y.1=J .cell by rw[bj];exact S_.free y hy hf));refine wpAny_comprehension_free rfl hs (ZfP bf) S_.kind S_.locs (thn (hi aa s Z H _ I h) λxv s1 R=>thn R λfO s2 h2=>?_);obtain⟨it,fp,tn,ku,H2,e,I2,T,b9,f2,ac⟩:=h2;subst e;have hD:H2 s2.heap.objs.size=M:=I2.hok.fresh (Oq _);obtain⟨W,⟨m0,w0⟩,turn⟩:=ac s2.heap.objs.size hD;refine Yq (wpAny_newFunctionEnv S_.nocell (by intro y hy;simp at hy) (λh4 cj fW=>?_) S_.kind);have I3:Inv X aa Z (upd H2 s2.heap.objs.size (.lst [])) {s2 with heap:=s2.heap.push {cls:=.type "list",dict:=M,data:=.seq ([]:List Yj).toArray}}:=I2.lnew (t':=s2.toks) (ys:=[]) (its:=[]) .nil (Yv _);dsimp only at cj fW ⊢;generalize hs3:({s2 with heap:=s2.heap.push {cls:=.type "list",dict:=M,data:=.seq ([]:List Yj).toArray}}:Yb)=s3 at I3;have eh:s2.heap.push {cls:=.type "list",dict:=M,data:=.seq ([]:List Yj).toArray}=s3.heap:=by rw[<-hs3]
 have eD:s2.heap.objs.size<s3.heap.objs.size:=by rw[<-eh,Heap.size_push];exact OH _
 rw[eh]at cj fW;have keep:∀b o,s3.heap.get? b=J o->h4.get? b=J o:=λb o e=>(fW.2 b (Ou (Ym e))).trans (Od _ e);have fq:∀b∈fp,∃o,s3.heap.get? b=J o:=λb hb=>by obtain⟨o,e,_⟩:=T.obj 0 _ b9 b hb;exact⟨o,by rw[<-eh];exact Od _ e⟩
 have iN:∀b∈fp,b≠s2.heap.objs.size:=λb hb=>by obtain⟨o,e,_⟩:=T.obj 0 _ b9 b hb;exact Ou (Ym e)
 have f3:∀b∈fp,Zcr X aa (upd H2 s2.heap.objs.size (.lst [])) b:=λb hb=>⟨by rw[Zq (iN b hb)];exact(f2 b hb).1,(f2 b hb).2⟩
 have I4:=Zmy (tk:=s2.toks+([]:List (Str×Yj)).length) S_ bj hc I3 f3 fq rfl cj keep;have eT:tn 0 h4:=T.keep 0 _ _ b9 λb hb o e=>keep b o (by rw[<-eh];exact Od _ e);have eC:(s2.heap.push {cls:=.type "list",dict:=M,data:=.seq ([]:List Yj).toArray}).objs.size=s3.heap.objs.size:=by rw[eh]
 have loop:∀s4:Yb,s4={s3 with heap:=h4,toks:=s2.toks+([]:List (Str×Yj)).length} ->
  codeAny (model X.prog X.w) X.A (.compLoop (.ListComp aG [⟨tg,iter,aY,0⟩] scope pos) 0 (.ref it) (.ref s2.heap.objs.size) (compEnvC scope (ZdQ X.env scope.names []) s3.heap.objs.size X.env))
   (compPost (model X.prog X.w) X.A X.xe U Q0 (.ref s2.heap.objs.size) s3.heap.objs.size) s4:=by
  rintro s4 rfl;exact Zk8 hb hk cV rfl f3 fq I4 T eT Zi w0 turn λs6 H5 I6 qn=>fF _ _ s3 s6 _ H5 fp rfl I3 f3 I6 qn
 have e4:({s2 with heap:=h4,toks:=s2.toks+([]:List (Str×Yj)).length}:Yb)={s3 with heap:=h4,toks:=s2.toks+([]:List (Str×Yj)).length}:=by rw[<-hs3]
 rw[eC];exact codeAny_compStart_list (loop _ e4) (T.self X.A 0 _ _ _ eT (loop _ e4))
def ZnT(S_:CompSc NC X.N js sc scope)(bj:X.env.scope=sc)(hc:X.calm=Wr)(hi:PI X tg iter wi)
 (hb:∀(C:Yi) (s3:Yb) (H3:Hp) (fp:List Yi),PG (Zx X NC scope C s3 H3 fp) tg g/\PIf (Zx X NC scope C s3 H3 fp) aY tc/\PE (Zx X NC scope C s3 H3 fp) aG te)
 (hk:Zjg k g) (cV:∀j,j<k->js[j]?=J M) (hs:∀x,foldedSetIterable iter X.env x=pure x:=by intro _;rfl) :
 PE X (.ListComp aG [⟨tg,iter,aY,0⟩] scope pos) (Zlx wi js g tc te):=λaa s Z H Q I h=>Zh4 S_ bj hc hi hb hk cV hs I h λC Dd s3 s6 H3 H5 fp hC I3 f3 I6 qn=>by obtain⟨m,hm,_⟩:=I6.loc;exact⟨m,hm,λh' dz=>⟨.ref Dd,H5,I3.comp_out f3 hC I6 dz,rfl,qn⟩⟩
end
set_option tactic.hygienic true
section
variable {X:Cx}
def TyN(K:Yk)(x:V)(H:Hp)(t:String):Prop:=match x with
 |.int _=>t="int"
 |.str _=>t="str"
 |.bl _=>t="bool"
 |.non=>t="NoneType"
 |.ref p=>(t="list" /\ ∃xs,SqL K H p xs)\/(t="tuple" /\ ∃xs,SqT K H p xs)
 |_=>False
def ZmP:Zag X (.builtin "isinstance") (λxs H Q=>∃x t T b,xs=[x,.ty T]/\TyN X.K x H t/\PySem.W.kitOne X.K (.type t) (.type T)=J b/\Q (.bl b) H):=by
 intro aa s Z H xs us Q I r h;obtain⟨x,t,T,b,rfl,ty,e,q⟩:=h;obtain⟨u,w',rfl,rx,rT⟩:=vals2 r;obtain rfl:w'=Value.type T:=rT;have fin:∀tk,EP X aa Z Q (.bool b) {s with toks:=tk}:=λtk=>⟨.bl b,H,I.tok tk,rfl,q⟩
 cases x with
 |int i=>obtain⟨tk,rfl⟩:=rx;obtain rfl:t="int" := ty;exact PySem.W.kia_one PySem.W.kitx_int I.kIn trivial e (by intro z;cases z) fin
 |str i=>obtain⟨tk,rfl⟩:=rx;obtain rfl:t="str" := ty;exact PySem.W.kia_one PySem.W.kitx_str I.kIn trivial e (by intro z;cases z) fin
 |bl i=>obtain rfl:u=Value.bool i:=rx;obtain rfl:t="bool" := ty;exact PySem.W.kia_one PySem.W.kitx_bool I.kIn trivial e (by intro z;cases z) fin
 |non=>obtain rfl:u=Value.none:=rx;obtain rfl:t="NoneType" := ty;exact PySem.W.kia_one PySem.W.kitx_none I.kIn trivial e (by intro z;cases z) fin
 |ref p=>
  obtain rfl:u=YB p:=rx;rcases ty with⟨rfl,xs,hx⟩|⟨rfl,xs,hx⟩
  . obtain⟨its,_,pl,_⟩:=I.list hx;exact PySem.W.kia_one PySem.W.kitx_list I.kIn pl.isList.typeIs e (by intro z;cases z) fin
  . obtain⟨its,_,pl,_⟩:=I.tuple hx;exact PySem.W.kia_one PySem.W.kitx_tuple I.kIn pl.typeIs e (by intro z;cases z) fin
 |_=>exact(show False from ty).elim
def Zk1{K:Yk}(h:PySem.W.kitOne [] (.type t) (.type T)=J b):PySem.W.kitOne K (.type t) (.type T)=J b:=h
def range_all(bs:List Bool):(List.range bs.length).all (λi=>bs.getD i Ws)=bs.all id:=by
 rw[Bool.eq_iff_iff,OC,OC];constructor
 . intro h x hx;obtain⟨i,hi,e⟩:=List.getElem_of_mem hx;have:=h i (List.mem_range.mpr hi);rw[List.getD_eq_getElem?_getD,Og hi]at this;subst e;exact this
 . intro h i hi;have cW:=List.mem_range.mp hi;rw[List.getD_eq_getElem?_getD,Og cW];exact h _ (List.getElem_mem cW)
def ZmQ(hc:X.calm=Wr):Zag X (.builtin "all") (λxs H Q=>∃(a:Yi) (bs:List Bool),xs=[.ref a]/\SqL X.K H a (bs.map V.bl)/\Q (.bl (bs.all id)) H):=by
 intro aa s Z H xs us Q I r h;obtain⟨a,bs,rfl,hx,q⟩:=h;obtain⟨u,rfl,rx⟩:=vals1 r;obtain rfl:u=YB a:=rx;obtain⟨its,rv,pl,hz⟩:=I.list hx;have av:a<s.heap.objs.size:=by obtain⟨_,_,e,_⟩:=pl;exact Ym e
 have hl:its.length=bs.length:=by have:=rv.length;rw[Ys]at this;exact this.symm
 refine call_all_walk (wpAny_pyIter_list pl.isList ?_);refine⟨s.heap.objs.size,_,_,_,_,_,λi=>bs.getD i Ws,rfl,Walks.list (A:=X.A.in1) (show X.A.in1.handled=M from I.ok.hd hc) s.heap.objs.size a (Ou av) its.toArray,⟨⟨_,Oj _ rfl,rfl,rfl⟩,pl.isList.push _⟩,?_,λh' tk hk=>?_⟩
 . intro i v s' Q' E' hv hq;have cM:its[i]?=J v:=by simpa using hv
   have hi:i<bs.length:=by rw[<-hl];exact(Ob.mp cM).1
   have hb:(bs.map V.bl)[i]?=J (.bl bs[i]):=by rw[On,Og hi]<;>rfl
   obtain⟨u',e',r'⟩:=rv.get hb;rw[cM]at e';cases e';obtain rfl:v=Value.bool bs[i]:=r';refine wpAny_truthy_bool ?_;have e:bs.getD i Ws=bs[i]:=by rw[List.getD_eq_getElem?_getD,Og hi]<;>rfl
   rw[<-e];exact hq
 . refine⟨.bl (bs.all id),H,I.kept λb o e=>hk b o (λz=>?_) (Od _ e),?_,q⟩
   . have:b=s.heap.objs.size:=by simpa using z
     subst this;exact absurd (Ym e) (Yu _)
   . rw[<-range_all];show Value.bool ((List.range its.toArray.size).all _)=_;rw[Of,hl]
def Zt0:V->Option Int->Option Int->Hp->VK->Prop:=λx lo hi H Q=>∃y,x=.str y/\y.length<=sizeLine/\Q (.str (Yp y lo hi)) H
def ZpV:SlR X Zt0:=by
 intro aa s Z H x v vl vu lo hi sl Q I rx hs pl pu h;obtain⟨y,rfl,hz,q⟩:=h;obtain⟨t,rfl⟩:=rx;refine⟨"str",_,F.slot_str_getitem.lookup,typeIs_str _ _ _,?_⟩;have go:∀(l u:Option (Int×Tok)),vl=partValue l->vu=partValue u->lo=l.map (·.1)->hi=u.map (·.1)->Yz (model X.prog X.w) X.A (getItem (.str y t) (.ref sl)) (EP X aa Z Q) X.xe s:=by rintro l u rfl rfl rfl rfl;refine wpAny_getItem_str_slice (l:=l) (u:=u) (st:=M) hs rfl ?_;refine post_val_or_str ⟨OE (Txt.slice_le y _ _) hz,λt' k=>⟨.str _,H,I.tok k,⟨t',rfl⟩,q⟩⟩
 cases pl with
 |none=>
  cases pu with
  |none=>exact go M M rfl rfl rfl rfl
  |int j tj=>exact go M (J (j,tj)) rfl rfl rfl rfl
 |int i ti=>
  cases pu with
  |none=>exact go (J (i,ti)) M rfl rfl rfl rfl
  |int j tj=>exact go (J (i,ti)) (J (j,tj)) rfl rfl rfl rfl
end
def Z5.there(x:Z5 P w H h a o):∃ob,h.get? a=J ob:=by
 cases o with
 |lst xs=>obtain⟨_,_,_,_,e⟩:=x;exact⟨_,e⟩
 |tup xs=>obtain⟨_,_,_,ob,e,_⟩:=x;exact⟨_,e⟩
 |dK kvs=>obtain⟨_,_,_,_,o,_,_,e,_⟩:=x;exact⟨_,e⟩
 |dT kvs=>obtain⟨_,_,_,_,o,_,_,e,_⟩:=x;exact⟨_,e⟩
 |set S_ n=>obtain⟨o,_,_,_,e,_⟩:=x;exact⟨_,e⟩
 |ins C dx fs=>obtain⟨_,_,_,e,_⟩:=x;exact⟨_,e⟩
 |own y=>obtain⟨_,e⟩:=x;exact⟨_,e⟩
 |xd fs=>obtain⟨_,⟨_,_,_,e,_⟩,_⟩:=x;exact⟨_,e⟩
 |rng lo hi=>obtain⟨_,_,_,e⟩:=x;exact⟨_,e⟩
 |frz ob u=>obtain⟨e,_⟩:=x;exact⟨_,e⟩
 |tbl ps=>exact⟨_,(show h.get? a=J _ from x)⟩
 |met f y=>exact⟨_,(show h.get? a=J _ from x)⟩
 |ext φ=>obtain⟨_,⟨_,e⟩,_⟩:=x;exact⟨_,e⟩
def Kept(fs:List Yi)(H':Hp)(h R B_:YF):Prop:=∀b o,R.get? b=J o->(H' b≠M\/((∃o',h.get? b=J o')/\b ∉ fs))->B_.get? b=J o
def CXF(P:Yh)(w:Yg):CXT:=λouter H s E e s'=>
 ∃(a:Yi) (cls a0:Yj) (H':Hp) (B_:YF),e=.ref a/\s'.os=s.os/\AllBare s'.gens/\Un (frs outer) [] H H' s.heap s'.heap/\HOk P w H' s'.heap /\
  Heap.FlyingW B_ outer a cls a0 s'.heap/\Kept (frs outer) H' s.heap s'.heap B_/\H' a=M/\E cls M H'
def Ze8(un:Un fs [] H H' h R)(hok:HOk P w H' R)(kb:Kept fs H' h R B_)(stay:B_.StaysIn h2)(up:R.UpToSlots h2)
 (hf:∀b∈fs,∃o,R.get? b=J o/\∀vs,o.data≠.fields vs):Un fs [] H H' h h2/\HOk P w H' h2/\Kept fs H' h h2 B_:=by
 have tr:∀b u,H' b=J u->∃o,R.get? b=J o/\h2.get? b=J o/\B_.get? b=J o:=λb u e=>by obtain⟨o,q⟩:=(hok b u e).there;have z:=kb b o q (.inl (by rw[e];simp));exact⟨o,q,stay _ _ z,z⟩
 have old:∀b o,h.get? b=J o->b ∉ fs->∃o1,R.get? b=J o1/\h2.get? b=J o1/\B_.get? b=J o1:=λb o e hb=>by obtain⟨o1,q⟩:=un.there b o e (by simp);have z:=kb b o1 q (.inr ⟨⟨o,e⟩,hb⟩);exact⟨o1,q,stay _ _ z,z⟩
 refine⟨⟨λb o e n hb _=>?_,λb o e n hb _=>?_,λb o e n _=>un.free b o e n (by simp),λb o e _=>?_,un.tups,un.frzs,un.tbls⟩,λb u e=>?_,λb o e hb=>?_⟩
 . obtain⟨o1,q1,q2,_⟩:=old b o e hb;have z:=un.keep b o e n hb (by simp);rw[q1]at z;cases z;exact q2
 . obtain⟨sl,z⟩:=un.slot b o e n hb (by simp);obtain⟨o',z',nf⟩:=hf b hb;rw[z]at z';cases z';obtain⟨dw,q⟩:=up b _ z nf;exact⟨dw,q⟩
 . by_cases hb:b∈fs
   . obtain⟨o',z',nf⟩:=hf b hb;obtain⟨dw,q⟩:=up b _ z' nf;exact⟨_,q⟩
   . obtain⟨o1,_,q2,_⟩:=old b o e hb;exact⟨_,q2⟩
 . refine(hok b u e).stay (λc v hc q=>?_) (λ_ q=>q) λ_ _ q=>q;have fh:∃u',H' c=J u':=by
    rcases hc with rfl|hc
    . exact⟨u,e⟩
    . exact⟨_,hc⟩
   obtain⟨u',e'⟩:=fh;obtain⟨o,q1,q2,_⟩:=tr c u' e';rw[q]at q1;cases q1;exact q2
 . rcases hb with hb|⟨⟨o',e'⟩,hb⟩
   . cases q:H' b with
     |none=>exact absurd q hb
     |some u=>obtain⟨o1,q1,q2,q3⟩:=tr b u q;rw[e]at q2;cases q2;exact q3
   . obtain⟨o1,q1,q2,q3⟩:=old b o' e' hb;rw[e]at q2;cases q2;exact q3
def Zku(X:Cx)(E:XK):Prop:=∀(aa:List (Yi×Obj)) (Z:St) (H:Hp) (s:Yb) (h':YF) (e:Yi) (cls:Yj) (vs:List Yj),Inv X aa Z H s->Heap.MadeExcOf s.heap h' e cls vs->E cls M H->X.xe (.ref e) {s with heap:=h'}
section
variable {P:Yh}{w:Yg}{K:Yk}{mg:Str->Option Yj}{base:YF}{N:List Str}{ak:Str}{scope:Scope}{f:Yi}{cd:Yj}{A:YG}{outer:List Env}{s0:Yb}{H0:Hp}{E:XK}
def ZlH:Zku (Zi8 (CXF P w) P w K mg base N ak scope f cd A outer s0 H0 E) E:=by
 intro aa Z H s h' e cls vs I hx hE;have cX:(A.deeper (envOfC ak scope s0.heap.objs.size f cd)).frames=J (envOfC ak scope s0.heap.objs.size f cd::outer):=I.ok.frames;have cm:∀env∈(envOfC ak scope s0.heap.objs.size f cd::outer),∀b,env.frame=J b->b∈(envOfC ak scope s0.heap.objs.size f cd::outer).filterMap (·.frame):=λenv he b hb=>List.mem_filterMap.mpr ⟨env,he,hb⟩;have hst:s.heap.FunFrames base (envOfC ak scope s0.heap.objs.size f cd::outer):=I.stack;show Yz (model P w) (A.deeper (envOfC ak scope s0.heap.objs.size f cd)) (leaving (envOfC ak scope s0.heap.objs.size f cd) (.ref e)) _ _ {s with heap:=h'};refine wpAny_leaves_madeW (s:={s with heap:=h'}) (base:=PySem.W.hideAll s.heap (frs (envOfC ak scope s0.heap.objs.size f cd::outer))) cX rfl (λb o q=>PySem.W.of_hideAll _ q) (PySem.W.funFrames_hide hst cm) hx λh'' t x1 x2 x3 x4=>?_;have un:Un (frs outer) [] H0 H s0.heap h':=(I.base:Un (frs outer) [] H0 H s0.heap s.heap).trans (Un.kept hx.keeps);have hok:HOk P w H h':=I.hok.kept hx.keeps;have kb:Kept (frs outer) H s0.heap h' (PySem.W.hideAll s.heap (frs (envOfC ak scope s0.heap.objs.size f cd::outer))):=λb o e1 hb=>by
  rcases hb with hb|⟨⟨o',e'⟩,hb⟩
  . cases q:H b with
    |none=>exact absurd q hb
    |some u=>
     obtain⟨o1,q1⟩:=(I.hok b u q).there;have q2:=hx.keeps b o1 q1;rw[e1]at q2;cases q2;exact PySem.W.hideAll_get _ q1 λhm=>by have z:H b=M:=I.stkFree b hm;rw[q]at z;cases z
  . obtain⟨o1,q1⟩:=(I.base:Un (frs outer) [] H0 H s0.heap s.heap).there b o' e' (show b ∉ ([]:List Yi)from List.not_mem_nil);have q2:=hx.keeps b o1 q1;rw[e1]at q2;cases q2;refine PySem.W.hideAll_get _ q1 λhm=>?_;have f7:b∈s0.heap.objs.size::frs outer:=I.stkSub b hm;rcases O2.mp f7 with z|z
    . rw[z]at e';exact absurd (Ym e') (Yu _)
    . exact hb z
 have eg:∀b∈frs outer,∃o,h'.get? b=J o/\∀vs,o.data≠.fields vs:=λb hb=>by obtain⟨_,o,q,nf⟩:=I.funs.mem hb;exact⟨o,hx.keeps _ _ q,nf⟩
 obtain⟨r1,r2,r3⟩:=Ze8 un hok kb x1.1 x4 eg;refine⟨e,cls,_,H,_,rfl,I.os,I.bare,r1,r2,x1,r3,?_,hE⟩;cases q:H e with
 |none=>rfl
 |some u=>obtain⟨o1,q1⟩:=(I.hok e u q).there;rw[hx.new]at q1;cases q1
def ZnX(h:∀cls H',E1 cls M H'->E cls M H'):Za8 (CXF P w) (Zi8 (CXF P w) P w K mg base N ak scope f cd A outer s0 H0 E) E1:=by
 intro aa Z H s e s' I hx;obtain⟨a,cls,a0,H',B_,rfl,os,bare,un,hok,fl,kb,ha,hE⟩:=hx;have I':=I.call' (ch:=[]) os un hok bare (λb z=>absurd z (by simp));have cX:(A.deeper (envOfC ak scope s0.heap.objs.size f cd)).frames=J (envOfC ak scope s0.heap.objs.size f cd::outer):=I.ok.frames;show Yz (model P w) (A.deeper (envOfC ak scope s0.heap.objs.size f cd)) (leaving (envOfC ak scope s0.heap.objs.size f cd) (.ref a)) _ _ s';refine wpAny_leaves_onW cX rfl fl λh'' x1 x4=>?_;have iX:Kept (frs outer) H' s0.heap s'.heap B_:=λb o e1 hb=>by
  refine kb b o e1 ?_;rcases hb with hb|⟨⟨o',e'⟩,hb⟩
  . exact .inl hb
  . obtain⟨o1,q1⟩:=(I.base:Un (frs outer) [] H0 H s0.heap s.heap).there b o' e' (show b ∉ ([]:List Yi)from List.not_mem_nil);refine .inr ⟨⟨o1,q1⟩,λhm=>?_⟩;have f7:b∈s0.heap.objs.size::frs outer:=I.stkSub b hm;rcases O2.mp f7 with z|z
    . rw[z]at e';exact absurd (Ym e') (Yu _)
    . exact hb z
 have eg:∀b∈frs outer,∃o,s'.heap.get? b=J o/\∀vs,o.data≠.fields vs:=λb hb=>by obtain⟨_,o,q,nf⟩:=I'.funs.mem hb;exact⟨o,q,nf⟩
 obtain⟨r1,r2,r3⟩:=Ze8 (I'.base:Un (frs outer) [] H0 H' s0.heap s'.heap) hok iX x1.1 x4 eg;exact⟨a,cls,a0,H',B_,rfl,I'.os,bare,r1,r2,x1,r3,ha,h _ _ hE⟩
end
def ZkQ:Za8 (CXF P w) X E0:=λ_ _ _ _ _ _ _ h=>by obtain⟨_,_,_,_,_,_,_,_,_,_,_,_,_,z⟩:=h;exact z.elim
structure ExcN(K:Yk)(C2:Yi):Prop where
 ty:PySem.W.typeIn K (.ref C2)=J (.type "type")
 cls:(PySem.W.clsIn K C2).isSome=Wr
 exc:PySem.W.subIn K (.ref C2) (.type "BaseException")=J Wr
def Def(P:Yh)(w:Yg)(K:Yk)(mg:Str->Option Yj)(base:YF)(k:Nat)(x:Str)(ps:List Str)(sp:Sp):Prop:=∃f fd,mg x=J (.ref f)/\Wa K (.ref f)=Wr/\Binds K fd ps []/\FnOk P w K mg base (CXF P w) k f fd ps sp
section
variable {X:Cx}{k:Nat}{x:Str}{ps:List Str}{sp:Sp}{E:XK}{e:Expr}{es:List Expr}{t:TA}{p pos:Pos}
noncomputable def ZtN(sp:Sp)(E:XK)(t:TA):TE:=λZ H Q=>t Z H λvs H1=>sp vs H1 Q E
def Zqu(D:Def X.prog X.w X.K X.mg X.base k x ps sp)(hr:Room k X.A)(hg:Gl X x)(hx:Za8 (CXF X.prog X.w) X E)(ha:PA X (e::es) t)
 (bH:(x==("__debug__" : Str))=Ws:=by decide) (he:Yy (e::es) X.env=(Ws,eval e X.env)::Yy es X.env:=by rfl) (aV:(YR pos (Yy es X.env)).any (·.1)=Ws:=by rfl) :
 PE X (.Call (.Name x p) (e::es) [] pos) (ZtN sp E t):=by
 obtain⟨f,fd,R,h2,h3,h4⟩:=D;intro aa s Z H Q I h;refine ZnV h4 hr hg R h2 h3 .nil hx ha bH he aV aa s Z H Q I ?_;have z:t Z H λvs H1=>sp vs H1 Q E:=h;show t Z H λvs H1=>sp (vs++[]) H1 Q E;simpa only[Yr]using z
end
section
variable {X:Cx}{aa:List (Yi×Obj)}{Z:St}{H:Hp}{s:Yb}{h':YF}
def ZjZ{ch:List Yi}(hf:∀b∈ch,Zcr X aa H b):∀b∈ch,(b∈X.ex\/X.s₀.heap.objs.size<=b)/\b≠X.env.locals/\(∀x c,X.env.cells.lookup x=J c->c≠b)/\∀p∈X.pn++aa,p.1≠b:=λb hb=>by obtain⟨_,f1,_,f3,f4,f5⟩:=hf b hb;exact⟨f3,f1,f4,f5⟩
def Inv.turnL{t':Nat}{ch:List Yi}(I:Inv X aa Z H s)(hf:∀b∈ch,Zcr X aa H b)(k:∀b o,b ∉ ch->s.heap.get? b=J o->h'.get? b=J o):Inv X aa Z H {s with heap:=h',toks:=t'}:=by
 have cf:∀b u,H b=J u->b ∉ ch:=λb u e z=>by rw[(hf b z).1]at e;cases e
 refine I.step (g':=s.gens) (d':=s.drawn) (ch:=ch) (ZjZ hf) (λb o _ _ hc e _=>k b o hc e) (λb o _ _ hc e _=>⟨o.slots,k b o hc e⟩) (λ_ _ _ _ n=>n)
  (λb o hc e=>⟨o,k b o hc e⟩) (λ_ _ e=>e) (λ_ _ _ e=>e) (λb ps e=>⟨#[],by rw[e];simp⟩) (λm hm=>?_) (λb u e=>?_) I.bare
 . obtain⟨o,es,ep,ho,r⟩:=hm;exact⟨o,es,ep,k _ o (λz=>(hf _ z).2.1 rfl) ho,r⟩
 . refine(I.hok b u e).stay (λc v hc q=>k c v ?_ q) (λ_ q=>q) λ_ _ q=>q;rcases hc with z|z
   . rw[z];exact cf b u e
   . exact cf c _ z
def Inv.turnT{t':Nat}{ch:List Yi}{us:List Yj}(I:Inv X aa Z H s)(hf:∀b∈ch,Zcr X aa H b)(k:∀b o,b ∉ ch->s.heap.get? b=J o->h'.get? b=J o)
 (hT:s.heap.objs.size<=T) (tup:ZaO h' T us.toArray) (rv:Zn vs us) (hz:vs.length<=sizeLine):Inv X aa Z (upd H T (.tup vs)) {s with heap:=h',toks:=t'}:=by
 have cf:∀b u,H b=J u->b ∉ ch:=λb u e z=>by rw[(hf b z).1]at e;cases e
 have neT:∀b o,s.heap.get? b=J o->b≠T:=λb o e=>Ou (Ot (Ym e) hT);have eJ:H T=M:=I.hok.fresh hT;refine I.step (g':=s.gens) (d':=s.drawn) (ch:=ch) (ZjZ hf) (λb o _ _ hc e _=>k b o hc e) (λb o _ _ hc e _=>⟨o.slots,k b o hc e⟩) (λb o _ e n=>by rw[Zq (neT b o e)];exact n)
  (λb o hc e=>⟨o,k b o hc e⟩) (λb xs e=>by rw[Zq (ZK e eJ)];exact e) (λb o u e=>by rw[Zq (ZK e eJ)];exact e) (λb ps e=>⟨#[],by rw[Zq (ZK e eJ),e];simp⟩) (λm hm=>?_) (λb u e=>?_) I.bare
 . obtain⟨o,es,ep,ho,r⟩:=hm;exact⟨o,es,ep,k _ o (λz=>(hf _ z).2.1 rfl) ho,r⟩
 . by_cases hb:b=T
   . subst hb;rw[Zi]at e;cases e;exact⟨hz,us,rv,tup⟩
   . rw[Zq hb]at e;refine(I.hok b u e).stay (λc v hc q=>k c v ?_ q) (λc q=>by rw[Zq (ZK q eJ)];exact q) λc xs q=>by rw[Zq (ZK q eJ)];exact q
     rcases hc with z|z
     . rw[z];exact cf b u e
     . exact cf c _ z
end
def Ite(K:Yk)(a:Yi):It:=⟨λi H=>∃xs x,SqL K H a xs/\xs[i]?=J x,λi H v H'=>∃p,v=.ref p/\H p=M/\∃x,(∀xs,SqL K H a xs->xs[i]?=J x)/\H'=upd H p (.tup [.int i,x]),λi H=>∃xs,SqL K H a xs/\xs.length=i⟩
def Zkz{P:Yh}{w:Yg}{K:Yk}{es:List Expr}{kk:Nat}{tp:Pos}(a it e:Yi)(gf:e≠it)(gq:a≠e)(gn:a≠it):
 Turn P w K (.Tuple es kk tp) (Ite K a) [e,it] e (λi h=>(∃old,IsEnum h e it i old)/\h.IsListIter it a i) where
 mem:=by simp
 obj:=λi h st b hb=>by
  obtain⟨⟨old,he⟩,o,e1,c,d⟩:=st;rcases O2.mp hb with rfl|hb
  . exact⟨_,he,λv z=>by cases z⟩
  . have e2:b=it:=by simpa using hb
    subst e2;exact⟨o,e1,λv z=>by rw[d]at z;cases z⟩
 keep:=λi h h' st k=>by obtain⟨⟨old,he⟩,st⟩:=st;exact⟨⟨old,k e (by simp) _ he⟩,st.at λo z=>k it (by simp) o z⟩
 item:=by
  intro X hP hw hK hc i aa s Z H E I hf st hg;subst hP hw hK;obtain⟨xs,x,hq,hx⟩:=hg;obtain⟨its,rv,p,hz⟩:=I.list hq;have hl:=rv.length;have hi:i<xs.length:=(Ob.mp hx).1;have W:=WalksT.enumerate (prog:=X.prog) (w:=X.w) (I.ok.hd hc) e it a gf gq gn its.toArray;have i5:∀(Q':Option Yj->Yb->Prop) (E':Yj->Yb->Prop),(∀T bc h' tk,(∃t x,its.toArray[i]?=J x/\bc=#[.int i t,x])->s.heap.objs.size<=T->ZaO h' T bc ->
   ((∃x,IsEnumOut h' e it ((i:Int)+1) x T)/\h'.IsListIter it a (i+1)/\h'.IsList a its.toArray/\T≠e/\T≠it)->(∀b o,b ∉ [e,it]->s.heap.get? b=J o->h'.get? b=J o)->Q' (J (.ref T)) {s with heap:=h',toks:=tk}) ->
   Yz (model X.prog X.w) X.A (pyNext (.ref e)) Q' E' s:=by
   intro Q' E' hQ;obtain⟨⟨old,he⟩,ay⟩:=st;have gP:its.toArray[i]?=J (its.toArray[i]'(by simp;lia)):=Array.getElem?_eq_getElem (by simp;lia);refine wpAny_pyNext_enum_item he ay p.isList gP gf λh' ho b0 hT hsz hk=>?_;have e1:e<s.heap.objs.size:=Ym he;have e2:it<s.heap.objs.size:=by obtain⟨_,z,_⟩:=ay;exact Ym z
   exact hQ s.heap.objs.size _ h' (s.toks+1) ⟨_,_,gP,rfl⟩ (Oq _) ⟨_,hT,rfl,rfl,_,rfl⟩ ⟨⟨_,ho⟩,b0,p.isList.at λo z=>hk a o gq gn z,Nat.ne_of_gt e1,Nat.ne_of_gt e2⟩
    λb o hb z=>hk b o (λe'=>hb (by simp[e'])) (λe'=>hb (by simp[e'])) z
  refine i5 _ _ λT bc R tk hP hT tup mid kk=>?_;refine⟨_,rfl,W.go _ _ _ i T {s with heap:=R,toks:=tk} _ _ mid λh2 b9 kk2=>?_⟩;obtain⟨t,y,hy,rfl⟩:=hP;have bW:its[i]?=J y:=by simpa using hy
  obtain⟨u,hu,ru⟩:=rv.get hx;rw[bW]at hu;cases hu;have g9:T ∉ [e,it]:=W.apart i T R mid;have cI:ZaO h2 T #[.int i t,y]:=by obtain⟨o,q,r⟩:=tup;exact⟨o,kk2 T o g9 q,r⟩
  have I2:Inv X aa Z (upd H T (.tup [.int i,x])) {s with heap:=h2,toks:=tk}:=I.turnT hf (λb o hb q=>kk2 b o hb (kk b o hb q)) hT (us:=[.int i t,y]) cI (.cons ⟨t,rfl⟩ (.cons ru .nil)) (by show 2<=sizeLine;decide);refine⟨.ref T,_,I2,rfl,⟨T,rfl,I.hok.fresh hT,x,λys hy=>by rw[I.list_inj hy hq];exact hx,rfl⟩,⟨b9.1,b9.2.1⟩,λb hb=>?_⟩;have iM:b≠T:=λz=>g9 (by rw[<-z];exact hb);rw[Zq iM];exact(hf b hb).1
 done:=by
  intro X hP hw hK hc i aa s Z H E I hf st hg;subst hP hw hK;obtain⟨xs,hq,hx⟩:=hg;obtain⟨its,rv,p,hz⟩:=I.list hq;have hl:=rv.length;have W:=WalksT.enumerate (prog:=X.prog) (w:=X.w) (I.ok.hd hc) e it a gf gq gn its.toArray;have e1:its.toArray.size=i:=by simp;lia
  refine W.done s _ _ ?_ λR tk kk=>⟨rfl,I.turnL hf kk⟩
  rw[e1];exact⟨st.1,st.2,p.isList⟩
 self:=λA i s Q E st h=>by obtain⟨⟨old,he⟩,_⟩:=st;exact wpAny_pyIter_enum he h
def Zs0(K:Yk)(ta:TA):TI:=λZ H kz=>ta Z H λvs H1=>∃a,vs=[.ref a]/\(∃xs,SqL K H1 a xs)/\kz (Ite K a) H1
def ZnN{X:Cx}{es:List Expr}{kk:Nat}{tp:Pos}{l:Expr}{ta:TA}{p pos:Pos}(hg:Gl X "enumerate")(hm:X.mg "enumerate"=M)(ha:PA X [l] ta)(hs:Yy [l] X.env=[(Ws,eval l X.env)]:=by rfl):
 PI X (.Tuple es kk tp) (.Call (.Name "enumerate" p) [l] [] pos) (Zs0 X.K ta):=by
 intro aa s Z H kz I h;refine Call_ (Zbi I hg hm boot_enumerate (PyProof.Rows.callWith_type1 (thn (ha pos aa s Z H _ I h) λus s1 ⟨vs,H1,I1,r1,q1⟩=>?_) hs rfl));obtain⟨a,rfl,⟨xs,hq⟩,q⟩:=q1;obtain⟨u,rfl,ru⟩:=vals1 r1;obtain rfl:u=YB a:=ru;obtain⟨its,rv,pl,hz⟩:=I1.list hq;have av:a<s1.heap.objs.size:=by obtain⟨_,_,e,_⟩:=pl;exact Ym e
 refine call_enumerate_list pl.isList λh' he hi hsz kk=>?_;refine wpAny_pyIter_enum he ?_;refine⟨s1.heap.objs.size+1,[s1.heap.objs.size+1,s1.heap.objs.size],_,_,H1,rfl,I1.kept (t':=s1.toks) kk,Zkz a s1.heap.objs.size (s1.heap.objs.size+1) (Nat.succ_ne_self _) (Ou (Nat.lt_succ_of_lt av)) (Ou av),⟨⟨_,he⟩,hi⟩,λb hb=>?_,q⟩;rcases O2.mp hb with rfl|hb
 . exact I1.fpOk (Nat.le_succ _) (I1.hok.fresh (Nat.le_succ _))
 . have e:b=s1.heap.objs.size:=by simpa using hb
   subst e;exact I1.fpOk (Oq _) (I1.hok.fresh (Oq _))
end L2
namespace L2
open PySem PySem.Spec PyProof.Rows PySem.Builtin PySem.Builtin.ObjectAttr PySem.Builtin.Getset_descriptor
structure ExcA(K:Yk)(D:Yi):Prop where
 ga:YI K (.ref D) "__getattribute__"=J (J (.builtin "BaseException.__getattribute__"))
 ga2:YI K (.ref D) "__getattr__"=J M
 cl:YI K (.ref D) "__class__"=J (J (.builtin "object.__class__"))
 get:PySem.W.specialIn K (.builtin "object.__class__") "__get__"=J (J (.builtin "getset_descriptor.__get__"))
 takes:PySem.W.takesIn K (.builtin "object.__class__")=J Wr
 obj:PySem.W.mroIn K D (.type "object")=J Wr
 base:PySem.W.subIn K (.ref D) (.type "BaseException")=J Wr
 isc:(PySem.W.clsIn K D).isSome=Wr
end L2
namespace L2
open PySem PySem.Spec PyProof.Rows
def ZoP(h:PSs X b t)(r:t D Z H):∃t,PSs X b t/\t D Z H:=⟨t,h,r⟩
def Zhv:RelV (.str x) (.str x t):=⟨t,rfl⟩
def Zhw:RelV (.int x) (.int x t):=⟨t,rfl⟩
def Zaj:RelV (.ref a) (.ref a):=rfl
def DkK(P:Yh)(w:Yg)(K:Yk)(a:Yi)(kvs:List (Key×V)):Prop:=∃(o:Obj) (es:Array DictEntry) (ep:Nat) (vs:List (Key×Yj)),K.lookup a=J o/\o.ExactDict/\o.data=.dict es ep/\KeysOf (ZD P w) es/\Pairs (ZD P w) es.toList vs/\(vs.map (·.1)).Nodup/\KV kvs vs/\kvs.length<=sizeLine/\(a==Ye)=Ws
def Dk(P:Yh)(w:Yg)(K:Yk)(H:Hp)(a:Yi)(kvs:List (Key×V)):Prop:=Rd H a (.dK kvs)\/DkK P w K a kvs
section
variable {X:Cx}{aa:List (Yi×Obj)}{Z:St}{H:Hp}{s:Yb}{a:Yi}
def Inv.dk(I:Inv X aa Z H s)(h:Dk X.prog X.w X.K H a kvs):kvs.length<=sizeLine/\(a==Ye)=Ws/\∃vs,KV kvs vs/\s.heap.DictOf (ZD X.prog X.w) a vs:=by
 rcases h with h|⟨o,es,ep,vs,lk,ex,da,ks,ps,nd,kv,z,hm⟩
 . exact Zpv I.hok h
 . exact⟨z,hm,vs,kv,o,es,ep,I.kIn a o lk,ex,da,ks,ps,nd⟩
def Zsj(P:Yh)(w:Yg)(K:Yk)(neg:Bool):R2:=λx y H Q=>∃a kvs k,y=.ref a/\x=kV k/\Dk P w K H a kvs/\Q (.bl (if neg then !(Zc6 kvs k).isSome else(Zc6 kvs k).isSome)) H
def ZqC:OpR X (YL .In) (Zsj X.prog X.w X.K Ws):=by intro aa s Z H x y v u Q I rx ry h;obtain⟨a,kvs,k,rfl,rfl,hd,q⟩:=h;cases ry;obtain⟨z,hm,vs,am,dd⟩:=I.dk hd;refine wpAny_in_of (ZhR rx) hm dd.mapOf ?_;rw[<-(am.val k).isSome_eq];exact⟨.bl _,H,I.tok _,rfl,q⟩
def ZkR:OpR X (YL .NotIn) (Zsj X.prog X.w X.K Wr):=by intro aa s Z H x y v u Q I rx ry h;obtain⟨a,kvs,k,rfl,rfl,hd,q⟩:=h;cases ry;obtain⟨z,hm,vs,am,dd⟩:=I.dk hd;refine wpAny_notIn_of (ZhR rx) hm dd.mapOf ?_;rw[<-(am.val k).isSome_eq];exact⟨.bl _,H,I.tok _,rfl,q⟩
def Zt6(P:Yh)(w:Yg)(K:Yk):R2:=λx y H Q=>∃a kvs k v,x=.ref a/\y=kV k/\Dk P w K H a kvs/\Zc6 kvs k=J v/\Q v H
def Zot:IxR X (Zt6 X.prog X.w X.K):=by intro value slice aa s Z H x y v u Q I rx ry h hs;obtain⟨a,kvs,k,z,rfl,rfl,hd,hv,q⟩:=h;cases rx;obtain⟨_,hm,vs,am,dd⟩:=I.dk hd;obtain⟨w',hw,az⟩:=Zdz.some_of (v:=z) (o:=valueAt vs k) (by rw[<-hv];exact am.val k);exact subscriptTail_builtinR (x:=w') dd.typeIs PySem.F.slot_dict_getitem.lookup (wpAny_getItem_of (ZhR ry) dd.mapOf hw ⟨rfl,z,H,I.tok _,az,q⟩) hs
def Ztf(I:Inv X aa Z H s)(e:H a=J (.dK kvs))(l:kvs.length<sizeLine)(ry:RelV (kV k) u)(rv:RelV v r)
 (h:∀s',Inv X aa Z (upd H a (.dK (putK kvs k v))) s'->Q () s'):Yz (model X.prog X.w) A (setItem (.ref a) u r) Q E s:=by
 obtain⟨z,hd,vs,am,dd⟩:=Zpw I.hok e;have hz:vs.length<=sizeLine:=by rw[<-am.length];exact z
 have hl:(putK kvs k v).length<=sizeLine:=by have:=ZdX kvs k v;lia
 refine wpAny_setItem_pairs (hsz:=hz) (ZhR ry) dd λh' eM hs=>h _ ?_;have he:∃q,h'.get? a=J q:=let⟨q,_,_,hq,_⟩:=eM;⟨q,hq⟩;exact Zj8 I (by rw[e];exact True.intro) hs he (ZmK hl hd (am.put k rv) eM)
def Zsb:Zo9:=λo i v H Q=>∃a kvs k,o=.ref a/\i=kV k/\H a=J (.dK kvs)/\kvs.length<sizeLine/\Q (upd H a (.dK (putK kvs k v)))
def set_dict:Zpa X Zsb:=by intro aa s Z H o i v ov iv u Q I ro ri rv h;obtain⟨a,kvs,k,rfl,rfl,e,l,q⟩:=h;cases ro;exact Ztf I e l ri rv λs' I'=>⟨_,I',q⟩
end
set_option tactic.hygienic false
section
variable {X:Cx}{aG tg iter:Expr}{aY:List Expr}{scope sc:Scope}{pos:Pos}{NC:List Str}{js:List (Option Nat)}{k:Nat}{wi:TI}{g:TG}{tc:TT}{te:TE}
def ZiD(hN:X.N.Nodup)(hy:X.N[i0]?=J y)(hx:Loc X.env.scope y)(hf:X.fn y=Wr\/X.env.scope.names.lookup y=J .local)(S_:CompSc NC X.N js sc scope)(bj:X.env.scope=sc)(hc:X.calm=Wr)(hi:PI X tg iter wi)
 (hb:∀(C:Yi) (s3:Yb) (H3:Hp) (fp:List Yi),PG (Zx X NC scope C s3 H3 fp) tg g/\PIf (Zx X NC scope C s3 H3 fp) aY tc/\PE (Zx X NC scope C s3 H3 fp) aG te)
 (hk:Zjg k g) (cV:∀j,j<k->js[j]?=J M) (hs:∀x,foldedSetIterable iter X.env x=pure x:=by intro _;rfl) (jf:swapsWith (.ListComp aG [⟨tg,iter,aY,0⟩] scope pos) (J (.Name y py)) spos.line X.env=pure Wr:=by rfl) :
 PS X (.Assign [.Name y py] (.ListComp aG [⟨tg,iter,aY,0⟩] scope pos) spos) (Ziu (Zlx wi js g tc te) (ZbQ i0)):=by
 intro aa s Z H D0 I h;rw[exec_Assign_Name_used _ _ _ _ jf];refine Ya (wpAny_standAt (Ya ?_));show Yz _ X.A (do let _ <- comprehension (.ListComp aG [⟨tg,iter,aY,0⟩] scope pos) scope X.env _ (newList []) Ws (eval iter X.env) (J (assign (.Name y py) X.env))) _ _ s;refine Ya (Yf (Zh4 (Q:=λx H1=>ZbQ i0 x Z H1 D0.nx) (Q0:=λ_ s'=>SP X aa D0 .next s') S_ bj hc hi hb hk cV hs I h λC Dd s3 s6 H3 H5 fp hC I3 f3 I6 qn=>?_) (λ_ s' hq=>Yc (Yc hq)) λ_ _ e=>e);obtain⟨m,hm,_⟩:=I6.loc;have Io:Inv X aa Z H5 s6:=I3.comp_out (h'':=s6.heap) f3 hC I6 ⟨rfl,λ_ _=>rfl⟩;have fC:Zcr X aa H5 C:=I3.fpOk (Nat.le_of_eq hC.symm) I6.free;show Yz _ X.A (assign (.Name y py) X.env (.ref Dd)) _ _ _;refine wpAny_assign_Name (Zf4 Io hN hy hx (v:=.ref Dd) rfl (λs8 I8 ⟨a8,iw,jG⟩=>?_) hf);have iO:C≠a8:=λz=>by
  rcases jG with e|e
  . exact fC.2.1 (z.trans e)
  . exact fC.2.2.2.2.1 _ _ e z.symm
 refine⟨m,hm.sameBut iw iO,λh' dz=>?_⟩;exact⟨_,H5,I8.turnL (t':=s8.toks) (ch:=[C]) (λb hb=>by rw[Ox.mp hb];exact fC) (λb o hb e=>(dz.2 b (λz=>hb (by rw[z];exact List.mem_singleton_self _))).trans e),qn⟩
end
set_option tactic.hygienic true
mutual
inductive Dp(K:Yk)(H:Hp):V->PyData->Prop
 |non:Dp K H .non .none
 |bl (b:Bool):Dp K H (.bl b) (.bool b)
 |int (i:Int):Dp K H (.int i) (.int i)
 |str (x:Str) (ok:Yo x=Wr):Dp K H (.str x) (.str x)
 |lst {a:Yi}{xs:List V}{ds:List PyData}:SqL K H a xs->Dps K H xs ds->Dp K H (.ref a) (.list ds)
 |tup {a:Yi}{xs:List V}{ds:List PyData}:SqT K H a xs->Dps K H xs ds->Dp K H (.ref a) (.tuple ds)
inductive Dps(K:Yk)(H:Hp):List V->List PyData->Prop
 |nil:Dps K H [] []
 |cons {v:V}{vs:List V}{d:PyData}{ds:List PyData}:Dp K H v d->Dps K H vs ds->Dps K H (v::vs) (d::ds)
end
section
variable {K:Yk}{H:Hp}
mutual
theorem Dp.lay:∀{v:V}{d:PyData},Dp K H v d->d.canLay0=Wr
 |_,_,.non=>rfl
 |_,_,.bl b=>rfl
 |_,_,.int i=>rfl
 |_,_,.str x ok=>ok
 |_,_,.lst h r=>Dps.lay r
 |_,_,.tup h r=>Dps.lay r
theorem Dps.lay:∀{v:List V}{d:List PyData},Dps K H v d->PyData.canLayAll0 d=Wr
 |_,_,.nil=>rfl
 |_,_,.cons h r=>by rw[PyData.canLayAll0,Dp.lay h,Dps.lay r];rfl
end
end
section
variable {X:Cx}{aa:List (Yi×Obj)}{Z:St}{H:Hp}{s:Yb}
mutual
theorem Inv.reads(I:Inv X aa Z H s):∀{v:V}{d:PyData}{u:Yj},Dp X.K H v d->RelV v u->∃as,Reads s.heap u d as
 |_,_,_,.non,r=>by cases r;exact⟨_,.none⟩
 |_,_,_,.bl b,r=>by cases r;exact⟨_,.bool b⟩
 |_,_,_,.int i,r=>by obtain⟨t,rfl⟩:=r;exact⟨_,.int i t⟩
 |_,_,_,.str x ok,r=>by obtain⟨t,rfl⟩:=r;exact⟨_,.str x t⟩
 |_,_,_,.lst h rs,r=>by cases r;obtain⟨its,rv,⟨o,n,e,c,_,dd⟩,_⟩:=I.list h;obtain⟨as,q⟩:=Inv.readsAll I rs rv;exact⟨_,.list e c dd (by simpa using q)⟩
 |_,_,_,.tup h rs,r=>by cases r;obtain⟨its,rv,⟨o,e,c,n,dd⟩,_⟩:=I.tuple h;obtain⟨as,q⟩:=Inv.readsAll I rs rv;exact⟨_,.tuple e c dd (by simpa using q)⟩
theorem Inv.readsAll(I:Inv X aa Z H s):∀{v:List V}{d:List PyData}{u:List Yj},Dps X.K H v d->Zn v u->∃as,ReadsAll s.heap u d as
 |_,_,_,.nil,r=>by cases r;exact⟨_,.nil⟩
 |_,_,_,.cons h rs,r=>by
  cases r with
  |cons r1 r2=>obtain⟨as,q⟩:=Inv.reads I h r1;obtain⟨bs,q2⟩:=Inv.readsAll I rs r2;exact⟨_,.cons q q2⟩
end
end
set_option tactic.hygienic false
namespace Rv
def own:Manifest.owners.lookup (String.ofList ['d','e','s','r','e','v','e','r'].reverse)=J Manifest.sig_reversed:=by kernel_rfl
def next:Slot "reversed" "__next__" "reversed.__next__" :=
 .of (owner := "reversed") (n := "__next__") (by rw[typeLookup_type,builtinLookup_eq_fast]<;>kernel_rfl) (by decide +kernel) (by decide +kernel) (by decide +kernel) (by first|exact .inl (by decide +kernel)|exact .inr (by decide +kernel)) (by rw[isSubtype_type]<;>kernel_rfl)
def Zpu:entryFor table "reversed.__next__"=J Builtin.«reversed.__next__»:=entryFor_of_tree (by kernel_rfl)
def ZpC(a:Yj):argsOk "reversed.__next__" ⟨[a],[]⟩:=by unfold argsOk;rw[signature?_of (id := "reversed.__next__") (n:=['_','_','t','x','e','n','_','_']) (o:=['d','e','s','r','e','v','e','r']) (by kernel_rfl) own];kernel_rfl
def iter:Slot "reversed" "__iter__" "reversed.__iter__" :=
 .of (owner := "reversed") (n := "__iter__") (by rw[typeLookup_type,builtinLookup_eq_fast]<;>kernel_rfl) (by decide +kernel) (by decide +kernel) (by decide +kernel) (by first|exact .inl (by decide +kernel)|exact .inr (by decide +kernel)) (by rw[isSubtype_type]<;>kernel_rfl)
def Zto(a:Yj):argsOk "reversed.__iter__" ⟨[a],[]⟩:=by unfold argsOk;rw[signature?_of (id := "reversed.__iter__") (n:=['_','_','r','e','t','i','_','_']) (o:=['d','e','s','r','e','v','e','r']) (by kernel_rfl) own];kernel_rfl
def Ztd:entryFor table "reversed.__iter__"=J Builtin.«dict_keyiterator.__iter__» :=entryFor_alias (id' := "dict_keyiterator.__iter__") (by kernel_rfl) (by first|rfl|decide +kernel|(unfold String.splitOn;simp +decide [String.splitOnAux])) (by decide +kernel) (by kernel_rfl)
def ZsE:typeLookup (.type "tuple") "__reversed__"=pure M:=by rw[typeLookup_type,builtinLookup_eq_fast]<;>kernel_rfl
def Zjo:isSubtype (.type "reversed") (.type "reversed")=pure Wr:=by rw[isSubtype_type]<;>kernel_rfl
def init:Slot "reversed" "__init__" "object.__init__" :=
 .of (owner := "object") (n := "__init__") (by rw[typeLookup_type,builtinLookup_eq_fast]<;>kernel_rfl) (by decide +kernel) (by decide +kernel) (by decide +kernel) (by first|exact .inl (by decide +kernel)|exact .inr (by decide +kernel)) (by rw[isSubtype_type]<;>kernel_rfl)
def called:TypeCalled "reversed" "reversed.__new__" "object.__init__" := ⟨by decide +kernel,F.create_reversed,⟨_,_,F.mro_reversed⟩,F.made_reversed,by decide +kernel,Zjo,init⟩
noncomputable def obj(l:Yi)(i:Int):Obj:={cls:=.type "reversed",data:=.fields #[.ref l,rawInt i]}
def Is(h:YF)(a l:Yi)(i:Int):Prop:=∃o,h.get? a=J o/\o.cls=.type "reversed" /\ o.data=.fields #[.ref l,rawInt i]
section
variable {prog:Yh}{w:Yg}{A:YG}{E:Yj->Yb->Prop}{s:Yb}
def Is.typeIs(x:Is s.heap a l i):s.TypeIs (.ref a) "reversed" := let⟨o,ho,hc,_⟩:=x;⟨o,ho,hc⟩
def Is.at(x:Is h a l i)(e:∀o,h.get? a=J o->h'.get? a=J o):Is h' a l i:=let⟨o,ho,r⟩:=x;⟨o,e _ ho,r⟩
def new(hl:IsTup s.heap l items)(hz:items.size<=sizeLine)
 (h:Q (.ref s.heap.objs.size) {s with heap:=s.heap.push (obj l ((items.size:Int)-1)),toks:=s.toks+1+1}) :
 codeAny (model prog w) A (.call (.builtin "reversed.__new__") ⟨[.type "reversed",.ref l],[]⟩) (wants Q E) s:=by
 have cY:(items.size:Int)<2^63:=by have:=ZaZ;lia
 refine codeAny_of_tree ?_;show Yz _ A.in1 (do checkBuiltinCall "reversed.__new__" ⟨[.type "reversed",.ref l],[]⟩;again (.builtin "reversed.__new__" ⟨[.type "reversed",.ref l],[]⟩)) _ _ s;refine Ya (Wh (F.newCall_reversed_1 _) (Yc ⟨plainId_quiet F.plain_reversed_new _,codeAny_builtin F.entry_reversed_new ?_⟩));rw[Around.under_plainId F.plain_reversed_new _];unfold Builtin.«reversed.__new__»;refine Ya (Wh (newClass_reversed _) ?_)
 try dsimp only
 refine Ya (Wh (a:=()) (by first|rfl|kernel_rfl) (Ya (Wh (a:=()) (by first|rfl|kernel_rfl) ?_)))
 try dsimp only
 refine Ya (wpAny_specialOf hl.typeIs ZsE ?_)
 try dsimp only
 refine Ya ?_;show Yz _ _ (isInstance (.ref l) (.type "dict") >>= λb=>_) _ _ s;refine Ya (wpAny_isInstance hl.typeIs F.sub_tuple_dict ?_);show Yz _ _ (specialOf (.ref l) "__getitem__" >>= λb=>_) _ _ s;refine Ya (wpAny_specialOf hl.typeIs slot_tuple_getitem.lookup ?_);refine Wh (a:=true) (by rfl) ?_;show Yz _ _ (call (.builtin "len") [.ref l] >>= λb=>_) _ _ s;refine Ya (len_tuple hl cY ?_);show Yz _ _ (asInt? (.int _ _) >>= λb=>_) _ _ _;refine Ya (Yc ?_);show Yz _ _ (newObj (.type "reversed") (.fields #[.ref l,rawInt ((items.size:Int)-1)]) >>= λb=>_) _ _ _;exact Ya (Yq (Yc h))
theorem call(hl:IsTup s.heap l items)(hz:items.size<=sizeLine)
 (h:Q (.ref s.heap.objs.size) {s with heap:=s.heap.push (obj l ((items.size:Int)-1)),toks:=s.toks+1+1}):Yz (model prog w) A (PySem.call (.type "reversed") [.ref l]) Q E s:=by
 refine callType_codes called (F.typeCall_reversed_1 _) F.entry_object_init (new (Q:=λo s1=>o=.ref s.heap.objs.size/\s1={s with heap:=s.heap.push (obj l ((items.size:Int)-1)),toks:=s.toks+1+1}) hl hz ⟨rfl,rfl⟩) ?_;rintro _ _ ⟨rfl,rfl⟩;have hT:Shared.TypeIs {s with heap:=s.heap.push (obj l ((items.size:Int)-1)),toks:=s.toks+1+1} (.ref s.heap.objs.size) "reversed" := ⟨_,Oj _ rfl,rfl⟩
 refine⟨hT,F.args_object_init_2 _ _,?_⟩;exact object_init_meets init.lookup F.made_reversed (by decide) prog w _ _ _ ⟨hT,rfl,h⟩
def next_item{it l:Yi}{i:Nat}{Q:Option Yj->Yb->Prop}(ay:Is s.heap it l (i:Int))(hl:IsTup s.heap l items)(hz:items.size<=sizeLine)(hx:items[i]?=J x)
 (hQ:∀h' t',Is h' it l ((i:Int)-1)->Heap.SameBut it s.heap h'->Q (J x) {s with heap:=h',toks:=t'}):Yz (model prog w) A (pyNext (.ref it)) Q E s:=by
 obtain⟨o,ho,hc,hd⟩:=id ay;have hi:i<items.size:=by have:=(Array.getElem?_eq_some_iff.mp hx).1;exact this
 have j6:=ZaZ;unfold pyNext;refine Ya (wpAny_attempt (YY (name:=O "__next__") ay.typeIs next (Wc next ay.typeIs Zpu ?_ (ZpC _))));unfold Builtin.«reversed.__next__»;refine Ya (Wh (a:=(YB it,[])) rfl ?_)
 try dsimp only
 refine Ya (YQ ho hd (x:=.ref l) rfl (Ya (YQ ho hd (x:=rawInt (i:Int)) rfl ?_)));show Yz _ _ (if (i:Int)<0 then _ else _) _ _ s;rw[if_neg (by lia)];show Yz _ _ (specialOf (.ref l) "__getitem__" >>= λb=>_) _ _ s;refine Ya (wpAny_specialOf hl.typeIs slot_tuple_getitem.lookup ?_);show Yz _ _ (mkInt (i:Int) >>= λb=>_) _ _ s;refine Ya (wpAny_mkInt ?_);refine Ya (wpAny_attempt (getItem_tuple (s:={s with toks:=s.toks+1}) (j:=i) (x:=x) hl (by lia) (by lia) (seqIndex_of (by lia) (by lia)) hx ?_));show Yz _ _ (field (.ref it) 1 >>= λb=>_) _ _ _;refine Ya (YQ ho hd (x:=rawInt (i:Int)) rfl ?_);show Yz _ _ (setField (.ref it) 1 (rawInt ((i:Int)-1)) >>= λb=>_) _ _ _;refine Ya (wpAny_setField ho hd (by simp) ?_);refine Yc ⟨x,rfl,Yc (hQ _ _ ?_ (Heap.SameBut.update ..))⟩;exact⟨_,YU _ ho (Obj.isFreed_of_fields (YW hd _)),(Obj.cls_mapFields ..).trans hc,by rw[YW hd]<;>simp⟩
def next_end(hh:A.handled=M)(ay:Is s.heap it l (-1))(hQ:∀h',Heap.ExtBut it s.heap h'->Q M {s with heap:=h'}):Yz (model prog w) A (pyNext (.ref it)) Q E s:=by
 obtain⟨o,ho,hc,hd⟩:=id ay;unfold pyNext;refine Ya (wpAny_attempt (YY (name:=O "__next__") ay.typeIs next (Wc next ay.typeIs Zpu ?_ (ZpC _))));unfold Builtin.«reversed.__next__»;refine Ya (Wh (a:=(YB it,[])) rfl ?_)
 try dsimp only
 refine Ya (YQ ho hd (x:=.ref l) rfl (Ya (YQ ho hd (x:=rawInt (-1)) rfl ?_)));show Yz _ _ (if (-1:Int)<0 then _ else _) _ _ s;rw[if_pos (by decide)];refine Ya (wpAny_rule ?_);show Yz _ _ ((setField (.ref it) 1 (rawInt (-1)) >>= λ_=>setField (.ref it) 0 .none) >>= λb=>_) _ _ _;have e1:=YU (Obj.mapFields (·.setIfInBounds 1 (rawInt (-1)))) ho (Obj.isFreed_of_fields (YW hd _));refine Ya (Ya (wpAny_setField ho hd (by simp) (wpAny_setField e1 (YW hd _) (by simp) ?_)));refine Ya ?_;show Yz _ _ (newExc (.type "StopIteration") [] >>= λb=>_) _ _ _;refine Ya ?_;simp only[newExc,newTuple];refine Ya (Yq ?_ (by size_fits));refine Ya (m:=firstArgMember _ _) (Wh (a:=Value.none) (by first|rfl|(simp only[firstArgMember]<;>rfl)) (Yq ?_ (by size_fits)));simp only[raiseNew];refine Ya (wpAny_handled ?_);rw[show A.in1.handled=M from hh];refine Ya (Yc (wpAny_throw ?_));refine Ya (wpAny_isInstance (T := "StopIteration") (b:=true) ⟨_,Oj _ rfl,rfl⟩ isSubtype_stop (Yc (hQ _ ?_)));exact((((Heap.ExtBut.refl _ _).trans (Heap.SameBut.update ..).extBut).trans (Heap.SameBut.update ..).extBut).push _).push _
def ZdK(ay:Is s.heap it l i)(h:Q (.ref it) s):Yz (model prog w) A (pyIter (.ref it)) Q E s:=by refine wpAny_pyIter_slot ay.typeIs iter (Wc iter ay.typeIs Ztd ?_ (Zto _));exact Yc ⟨_,rfl, "reversed",_,ay.typeIs,next.lookup,h⟩
end
end Rv
noncomputable def Itv(K:Yk)(a:Yi)(n:Nat):It:=⟨λi H=>∃xs x,SqT K H a xs/\xs.length=n/\xs.reverse[i]?=J x,λi H x H'=>H'=H/\∀xs,SqT K H a xs->xs.reverse[i]?=J x,λi H=>∃xs,SqT K H a xs/\xs.length=n/\n=i⟩
def Zlr{P:Yh}{w:Yg}{K:Yk}{tg:Expr}(a it:Yi)(n:Nat):Turn P w K tg (Itv K a n) [it] it (λi h=>i<=n/\Rv.Is h it a ((n:Int)-1-i)) where
 mem:=by simp
 obj:=λi h st b hb=>by
  have e:b=it:=by simpa using hb
  subst e;obtain⟨_,o,e,c,d⟩:=st;exact⟨o,e,λv z=>by rw[d]at z;cases z⟩
 keep:=λi h h' st k=>⟨st.1,st.2.at λo e=>k it (by simp) o e⟩
 item:=by
  intro X hP hw hK hc i aa s Z H E I hf st hg;subst hP hw hK;obtain⟨cm,st⟩:=st;obtain⟨xs,x,hq,dW,hx⟩:=hg;obtain⟨its,rv,p,hz⟩:=I.tuple hq;have hl:=rv.length;have hi:i<xs.length:=by have:=(Ob.mp hx).1;simpa using this
  have bq:xs[n-1-i]?=J x:=by rw[List.getElem?_reverse hi]at hx;rw[<-dW];exact hx
  obtain⟨u,hu,ru⟩:=rv.get bq;obtain⟨f0,f1,f2,f3,f4,f5⟩:=hf it (by simp);have e1:(n:Int)-1-(i:Nat)=((n-1-i:Nat):Int):=by lia
  rw[e1]at st;refine Rv.next_item st p (by simp;lia) (x:=u) (by simpa using hu) λh' t' a7 sb=>?_;have I1:Inv X aa Z H {s with heap:=h',toks:=t'}:=I.turned (t':=t') (λb o hb e=>(sb.2 b hb).trans e) f0 f1 f3 f4 f5;obtain⟨o,e,c,d⟩:=id a7;have e2:((n-1-i:Nat):Int)-1=(n:Int)-1-((i+1:Nat):Int):=by lia
  refine⟨u,rfl,ZhU (s:={s with heap:=h',toks:=t'}) e c d (by decide) ⟨x,H,I1,ru,⟨rfl,λys hy=>by rw[I.tuple_inj hy hq];exact hx⟩,⟨by lia,by rw[<-e2];exact a7⟩,λb hb=>(hf b hb).1⟩⟩
 done:=by intro X hP hw hK hc i aa s Z H E I hf st hg;subst hP hw hK;obtain⟨xs,hq,dW,hx⟩:=hg;obtain⟨f0,f1,f2,f3,f4,f5⟩:=hf it (by simp);have bN:=st.2;rw[show(n:Int)-1-(i:Nat)=-1 by lia]at bN;exact Rv.next_end (I.ok.hd hc) bN λh' eb=>⟨rfl,I.turned (t':=s.toks) (λb o hb e=>eb b o hb e) f0 f1 f3 f4 f5⟩
 self:=λ_ _ _ _ _ st h=>Rv.ZdK st.2 h
theorem ZdB:∀{vs:List Yj}{ss:List Str},StrsAre vs ss->Zn (ss.map V.str) vs
 |_,_,.nil=>.nil
 |_,_,.cons y t h=>.cons ⟨t,rfl⟩ (ZdB h)
section
variable {prog:Yh}{w:Yg}{A:YG}{E:Yj->Yb->Prop}{s:Yb}
def Ziv
 (gh:∀kz:List Yj->Yb->Prop,(∀(h':YF) (tk:Nat) (vs:List Yj),s.heap.objs.size<=h'.objs.size->(∀b o,s.heap.get? b=J o->h'.get? b=J o)->StrsAre vs ss->kz vs {s with heap:=h',toks:=tk})->Yz (model prog w) A.in1 (collect (.ref r)) kz E s)
 (gw:ss.length<64)
 (h:∀(D:Yi) (h':YF) (tk:Nat) (out:List Yj) (a9:List Str) (n:Nat),(∀b o,s.heap.get? b=J o->h'.get? b=J o)->s.heap.objs.size<=D->h'.get? D=J {cls:=.type "list",data:=.seq out.toArray n}->StrsAre out a9->a9.Perm ss->sortedS a9=Wr ->
  Q (.ref D) {s with heap:=h',toks:=tk}):Yz (model prog w) A (call (.builtin "sorted") [.ref r]) Q E s:=by
 refine Calls.call_function_entry kind_sorted plain_sorted entry_sorted (args_sorted1 _) ?_;unfold Builtin.«sorted»;refine Ya (m:=checkCount "sorted" 1 1 _) (Yc (Ya (gh _ λh' tk vs hsz hk hS=>?_)));have ao:vs.length=ss.length:=by have:=(ZdB hS).length;simpa using this.symm
 have hz:vs.length<=sizeLine:=by rw[YA];lia
 refine Ya (wpAny_newList ?_ hz);have bZ:(h'.push (seqObj "list" vs.toArray 0)).get? h'.objs.size=J (seqObj "list" vs.toArray 0):=Oj _ rfl;refine Ya (Wb (Wc slot_list_sort ⟨_,bZ,rfl⟩ entry_list_sort (list_sort_treeK strKind_oneLt bZ hS.keysOf (λv₁ v₂ ac e=>keyKind_strs (by rw[<-e];exact hS)) (by lia) λa7 a1 a2=>⟨_,rfl,?_⟩) (args_list_sort _)));refine Yc ⟨_,rfl,?_⟩;obtain⟨a9,R,h2,h3⟩:=sorted_out_str hS a1 a2;obtain⟨e,he⟩:=sortedHeap_at (out:=(arrOf a7).map (·.2)) bZ;have e2:((arrOf a7).map (·.2))=((arrOf a7).map (·.2)).toList.toArray:=Array.toArray_toList.symm;refine h h'.objs.size _ tk ((arrOf a7).map (·.2)).toList a9 e (λb o q=>?_) hsz (by rw[<-e2];exact he) R h2 h3;have q':=hk b o q;have av:=Ym q';rw[sortedHeap_old (Ou av) (by rw[size_push'];exact Nat.lt_succ_of_lt av)];exact Od _ q'
def Zd7(K:PySem.W.KdlSrc prog w T r d n P OK)(hh:A.handled=M)(hok:OK s.heap)(hn:n<=sizeLine)
 (h:∀(h':YF) (tk:Nat) (ag:Array Yj),s.heap.objs.size<=h'.objs.size->(∀b o,s.heap.get? b=J o->h'.get? b=J o)->ItemsOf P ag n->kz ag.toList {s with heap:=h',toks:=tk}) :
 Yz (model prog w) A (collect (.ref r)) kz E s:=by
 have lt:=K.there _ hok;unfold collect;refine Ya (wpAny_runValue (codeAny_builtin entry_proto_collect' ?_));rw[Around.under_plainId PySem.F.plain_proto_collect _];show Yz _ A.in1 (newList [] >>= λx=>again (.builtin "list.__iadd__" ⟨[x,.ref r],[]⟩)) _ _ s;refine Ya (Yq (Yc ⟨plainId_quiet PySem.F.plain_list_iadd _,codeAny_builtin entry_list_iadd' ?_⟩));rw[Around.under_plainId PySem.F.plain_list_iadd _];have e0:(s.heap.push {cls:=.type "list",data:=.seq ([]:List Yj).toArray}).get? s.heap.objs.size=J {cls:=.type "list",data:=.seq #[]}:=Oj _ rfl;show Yz _ A.in1 (Builtin.List.listExtendWith (.ref s.heap.objs.size) (.ref r) (.ref s.heap.objs.size)) _ _ _;have key:=PySem.W.kdl_extend (A:=A) (s:={s with heap:=s.heap.push {cls:=.type "list",data:=.seq ([]:List Yj).toArray}})
  (R:=λ(q:Result) (s':Yb)=>∃(h':YF) (tk:Nat) (ag:Array Yj) (c:Nat),q=.ok (.ret (.ref s.heap.objs.size))/\s'={s with heap:=h',toks:=tk}/\(∀b o,s.heap.get? b=J o->h'.get? b=J o)/\h'.get? s.heap.objs.size=J {cls:=.type "list",dict:=M,data:=.seq ag c,slots:=#[]}/\ItemsOf P ag n)
  K hh (K.keep _ _ hok λb _ o e=>Od _ e) s.heap.objs.size (Nat.ne_of_gt lt.1) (Nat.ne_of_gt lt.2) (.ref s.heap.objs.size) 0 e0 (λh' tk ag c hk hS au=>⟨h',tk,ag,c,rfl,rfl,λb o e=>hk b o (Ou (Ym e)) (Od _ e),hS,au⟩) hn
 refine Yf key (λfin s' x=>?_) λe s' x=>?_
 . cases fin with
   |done f=>obtain⟨h',tk,ag,c,e,rfl,hk,hS,au⟩:=x;cases e;exact Ya (wpAny_load hS (Yc (h h' tk ag (Nat.le_of_lt (Ym hS)) hk au)))
   |again c₁=>refine⟨x.1,codeAny_mono x.2 λq s₂ y=>?_⟩;obtain⟨h',tk,ag,c,rfl,rfl,hk,hS,au⟩:=y;exact Ya (wpAny_load hS (Yc (h h' tk ag (Nat.le_of_lt (Ym hS)) hk au)))
 . obtain⟨_,_,_,_,z,_⟩:=x;cases z
end
theorem ZcS:∀{xs:List α}{ys:List β},Paired kz xs ys->∀{i:Nat}{x:α},xs[i]?=J x->∃y,ys[i]?=J y/\kz x y
 |_,_,.nil,i,x,e=>by simp at e
 |_,_,.cons h r,0,x,e=>by cases e;exact⟨_,rfl,h⟩
 |_,_,.cons h r,i+1,x,e=>by obtain⟨y,R,h2⟩:=ZcS r (i:=i) (x:=x) (by simpa using e);exact⟨y,by simpa using R,h2⟩
theorem ZeL:∀(ss:List Str) (vs:List Yj),vs.length=ss.length->(∀(j:Nat) (v:Yj),vs[j]?=J v->∃x,ss[j]?=J x/\(ZD P w).is (YC x) v=Wr)->StrsAre vs ss
 |[],[],_,_=>.nil
 |s::ss,v::vs,hl,h=>by obtain⟨x,e,hx⟩:=h 0 v rfl;cases e;obtain⟨t,rfl⟩:=Value.isStrOf_shape (x:=s) (v:=v) hx;exact .cons s t (ZeL ss vs (by simpa using hl) λj u hu=>h (j+1) u (by simpa using hu))
section
variable {X:Cx}
def ZlO(P:Yh)(w:Yg)(K:Yk):List V->Hp->VK->Prop:=λxs H Q=>∃a kvs ss,xs=[.ref a]/\Dk P w K H a kvs/\kvs.map (·.1)=ss.map YC/\ss.length<64/\∀p a9,H p=M->a9.Perm ss->sortedS a9=Wr->Q (.ref p) (upd H p (.lst (a9.map V.str)))
def Zg4(hc:X.A.handled=M):Zag X (.builtin "sorted") (ZlO X.prog X.w X.K):=by
 intro aa s Z H xs us Q I r h;obtain⟨a,kvs,ss,rfl,hd,dB,gw,q⟩:=h;obtain⟨u,rfl,ru⟩:=vals1 r;cases ru;obtain⟨z,hm,vs,am,dd⟩:=I.dk hd;obtain⟨ep,eG⟩:=dd.dictAt;have hl:vs.length=kvs.length:=(Paired.length am).symm;have bm:kvs.length=ss.length:=by have:=congrArg List.length dB;simpa using this
 have bD:∀(j:Nat) k x,vs[j]?=J (k,x)->∃y,ss[j]?=J y/\k=YC y:=λj k x e=>by
  have hj:j<vs.length:=(Ob.mp e).1;have R:kvs[j]?=J kvs[j]:=Og (by lia);obtain⟨u,hu,fR⟩:=ZcS am R;rw[e]at hu;cases hu;have h3:(kvs.map (·.1))[j]?=J kvs[j].1:=by rw[On,R];rfl
  rw[dB,On]at h3;obtain⟨y,hy,e3⟩:=Oo.mp h3;exact⟨y,hy,fR.1.symm.trans e3.symm⟩
 refine Ziv (ss:=ss) (λkz hR=>Zd7 (PySem.W.kdl_dict (knd:=ZD X.prog X.w) (kvs:=vs) (ep:=ep) hm) hc eG (by lia) λh' tk ag hsz hk au=>?_) gw λD h' tk out a9 n hk hD ho hS hp hs=>?_
 . refine hR h' tk ag.toList hsz hk (ZeL (P:=X.prog) (w:=X.w) ss ag.toList (by rw[Array.length_toList,au.1];lia) λj v hv=>?_);obtain⟨k,x,e,ee⟩:=au.2 j v (by rw[<-Array.getElem?_toList];exact hv);obtain⟨y,hy,rfl⟩:=bD j k x e;exact⟨y,hy,ee⟩
 . have ao:a9.length<=sizeLine:=by rw[hp.length_eq];lia
   refine⟨.ref D,_,I.laid (a:=D) (o:=.lst (a9.map V.str)) (t':=tk) hk hD ⟨by simpa using ao,out,n,ZdB hS,ho⟩,rfl,q D a9 (I.hok.fresh hD) hp hs⟩
end
set_option tactic.hygienic true
theorem ZcE:∀{ns:List Int}{vs:List Yj},Zn (ns.map V.int) vs->IntsAre vs ns
 |[],vs,h=>by cases h;exact .nil
 |s::ss,vs,h=>by
  rw[Op]at h;cases h with
  |cons R h2=>obtain⟨t,rfl⟩:=R;exact .cons s t (ZcE h2)
noncomputable def ZdD(z:Str)(n:Nat):Str:=⟨(YJ n z.cps).foldl (·++·) #[]⟩
theorem Zff(a:Array Nat):∀(n:Nat) (i:Array Nat),((YJ n a).foldl (·++·) i).size=i.size+n*a.size
 |0,i=>by simp
 |n+1,i=>by
  rw[List.replicate_succ,Wm,Zff a n (i++a),Array.size_append,Nat.succ_mul]
  lia
def Zc9(z:Str)(n:Nat):(ZdD z n).length=n*z.length:=by show((YJ n z.cps).foldl (·++·) #[]).size=_;rw[Zff];simp;rfl
section
variable {X:Cx}
def Zk9(hc:X.A.handled=M):Zag X (.builtin "sum") (λxs H Q=>∃(a:Yi) (ns:List Int),xs=[.ref a]/\SqL X.K H a (ns.map V.int)/\Q (.int ns.sum) H):=by
 intro aa s Z H xs us Q I r h;obtain⟨a,ns,rfl,hq,q⟩:=h;obtain⟨u,rfl,ru⟩:=vals1 r;cases ru;obtain⟨its,rv,pl,hz⟩:=I.list hq;have hi:=ZcE rv;obtain⟨ys,e⟩:=hi.allInts.items;refine sum_intListG (xs:=ys) hc (by rw[<-e];exact pl.isList) λh' tk t' hk=>?_;refine⟨.int ns.sum,H,I.kept (t':=tk) hk,⟨t',?_⟩,q⟩;have e2:=hi.numsOf;have e3:numsOf (intItems ys).toList=ns:=by rw[<-e];exact e2
 rw[nums_intItems]at e3;rw[preSum_eq,List.take_of_length_le (by simp),e3]
def ZnZ:OpR X (binaryOp .Mult) (λx y H Q=>∃z n,x=.str z/\y=.int n/\0<=n/\n<=1000/\z.length<=1000/\Q (.str (ZdD z n.toNat)) H):=by
 intro aa s Z H x y v u Q I rx ry h;obtain⟨z,n,rfl,rfl,h0,R,h2,q⟩:=h;obtain⟨t,rfl⟩:=rx;obtain⟨t2,rfl⟩:=ry;have hl:z.length*n.toNat<=1000000:=Nat.mul_le_mul h2 (by lia:n.toNat<=1000);have hs:(1000000:Nat)<=sizeLine:=by decide
 refine PySem.P.mul_str (by rw[decide_eq_false (by lia:¬ n < -(2^63:Int)),decide_eq_false (by lia:¬ n ≥ 2^63)]<;>rfl) (λ_ _=>?_) (λ_ _=>?_) ?_
 . have h3:1<=n:=by lia
   have h4:(9223372036854775807:Int)/n ≥ 1000:=by have:1000<=9223372036854775807/n:=(Int.le_ediv_iff_mul_le (by lia)).mpr (by lia);exact this
   show ¬ ((z.length:Int) > (2^63-1)/n);rw[show(2^63-1:Int)=9223372036854775807 by decide]
   lia
 . unfold Builtin.Str.tooLong;exact decide_eq_false (by lia)
 . by_cases hn:n<1
   . rw[if_pos hn];refine⟨by decide,.str _,H,I.tok _,⟨_,rfl⟩,?_⟩;rw[show n.toNat=0 by lia]at q;exact q
   . rw[if_neg hn];by_cases h5:(n==1||z.length==0)=Wr
     . rw[if_pos h5];refine⟨.str _,H,I,⟨_,rfl⟩,?_⟩;have e:ZdD z n.toNat=z:=by
        rw[Wo]at h5;rcases h5 with h5|h5
        . have e1:n.toNat=1:=by have:=eq_of_beq h5;lia
          rw[e1];unfold ZdD;simp
        . have e1:z.length=0:=eq_of_beq h5;have e2:(ZdD z n.toNat).length=0:=by rw[Zc9,e1];simp
          have f:∀y:Str,y.length=0->y=⟨#[]⟩:=λy hy=>by cases y with|mk c=>rw[show c=#[]from Array.eq_empty_of_size_eq_zero hy]
          exact(f _ e2).trans (f z e1).symm
       rw[e]at q;exact q
     . rw[if_neg h5];refine⟨?_,.str _,H,I.tok _,⟨_,rfl⟩,q⟩;show(ZdD z n.toNat).length<=sizeLine;rw[Zc9,Nat.mul_comm]
       lia
def ZgJ(hi:i.natAbs<2^2000)(hj:j.natAbs<2^2000):IntMulOk i j:=by
 have eO:∀k:Int,k.natAbs<2^2000->Builtin.Int.intBits k<=2000:=λk hk=>by
  unfold Builtin.Int.intBits;split
  . lia
  . rename_i h;have h0:k.natAbs≠0:=by simpa using h
    have:=(Nat.log2_lt h0).mpr hk
    lia
 unfold IntMulOk;have R:=eO i hi;have h2:=eO j hj;have h3:Builtin.Int.intTooBig (Builtin.Int.intBits i+Builtin.Int.intBits j:Nat)=Ws:=by
  unfold Builtin.Int.intTooBig;rw[decide_eq_false_iff_not];have:(bitsLine:Nat)=134217728:=by decide
  rw[this]
  lia
 intro q;simp only[Oa]at q;have q2:=q.2;rw[show((Builtin.Int.intBits i:Int)+(Builtin.Int.intBits j:Int))=((Builtin.Int.intBits i+Builtin.Int.intBits j:Nat):Int) by simp]at q2;rw[h3]at q2;cases q2
def ZkS:OpR X (binaryOp .Mult) (rI (λi j=>i.natAbs<2^2000/\j.natAbs<2^2000) λi j=>.int (i*j)):=opI λ_ _ _ _ _ _ _ hc q=>mul_int q (ZgJ hc.1 hc.2)
noncomputable def Zsl(K:Yk):R2:=λx y H Q=>∃a b ys,x=.ref a/\y=.ref b/\SqT K H a []/\SqT K H b ys/\Q (.ref b) H
def Zn2:OpR X (binaryOp .Add) (Zsl X.K):=by
 intro aa s Z H x y v u Q I rx ry h;obtain⟨a,b,ys,rfl,rfl,ha,hb,q⟩:=h;cases rx;cases ry;obtain⟨its,r1,ht,_⟩:=I.tuple ha;obtain⟨aC,r2,hb,_⟩:=I.tuple hb;cases r1;obtain⟨⟨cls,dd,data,sl⟩,ho,hc,n,hd⟩:=id ht;obtain⟨⟨gA,ft,data2,eU⟩,cS,eB,n2,eA⟩:=id hb;simp only at hc hd eB eA;subst hc hd eB eA;exact concat_meets ⟨_,ho,rfl⟩ ⟨_,cS,rfl⟩ noFill_tuple_add seq_tuple_add PySem.F.slot_tuple_add PySem.F.entry_tuple_add (PySem.F.args_tuple_add_2 _ _)
  (tuple_addW0 a b _ _ n n2 dd ft sl eU (by simp)) ⟨ho,cS,⟨.ref b,H,I,rfl,q⟩⟩
end
end L2
namespace HT
open PySem PyProof.Rows
section
variable {prog:Yh}{w:Yg}{A:YG}{E:Yj->Yb->Prop}{s:Yb}
def ZcB{t sl:Yi}{items:Array Yj}{lo hi:Option Int}{Q:Yj->Yb->Prop}(ht:IsTup s.heap t items)(hs:s.heap.IsSliceOf sl vl vu .none)(pl:IsPart vl lo)(pu:IsPart vu hi)
 (hw:sIx items.size 0 lo=0/\sIx items.size items.size hi=items.size) (h:Q (.ref t) s):Yz (model prog w) A (getItem (.ref t) (.ref sl)) Q E s:=by
 obtain⟨os,cQ,fg,ej⟩:=id hs;have gr:s.TypeIs (.ref sl) "slice" := ⟨os,cQ,fg⟩
 unfold getItem
 try with_reducible refine Wb ?_
 first|refine Ya (Yc ?_)|skip
 refine Ya (wpAny_sequenceKey ht.typeIs (by decide) ?_);refine Ya (YY (name:=O "__getitem__") ht.typeIs Wg
  (Wc Wg ht.typeIs entry_tuple_getitem ?_ (args_tuple_getitem _ _)))
 show Yz _ _ (Builtin.Tuple.tupleItemsOf (.ref t) >>= _) _ _ s;refine Ya (tupleItemsOf_ ht ?_);refine Ya (wpAny_typeOf gr ?_);rw[if_pos (by decide)];refine Ya (Zbr hs pl pu ?_);have fP:(((sIx items.size 0 lo:Nat):Int)==0&&(1:Int)==1&&(sIx items.size items.size hi-sIx items.size 0 lo)==items.size)=Wr:=by rw[hw.1,hw.2];simp
 show Yz _ _ (if (((sIx items.size 0 lo:Nat):Int)==0&&(1:Int)==1&&(sIx items.size items.size hi-sIx items.size 0 lo)==items.size)=Wr then _ else _) _ _ s;rw[if_pos fP];unfold Builtin.Tuple.tupleIsExact;refine Ya (Ya (wpAny_typeOf ht.typeIs (Yc ?_)));rw[if_pos (by decide)];exact Ya (wpAny_rule (Yc ⟨_,rfl,Yc h⟩))
end
end HT
namespace L2
open PySem PySem.Spec PyProof.Rows
section
variable {X:Cx}
def ZtY(K:Yk):V->Option Int->Option Int->Hp->VK->Prop:=λx lo hi H Q=>∃a xs,x=.ref a/\SqT K H a xs /\
 (HT.sIx xs.length 0 lo=0/\HT.sIx xs.length xs.length hi=xs.length)/\Q (.ref a) H
def ZlC:SlR X (ZtY X.K):=by
 intro aa s Z H x v vl vu lo hi sl Q I rx hs pl pu h;obtain⟨a,xs,rfl,hx,hw,q⟩:=h;cases rx;obtain⟨its,r,ht,hz⟩:=I.tuple hx;have ao:its.toArray.size=xs.length:=by rw[Of];exact r.length.symm
 refine⟨"tuple",_,PyProof.Rows.slot_tuple_getitem.lookup,ht.typeIs,?_⟩;exact HT.ZcB ht hs pl pu (by rw[ao];exact hw) ⟨.ref a,H,I,rfl,q⟩
end
end L2
namespace L2
set_option tactic.hygienic false
namespace Mx
open PySem PyProof.Rows
def nm:(toString "max" ++ toString ".loop" : String)="max.loop" := by decide
section
variable {prog:Yh}{w:Yg}{A:YG}{Z_:Result->Yb->Prop}{ku:Yi}{fo wo:List Yi}{m:Nat}{P:Nat->Yj->Prop}{S_:Nat->YF->Prop}
theorem loop(W:Walks prog w A.in1 ku fo wo m P S_)(bt:Nat->Nat->Bool)(hb:CmpOf prog w A.in1 .Gt P bt)(C:Yi)(hC:C ∉ fo)(kw:List (Str×Yj)):∀(d j:Nat) (s:Yb) (u:Yj) (c:Nat),
 m-(j+1)=d->j+1<=m->S_ (j+1) s.heap->P (argBest bt j) u->s.heap.get? C=J {cls:=.type "list",dict:=M,data:=.seq #[u,u] c,slots:=#[]} ->
 (∀v hp tk,P (argBest bt (m-1)) v->(∀b o,b ∉ wo->b≠C->s.heap.get? b=J o->hp.get? b=J o)->Z_ (.ok (.ret v)) {s with heap:=hp,toks:=tk}) ->
 codeAny (model prog w) A (.builtin "max.loop" ⟨[.ref ku,.none,.ref C],kw⟩) Z_ s:=by
 have fi:C ∉ wo:=λz=>hC (W.sub _ z);intro d;induction d with
 |zero=>
  intro j s u c e1 e2 st pu hc hz;have em:j+1=m:=by omega
  refine codeAny_builtin PySem.F.entry_max_loop ?_;rw[Around.under_plainId YT _];show Yz (model prog w) A.in1 (seqItems? (YB C) >>= _) _ _ s;refine Ya (wpAny_seqItems hc rfl ?_);show Yz (model prog w) A.in1 (tryCatch (pyNext (YB ku)) _ >>= _) _ _ s;refine Ya (wpAny_tryCatch (W.done s _ _ (em▸st) λhp tk kp=>?_));have cq:=kp C _ fi hc;show Yz (model prog w) A.in1 (updateSeq C (λ_=>#[]) >>= _) _ _ _;exact Ya (wpAny_updateSeq cq rfl (Ya (wpAny_letGo (Yc (hz u _ tk (by rw[<-em];exact pu) λb o b1 b2 e=>(YM _ _ (YK b2)).trans (kp b o b1 e))))))
 |succ d ih=>
  intro j s u c e1 e2 st pu hc hz;have lt:j+1<m:=by omega
  refine codeAny_builtin PySem.F.entry_max_loop ?_;rw[Around.under_plainId YT _];show Yz (model prog w) A.in1 (seqItems? (YB C) >>= _) _ _ s;refine Ya (wpAny_seqItems hc rfl ?_);show Yz (model prog w) A.in1 (tryCatch (pyNext (YB ku)) _ >>= _) _ _ s;refine Ya (wpAny_tryCatch (W.item (j+1) s _ _ lt st λv hp tk pv bN kp=>?_));have cq:=kp C _ fi hc;show Yz (model prog w) A.in1 (tryCatch (holding [v,v] (richCompare CmpOp.Gt v u >>= _)) _ >>= _) _ _ _;refine Ya (wpAny_tryCatch (Wb (Ya (hb (j+1) (argBest bt j) v u _ _ _ pv pu (Ya (Wb (wpAny_truthy_bool (Ya (wpAny_letGo (Yc ?_))))))))));cases q:bt (j+1) (argBest bt j)with
  |true=>
   simp only[if_true];refine Ya (wpAny_updateSeq cq rfl (Ya (wpAny_letGo ?_)));rw[nm];refine Yc ⟨plainId_quiet YT _,ih (j+1) _ v _ (by omega) lt (W.frame _ _ _ bN λb b1 o e=>?_) (by simp only[argBest,q,if_true];exact pv) (YU _ cq rfl) λv2 d7 dG dI dO=>?_⟩
   . exact(YM _ _ (λz:C=b=>hC (by rw[z];exact b1))).trans e
   . exact hz v2 d7 dG dI λb o b1 b2 e=>dO b o b1 b2 ((YM _ _ (YK b2)).trans (kp b o b1 e))
  |false=>simp only[OG,if_false];refine Ya (wpAny_letGo ?_);rw[nm];exact Yc ⟨plainId_quiet YT _,ih (j+1) _ u c (by omega) lt bN (by simp only[argBest,q,OG,if_false];exact pu) cq λv2 d7 dG dI dO=>hz v2 d7 dG dI λb o b1 b2 e=>dO b o b1 b2 (kp b o b1 e)⟩
def first(W:Walks prog w A.in1 ku fo wo m P S_)(bt:Nat->Nat->Bool)(hb:CmpOf prog w A.in1 .Gt P bt)(C:Yi)(hC:C ∉ fo)(dn:Str)(dv:Yj)(st:S_ 0 s.heap)
 (hc:s.heap.get? C=J {cls:=.type "list",dict:=M,data:=.seq #[] c,slots:=#[]})
 (hz:∀v hp tk,(m=0->v=dv)->(0<m->P (argBest bt (m-1)) v)->(∀b o,b ∉ wo->b≠C->s.heap.get? b=J o->hp.get? b=J o)->Z_ (.ok (.ret v)) {s with heap:=hp,toks:=tk}) :
 codeAny (model prog w) A (.builtin "max.loop" ⟨[.ref ku,.none,.ref C],[(dn,dv)]⟩) Z_ s:=by
 have fi:C ∉ wo:=λz=>hC (W.sub _ z);refine codeAny_builtin PySem.F.entry_max_loop ?_;rw[Around.under_plainId YT _];show Yz (model prog w) A.in1 (seqItems? (YB C) >>= _) _ _ s;refine Ya (wpAny_seqItems hc rfl ?_);show Yz (model prog w) A.in1 (tryCatch (pyNext (YB ku)) _ >>= _) _ _ s;by_cases hm:0<m
 . refine Ya (wpAny_tryCatch (W.item 0 s _ _ hm st λv hp tk pv bN kp=>?_));have cq:=kp C _ fi hc;show Yz (model prog w) A.in1 (updateSeq C (λ_=>#[v,v]) >>= _) _ _ _;refine Ya (wpAny_updateSeq cq rfl ?_);rw[nm];refine Yc ⟨plainId_quiet YT _,loop W bt hb C hC _ _ 0 _ v _ rfl hm (W.frame _ _ _ bN λb b1 o e=>?_) pv (YU _ cq rfl) λv2 d7 dG dI dO=>?_⟩
   . exact(YM _ _ (λz:C=b=>hC (by rw[z];exact b1))).trans e
   . exact hz v2 d7 dG (λz=>by omega) (λ_=>dI) λb o b1 b2 e=>dO b o b1 b2 ((YM _ _ (YK b2)).trans (kp b o b1 e))
 . have h0:m=0:=by omega
   refine Ya (wpAny_tryCatch (W.done s _ _ (h0▸st) λhp tk kp=>?_));exact Ya (wpAny_rule (Yc (hz dv hp tk (λ_=>rfl) (λz=>absurd z hm) λb o b1 _ e=>kp b o b1 e)))
end
section
variable {prog:Yh}{w:Yg}{A:YG}{E:Yj->Yb->Prop}{s:Yb}
def args(a d:Yj):argsOk "max" ⟨[a],[("default",d)]⟩:=by unfold argsOk;kernel_rfl
theorem call
 (h:Yz (model prog w) A.in1 (pyIter x) (λit s2=>∃ku fo wo m P S_ bt,it=.ref ku/\Walks prog w A.in1 ku fo wo m P S_/\S_ 0 s2.heap/\(∀b∈fo,b<s2.heap.objs.size)/\CmpOf prog w A.in1 .Gt P bt /\
  ∀v hp tk,(m=0->v=dv)->(0<m->P (argBest bt (m-1)) v)->(∀b o,b ∉ wo->s2.heap.get? b=J o->hp.get? b=J o)->Q v {s2 with heap:=hp,toks:=tk}) E s) :
 Yz (model prog w) A (PySem.call (.builtin "max") [x] [("default",dv)]) Q E s:=by
 refine wpAny_call (codeAny_call_builtin PySem.F.plain_max PySem.F.entry_max ?_);simp only[checkBuiltinCall,PySem.F.kind_max];have go:Yz (model prog w) A.in1 (Builtin.«max» ⟨[x],[("default",dv)]⟩) (λfin s'=>match fin with
  |.done f=>(match (Except.ok f:Result)with|.ok (.ret v)=>Q v s'|.ok _=>False|.error e=>E e s')
  |.again c'=>c'.quiet=Wr/\codeAny (model prog w) A c' (λr s'=>match r with|.ok (.ret v)=>Q v s'|.ok _=>False|.error e=>E e s') s') E s:=by
  show Yz (model prog w) A.in1 (Builtin.Builtins.bindParams "max" ["key", "default"] 0 ⟨[],[("default",dv)]⟩ >>= _) _ _ s;refine Ya (Wh (show Builtin.Builtins.bindParams "max" ["key", "default"] 0 ⟨[],[("default",dv)]⟩=pure [M,J dv]from rfl) (Ya (Yc (Ya (Yf h (λit s2 q=>?_) λ_ _ e=>e)))));obtain⟨ku,fo,wo,m,P,S_,bt,rfl,W,st,eg,hb,hQ⟩:=q;refine Ya (Yq ?_);have hC:s2.heap.objs.size ∉ fo:=λz=>Yu _ (eg _ z);rw[nm];exact Yc ⟨plainId_quiet YT _,first W bt hb s2.heap.objs.size hC _ dv (W.frame _ _ _ st λb _ o e=>Od _ e) (Oj _ rfl) λv hp tk a1 a2 kp=>hQ v hp tk a1 a2 λb o b1 e=>kp b o b1 (Ou (Ym e)) (Od _ e)⟩
 cases hs:Manifest.signature? "max" with
 |none=>exact Yc go
 |some sig=>have ha:=args x dv;simp only[argsOk,hs]at ha;have h2:Bind.checkArgs "max" sig ⟨[x],[("default",dv)]⟩=pure ():=ha;show Yz _ A.in1 (Bind.checkArgs "max" sig ⟨[x],[("default",dv)]⟩) _ _ s;rw[h2];exact Yc go
end
end Mx
end L2
namespace L2
open PySem PySem.Spec PyProof.Rows
set_option tactic.hygienic false
noncomputable def Zb5:List Int->Int->Int
 |[],d=>d
 |x::r,_=>r.foldl (λm y=>if y > m then y else m) x
theorem Zgt(ns:List Int):∀k,k<ns.length->(argBest (λi j=>Wt (ns.getD i 0 > ns.getD j 0)) k)<ns.length/\ns.getD (argBest (λi j=>Wt (ns.getD i 0 > ns.getD j 0)) k) 0=Zb5 (ns.take (k+1)) 0
 |0,h=>by
  cases ns with
  |nil=>simp at h
  |cons x r=>exact⟨by simp[argBest],by simp[argBest,Zb5]⟩
 |k+1,h=>by
  obtain⟨R,h2⟩:=Zgt ns k (by omega);have e:Zb5 (ns.take (k+1+1)) 0=if ns.getD (k+1) 0 > Zb5 (ns.take (k+1)) 0 then ns.getD (k+1) 0 else Zb5 (ns.take (k+1)) 0:=by
   cases ns with
   |nil=>simp at h
   |cons x r=>
    have hk:k<r.length:=by simpa using h
    show((r.take (k+1)).foldl _ x)=_;rw[List.take_succ_eq_append_getElem hk,List.foldl_append];simp only[Wm,List.foldl_nil];have:(x::r).getD (k+1) 0=r[k]:=by simp[List.getD_eq_getElem?_getD,Og hk]
    rw[this];rfl
  rw[e,<-h2];have ea:argBest (λi j=>Wt (ns.getD i 0 > ns.getD j 0)) (k+1)=if Wt (ns.getD (k+1) 0 > ns.getD (argBest (λi j=>Wt (ns.getD i 0 > ns.getD j 0)) k) 0)=Wr then k+1 else argBest (λi j=>Wt (ns.getD i 0 > ns.getD j 0)) k:=rfl;rw[ea];by_cases q:ns.getD (k+1) 0 > ns.getD (argBest (λi j=>Wt (ns.getD i 0 > ns.getD j 0)) k) 0
  . rw[if_pos (decide_eq_true q),if_pos q];exact⟨h,rfl⟩
  . rw[if_neg (by simpa using q),if_neg q];exact⟨R,rfl⟩
section
variable {X:Cx}
def Zmi(hc:X.calm=Wr)(I:Inv X aa Z H s)(hx:SqL X.K H a (ns.map V.int))(q:Q (.int (Zb5 ns d)) H):
 Yz (model X.prog X.w) X.A (PySem.call (.builtin "max") [.ref a] [("default",.int d t)]) (EP X aa Z Q) X.xe s:=by
 obtain⟨its,rv,pl,hz⟩:=I.list hx;have av:a<s.heap.objs.size:=by obtain⟨_,_,e,_⟩:=pl;exact Ym e
 have hl:its.length=ns.length:=by have:=rv.length;rw[Ys]at this;exact this.symm
 have val:∀{i:Nat}{v:Yj},its.toArray[i]?=J v->i<ns.length/\∃t,v=.int (ns.getD i 0) t:=λ{i v} hv=>by
  have cM:its[i]?=J v:=by simpa using hv
  have hi:i<ns.length:=by rw[<-hl];exact(Ob.mp cM).1
  have hb:(ns.map V.int)[i]?=J (.int ns[i]):=by rw[On,Og hi]<;>rfl
  obtain⟨u',e',r'⟩:=rv.get hb;rw[cM]at e';cases e';obtain⟨t,rfl⟩:=r';exact⟨hi,t,by simp[List.getD_eq_getElem?_getD,Og hi]⟩
 refine Mx.call (wpAny_pyIter_list pl.isList ?_);refine⟨s.heap.objs.size,_,_,_,_,_,λi j=>Wt (ns.getD i 0 > ns.getD j 0),rfl,Walks.list (A:=X.A.in1) (show X.A.in1.handled=M from I.ok.hd hc) s.heap.objs.size a (Ou av) its.toArray,⟨⟨_,Oj _ rfl,rfl,rfl⟩,pl.isList.push _⟩,?_,?_,λv hp tk a1 a2 kp=>?_⟩
 . intro b hb;have jj:b<s.heap.objs.size+1:=by
    simp at hb;rcases hb with rfl|rfl
    . exact OH _
    . exact Nat.lt_succ_of_lt av
   simpa[Heap.push]using jj
 . exact CmpOf.ints_gt (λi=>ns.getD i 0) λi v hv=>(val hv).2
 . refine⟨.int (Zb5 ns d),H,I.kept λb o e=>kp b o (λz=>?_) (Od _ e),?_,q⟩
   . have:b=s.heap.objs.size:=by simpa using z
     subst this;exact absurd (Ym e) (Yu _)
   . have hsz:its.toArray.size=ns.length:=by rw[Of,hl]
     by_cases h0:ns=[]
     . subst h0;have:=a1 (by rw[hsz];rfl);subst this;exact⟨t,rfl⟩
     . have jk:0<ns.length:=List.length_pos_iff.mpr h0;obtain⟨_,t3,ev⟩:=val (a2 (by rw[hsz];exact jk));refine⟨t3,?_⟩;rw[ev,hsz,(Zgt ns (ns.length-1) (by omega)).2,List.take_of_length_le (by omega)];cases ns with
       |nil=>exact absurd rfl h0
       |cons x r=>rfl
def Zr0(K:Yk)(ta tb:TE):TE:=λZ H Q=>ta Z H λv H1=>tb Z H1 λu H2=>∃a ns d,v=.ref a/\u=.int d/\SqL K H2 a (ns.map V.int)/\Q (.int (Zb5 ns d)) H2
def ZnP(hg:Gl X "max")(hm:X.mg "max"=M)(hc:X.calm=Wr)(ha:PE X x ta)(hb:PE X y tb)(he:Yy [x] X.env=[(Ws,eval x X.env)]):
 PE X (.Call (.Name "max" p) [x] [⟨J "default",y,kp⟩] pos) (Zr0 X.K ta tb):=by
 intro aa s Z H Q I h;refine YV (Zbi I hg hm boot_max ?_);refine PyProof.Rows.callWith_kw ?_ (by rw[he];rfl) (by rw[he];rfl);rw[he];refine Calls.spliced_cons (thn (ha aa s Z H _ I h) λv s1 ⟨vv,H1,I1,r1,q1⟩=>Calls.spliced_nil ?_);refine kws_cons (thn (hb aa s1 Z H1 _ I1 q1) λu s2 ⟨uu,H2,I2,r2,q2⟩=>kws_nil ?_);obtain⟨a,ns,d,rfl,rfl,hq,q⟩:=q2;cases r1;obtain⟨t,rfl⟩:=r2;exact Zmi hc I2 hq q
end
end L2
namespace L2
open PySem PySem.Spec PyProof PyProof.Rows PySem.AutoSeq1
set_option maxRecDepth 8000 in
def Zi3(l:Yi)(items:Array Yj)(n:Nat)(b:Yi)(aP:Array Yj)(n2:Nat)(od:Option Yi)(sl:Array (Option Yj))(j9:¬(!items.isEmpty&&Wj (items.size+aP.size))=Wr)(jh:items.size<=sizeLine)(cN:items.size+aP.size<=sizeLine+1):
 Meets (Builtin.«list.extend» ⟨[.ref l,.ref b],[]⟩) (λ_ kz s=>s.heap.get? l=J {cls:=.type "list",dict:=M,data:=.seq items n,slots:=#[]}/\s.heap.get? b=J {cls:=.type "tuple",dict:=od,data:=.seq aP n2,slots:=sl}/\kz (.ok (.ret Value.none)) {s with heap:=s.heap.update l (Obj.mapSeq λx=>x++aP),toks:=s.toks}):=
 .of_wp λprog w A kz s h=>by
  obtain⟨hp,g,d,tk,os⟩:=s;obtain⟨hl,hb,h⟩:=h;have f1:=idx_int;have f2:=AutoSeq1.sub_tuple_tuple;have f3:=AutoSeq1.sub_list_list;have f4:=AutoSeq1.sub_tuple_list;have f5:=AutoSeq1.sub_list_tuple;have dU:(items++aP).size<=sizeLine+1:=by rw[Array.size_append];exact cN
  wp_walk using (wpAny_updateSeq hl rfl (hz:=jh) (_hz':=dU)),wpAny_loadPart' hl,wpAny_loadPart' hb;exact⟨_,rfl,h⟩
section
variable {X:Cx}
def ZlQ(K:Yk):V->List V->Hp->VK->Prop:=λx vs H Q=>∃l b xs zs,x=.ref l/\vs=[.ref b]/\H l=J (.lst xs)/\SqT K H b zs/\xs.length+zs.length<=sizeLine/\Q .non (upd H l (.lst (xs++zs)))
def ZiL:MtM X "list.extend" (ZlQ X.K):=by
 intro aa s Z H x vs v us Q I rx rv h;obtain⟨l,b,xs,zs,rfl,rfl,hH,hB,hz,q⟩:=h;cases rx;obtain⟨u,rfl,ru⟩:=rv.one;cases ru;obtain⟨z,its,n,r,hl,e⟩:=I.lstM hH;obtain⟨aC,r2,⟨o,e2,oc,n2,od⟩,z2⟩:=I.tuple hB;obtain⟨cls,dc,kt,sl⟩:=o;simp only at oc od;subst oc;subst od;have bm:=r2.length;have hsz:its.toArray.size+aC.toArray.size<=sizeLine:=by rw[Of,Of];lia
 have bC:¬ (!its.toArray.isEmpty&&Wj (its.toArray.size+aC.toArray.size))=Wr:=by rw[ZhG hsz,Bool.and_false];exact Ow
 refine call_meets F.slot_list_extend ⟨_,e,rfl⟩ F.entry_list_extend (F.args_list_extend_2 _ _)
  (Zi3 l its.toArray n b aC.toArray n2 dc sl bC (by rw[Of];lia) (by lia)) ⟨e,e2,?_⟩
 refine⟨.non,_,I.lset (its':=its++aC) hH e (by simp) (r.append r2) ?_,rfl,q⟩;rw[OA]
 lia
end
end L2
namespace L2
open PySem PySem.Spec PyProof.Rows
noncomputable def ZrB(K:Yk)(a:Yi)(n:Nat):It:=⟨λi H=>∃xs x,SqL K H a xs/\xs.length=n/\xs.reverse[i]?=J x,λi H x H'=>H'=H/\∀xs,SqL K H a xs->xs.reverse[i]?=J x,λi H=>∃xs,SqL K H a xs/\xs.length=n/\n=i⟩
def Zkx{P:Yh}{w:Yg}{K:Yk}{tg:Expr}(a it:Yi)(n:Nat):Turn P w K tg (ZrB K a n) [it] it (λi h=>i<=n/\h.IsRevIter it a ((n:Int)-1-i)) where
 mem:=by simp
 obj:=λi h st b hb=>by
  have e:b=it:=by simpa using hb
  subst e;obtain⟨_,o,e,c,d⟩:=st;exact⟨o,e,λv z=>by rw[d]at z;cases z⟩
 keep:=λi h h' st k=>⟨st.1,st.2.at λo e=>k it (by simp) o e⟩
 item:=by
  intro X hP hw hK hc i aa s Z H E I hf st hg;subst hP hw hK;obtain⟨cm,st⟩:=st;obtain⟨xs,x,hq,dW,hx⟩:=hg;obtain⟨its,rv,p,hz⟩:=I.list hq;have hl:=rv.length;have hi:i<xs.length:=by have:=(Ob.mp hx).1;simpa using this
  have bq:xs[n-1-i]?=J x:=by rw[List.getElem?_reverse hi]at hx;rw[<-dW];exact hx
  obtain⟨u,hu,ru⟩:=rv.get bq;obtain⟨f0,f1,f2,f3,f4,f5⟩:=hf it (by simp);have e1:(n:Int)-1-(i:Nat)=((n-1-i:Nat):Int):=by lia
  rw[e1]at st;refine wpAny_pyNext_rev_item st p.isList (x:=u) (by simpa using hu) λh' a7 sb=>?_;have I1:Inv X aa Z H {s with heap:=h'}:=I.turned (t':=s.toks) (λb o hb e=>(sb.2 b hb).trans e) f0 f1 f3 f4 f5;obtain⟨o,e,c,d⟩:=id a7;have e2:((n-1-i:Nat):Int)-1=(n:Int)-1-((i+1:Nat):Int):=by lia
  exact⟨u,rfl,ZhU (s:={s with heap:=h'}) e c d (by decide) ⟨x,H,I1,ru,⟨rfl,λys hy=>by rw[I.list_inj hy hq];exact hx⟩,⟨by lia,by rw[<-e2];exact a7⟩,λb hb=>(hf b hb).1⟩⟩
 done:=by intro X hP hw hK hc i aa s Z H E I hf st hg;subst hP hw hK;obtain⟨xs,hq,dW,hx⟩:=hg;obtain⟨f0,f1,f2,f3,f4,f5⟩:=hf it (by simp);have bN:=st.2;rw[show(n:Int)-1-(i:Nat)=-1 by lia]at bN;exact wpAny_pyNext_rev_end (I.ok.hd hc) bN λh' eb=>⟨rfl,I.turned (t':=s.toks) (λb o hb e=>eb b o hb e) f0 f1 f3 f4 f5⟩
 self:=λ_ _ _ _ _ st h=>wpAny_pyIter_revIter st.2 h
def ZsZ(K:Yk)(ta:TA):TI:=λZ H kz=>ta Z H λvs H1=>∃a xs,vs=[.ref a]/\((SqT K H1 a xs/\kz (Itv K a xs.length) H1)\/(SqL K H1 a xs/\kz (ZrB K a xs.length) H1))
def ZnM{X:Cx}{tg l:Expr}{ta:TA}{p pos:Pos}(hg:Gl X "reversed")(hm:X.mg "reversed"=M)(ha:PA X [l] ta)(hs:Yy [l] X.env=[(Ws,eval l X.env)]:=by rfl):
 PI X tg (.Call (.Name "reversed" p) [l] [] pos) (ZsZ X.K ta):=by
 intro aa s Z H kz I h;refine Call_ (Zbi I hg hm boot_reversed (PyProof.Rows.callWith_type1 (thn (ha pos aa s Z H _ I h) λus s1 ⟨vs,H1,I1,r1,q1⟩=>?_) hs rfl));obtain⟨a,xs,rfl,q⟩:=q1;obtain⟨u,rfl,ru⟩:=vals1 r1;obtain rfl:u=YB a:=ru;rcases q with⟨hq,q⟩|⟨hq,q⟩
 . obtain⟨its,rv,pl,hz⟩:=I1.tuple hq;have hl:=rv.length;refine Rv.call pl (by simp;lia) ?_;have e1:((its.toArray.size:Nat):Int)-1=(xs.length:Int)-1-((0:Nat):Int):=by simp;lia
   have st:Rv.Is (s1.heap.push (Rv.obj a (((its.toArray.size:Nat):Int)-1))) s1.heap.objs.size a ((xs.length:Int)-1-((0:Nat):Int)):=⟨_,Oj _ rfl,rfl,by rw[<-e1];rfl⟩
   refine Rv.ZdK st ?_;refine⟨s1.heap.objs.size,[s1.heap.objs.size],_,_,H1,rfl,I1.kept (t':=s1.toks+1+1) λb o e=>Od _ e,Zlr a _ xs.length,⟨Yv _,st⟩,λb hb=>?_,q⟩;have e:b=s1.heap.objs.size:=by simpa using hb
   subst e;exact I1.fpOk (Oq _) (I1.hok.fresh (Oq _))
 . obtain⟨its,rv,pl,hz⟩:=I1.list hq;have hl:=rv.length;refine call_reversed_list pl.isList ?_;have e1:((its.toArray.size:Nat):Int)-1=(xs.length:Int)-1-((0:Nat):Int):=by simp;lia
   have st:(s1.heap.push (revObj a (((its.toArray.size:Nat):Int)-1))).IsRevIter s1.heap.objs.size a ((xs.length:Int)-1-((0:Nat):Int)):=⟨_,Oj _ rfl,rfl,by rw[<-e1];rfl⟩
   refine wpAny_pyIter_revIter st ?_;refine⟨s1.heap.objs.size,[s1.heap.objs.size],_,_,H1,rfl,I1.kept (t':=s1.toks) λb o e=>Od _ e,Zkx a _ xs.length,⟨Yv _,st⟩,λb hb=>?_,q⟩;have e:b=s1.heap.objs.size:=by simpa using hb
   subst e;exact I1.fpOk (Oq _) (I1.hok.fresh (Oq _))
set_option tactic.hygienic false
namespace Rv
def Zq8:Slot "reversed" "__length_hint__" "reversed.__length_hint__" :=
 .of (owner := "reversed") (n := "__length_hint__") (by rw[typeLookup_type,builtinLookup_eq_fast]<;>kernel_rfl) (by decide +kernel) (by decide +kernel) (by decide +kernel) (by first|exact .inl (by decide +kernel)|exact .inr (by decide +kernel)) (by rw[isSubtype_type]<;>kernel_rfl)
def Zte:entryFor table "reversed.__length_hint__"=J Builtin.«reversed.__length_hint__»:=entryFor_of_tree (by kernel_rfl)
def Ztp(a:Yj):argsOk "reversed.__length_hint__" ⟨[a],[]⟩:=by unfold argsOk;rw[signature?_of (id := "reversed.__length_hint__") (n:=['_','_','t','n','i','h','_','h','t','g','n','e','l','_','_']) (o:=['d','e','s','r','e','v','e','r']) (by kernel_rfl) own];kernel_rfl
def ZsF:typeLookup (.type "reversed") "__len__"=pure M:=by rw[typeLookup_type,builtinLookup_eq_fast]<;>kernel_rfl
section
variable {prog:Yh}{w:Yg}{A:YG}{E:Yj->Yb->Prop}{s:Yb}
def walks(hh:A.handled=M)(I l:Yi)(cU:l≠I)(items:Array Yj)(hz:items.size<=sizeLine):
 Walks prog w A I [I,l] [I] items.size (λi v=>items[items.size-1-i]?=J v) (λi h=>i<=items.size/\Is h I l ((items.size:Int)-1-(i:Int))/\IsTup h l items) where
 sub:=λb hb=>by simp at hb;simp[hb]
 frame:=λ_ _ _ x hk=>⟨x.1,x.2.1.at λo e=>hk I (by simp) o e,let⟨o,e,r⟩:=x.2.2;⟨o,hk l (by simp) o e,r⟩⟩
 item:=λi s Q E hi x hQ=>by have ay:=x.2.1;rw[show(items.size:Int)-1-(i:Int)=((items.size-1-i:Nat):Int) by lia]at ay;have hx:items[items.size-1-i]?=J (items[items.size-1-i]'(by lia)):=Array.getElem?_eq_getElem (by lia);refine next_item ay x.2.2 hz hx λh' t' b0 dz=>?_;rw[show((items.size-1-i:Nat):Int)-1=(items.size:Int)-1-((i+1:Nat):Int) by lia]at b0;exact hQ _ h' t' hx ⟨hi,b0,let⟨o,e,r⟩:=x.2.2;⟨o,(dz.2 l cU).trans e,r⟩⟩ λb o hb eo=>dz.extBut b o (λh=>hb (by simp[h])) eo
 done:=λs Q E x hQ=>by have ay:=x.2.1;rw[show(items.size:Int)-1-(items.size:Int)=-1 by lia]at ay;exact next_end hh ay λh' jB=>hQ h' s.toks λb o hb eo=>jB b o (λh=>hb (by simp[h])) eo
 self:=λ_ _ _ _ x hQ=>ZdK x.2.1 hQ
def Zov(ay:Is s.heap it l ((items.size:Int)-1))(hl:IsTup s.heap l items)(hz:items.size<=sizeLine)
 (hQ:∀u tk,s.toks<=tk->Q (.int (items.size:Int) u) {s with toks:=tk}):Yz (model prog w) A (PySem.call (.builtin "reversed.__length_hint__") [.ref it]) Q E s:=by
 have cY:(items.size:Int)<2^63:=by have:=ZaZ;lia
 obtain⟨o,ho,hc,hd⟩:=id ay;refine Wc Zq8 ay.typeIs Zte ?_ (Ztp _);unfold Builtin.«reversed.__length_hint__»;refine Ya (Wh (a:=YB it) rfl ?_);refine Ya (YQ ho hd (x:=.ref l) rfl ?_);rw[if_neg (by simp)];refine Ya (len_tuple hl cY ?_);refine Ya (m:=asInt? (.int _ _)) (Yc ?_);dsimp only;refine Ya (YQ ho hd (x:=rawInt ((items.size:Int)-1)) rfl ?_);show Yz _ _ (if (items.size:Int)<(items.size:Int)-1+1 then _ else _) _ _ _;rw[if_neg (by lia),show(items.size:Int)-1+1=items.size by lia];unfold retInt;refine Ya (wpAny_mkInt ?_);exact Yc ⟨_,rfl,hQ _ _ (by simp only;lia)⟩
def Zq7:typeLookup (.type "reversed") "__length_hint__"=pure (J (.builtin "reversed.__length_hint__")):=Zq8.lookup
def collects(hh:A.handled=M)(ay:Is s.heap I l ((items.size:Int)-1))(hl:IsTup s.heap l items)(cU:l≠I)(hz:items.size<=sizeLine)(h0:0<items.size)
 (hQ:∀s' ag,Moved [I] (λa b=>b=a) s s'->ItemsOf (λi v=>items[items.size-1-i]?=J v) ag items.size->Q ag.toList s'):Yz (model prog w) A (collect (.ref I)) Q E s:=by
 have W:=(walks (prog:=prog) (w:=w) (A:=A.in1) hh I l cU items hz).toS;have hst:0<=items.size/\Is s.heap I l ((items.size:Int)-1-((0:Nat):Int))/\IsTup s.heap l items:=⟨Yv _,by simpa using ay,hl⟩
 have jz:∀b∈[I,l],b<s.heap.objs.size:=λb hb=>by
  rcases O2.mp hb with rfl|hb
  . obtain⟨o,ho,_⟩:=ay;exact Ym ho
  . rw[Ox.mp hb];obtain⟨o,ho,_⟩:=hl;exact Ym ho
 have gt:s.heap.objs.size ∉ [I,l]:=λhm=>absurd (jz _ hm) (Yu _);have jI:s.heap.objs.size≠I:=λe=>gt (by rw[e];simp);unfold collect;refine Ya (wpAny_runValue ?_);refine codeAny_builtin F.entry_proto_collect ?_;rw[Around.under_plainId F.plain_proto_collect _];show Yz _ A.in1 (newList [] >>= λk=>again (.builtin "list.__iadd__" ⟨[k,.ref I],[]⟩)) _ _ s;refine Ya (Yq (Yc ⟨plainId_quiet F.plain_list_iadd _,?_⟩));refine codeAny_builtin F.entry_list_iadd ?_;rw[Around.under_plainId F.plain_list_iadd _];generalize hob:({cls:=.type "list",data:=.seq ([]:List Yj).toArray}:Obj)=ob;have bA:=W.frame 0 s (s.heap.push ob) s.toks hst (Oq _) λb _ o e=>Od _ e;have hJ:(s.heap.push ob).get? s.heap.objs.size=J ob:=Oj _ (by rw[<-hob];rfl);have e1:Builtin.List.listSameRef (.ref s.heap.objs.size) (.ref I)=Ws:=by simp[Builtin.List.listSameRef,jI]
 have hT:Shared.TypeIs {s with heap:=s.heap.push ob} (.ref I) "reversed" := bA.2.1.typeIs;show Yz _ A.in1 (Builtin.List.listExtendWith (.ref s.heap.objs.size) (.ref I) (.ref s.heap.objs.size)) _ _ _;unfold Builtin.List.listExtendWith;refine Ya (wpAny_typeOf hT ?_);rw[if_neg (by rw[e1];decide)];refine Ya (W.self 0 _ _ _ bA (Ya (Wb ?_)));unfold Builtin.List.listLengthHint;refine Ya (wpAny_specialOf hT ZsF ?_);show Yz _ A.in1 (specialOf (YB I) (O "__length_hint__") >>= _) _ _ _;refine Ya (wpAny_specialOf hT Zq7 ?_);have br:splitId "reversed.__length_hint__"=J ("reversed", "__length_hint__"):=by decide +kernel
 dsimp only;rw[br];dsimp only;refine Ya (wpAny_isInstance (b:=true) hT Zjo ?_);rw[if_neg (by decide),if_neg (by decide +kernel)];refine Ya (wpAny_rule (Ya (Wh (Zq8.bind _) ?_)));dsimp only;refine Ya (wpAny_attempt (Zov (by simpa using bA.2.1) bA.2.2 hz λu tk gQ=>?_));dsimp only;have ea:asInt? (Value.int (items.size:Int) u)=pure (J (items.size:Int)):=rfl;rw[ea];clear ea;generalize hk:(items.size:Int)=kk;refine Ya ?_;refine Yc ?_;dsimp only;have l1:Builtin.List.listFitsIndex kk=Wr:=by
  have:=ZaZ;unfold Builtin.List.listFitsIndex;rw[Oa,decide_eq_true_iff,decide_eq_true_iff]
  lia
 have l2:Wj kk.toNat=Ws:=by
  unfold Wj;rw[decide_eq_false_iff_not]
  lia
 rw[if_neg (by rw[l1];decide),if_neg (by lia),if_neg (by rw[l2];decide)];refine Yc ?_;rw[if_pos (by rw[Wo];left;rw[bne_iff_ne];lia)];subst hob;refine Ya (wpAny_rule (Ya ?_));show Yz _ A.in1 (updateSeq s.heap.objs.size (·.push .none) >>= λ_=>updateSeq s.heap.objs.size (·.pop)) _ _ _;refine Ya (wpAny_updateSeq hJ rfl ?_);have hG:=YU (Obj.mapSeq (·.push Value.none)) hJ rfl;refine wpAny_updateSeq hG rfl ?_;have jK:=YU (Obj.mapSeq (·.pop)) hG rfl;generalize hob:({cls:=.type "list",data:=.seq ([]:List Yj).toArray}:Obj)=ob at *;have gH:∀b o,b≠s.heap.objs.size->(s.heap.push ob).get? b=J o->(((s.heap.push ob).update s.heap.objs.size (Obj.mapSeq (·.push Value.none))).update s.heap.objs.size (Obj.mapSeq (·.pop))).get? b=J o:=λb o hb e=>(YM _ _ (YK hb)).trans ((YM _ _ (YK hb)).trans e)
 have fU:=W.frame 0 ({s with heap:=s.heap.push ob}:Yb) _ tk bA gQ λb hb o e=>gH b o (λh=>gt (h▸hb)) e;obtain⟨c,jJ⟩:∃c,(((s.heap.push ob).update s.heap.objs.size (Obj.mapSeq (·.push Value.none))).update s.heap.objs.size (Obj.mapSeq (·.pop))).get? s.heap.objs.size=J {cls:=.type "list",dict:=M,data:=.seq #[] c,slots:=#[]}:=by subst hob;exact⟨_,jK⟩
 refine Yc ⟨plainId_quiet F.plain_extend_loop _,?_⟩;refine codeAny_extend_loopS W hz _ gt _ items.size 0 _ #[] _ rfl (Yv _) fU jJ (ItemsOf.nil _) λs' gB c' hm jL au=>?_;show Yz _ A (load s.heap.objs.size >>= _) _ _ s';refine Ya (wpAny_load jL (Yc (hQ s' gB ?_ au)));refine Moved.drop_new (o:=ob) (tk:=tk) (Moved.trans W.gtrans ?_ hm) gQ;exact⟨λb o hb e=>gH b o (λh=>hb (h▸Oi)) e,rfl,rfl,rfl,Oq _⟩
def ZpM(hh:A.handled=M)(ay:Is s.heap I l ((items.size:Int)-1))(hl:IsTup s.heap l items)(cU:l≠I)(hz:items.size<=sizeLine)(h0:0<items.size)
 (h:∀s' ag,Moved [I] (λa b=>b=a) s s'->ItemsOf (λi v=>items[items.size-1-i]?=J v) ag items.size->Q (.ref s'.heap.objs.size) {s' with heap:=s'.heap.push {cls:=.type "tuple",data:=.seq ag}}) :
 codeAny (model prog w) A (.call (.builtin "tuple.__new__") ⟨[.type "tuple",.ref I],[]⟩) (wants Q E) s:=by
 refine codeAny_of_tree ?_;show Yz _ A.in1 (checkBuiltinCall "tuple.__new__" ⟨[.type "tuple",.ref I],[]⟩ >>= λ_=>again (.builtin "tuple.__new__" ⟨[.type "tuple",.ref I],[]⟩)) _ _ s;refine Ya (Wh (F.newCall_tuple_1 _) (Yc ⟨plainId_quiet F.plain_tuple_new _,?_⟩));refine codeAny_builtin F.entry_tuple_new ?_;rw[Around.under_plainId F.plain_tuple_new _];have fT:=sub_tuple_self;have g8:=init_tuple_lookup;have kf:=madeHere_tuple;have jH:=ay.typeIs
 wp_walk using wpAny_typeOf jH,collects (A:=A.in1) hh ay hl cU hz h0
 intro s' ag hm au;show Yz _ _ (Builtin.Tuple.tupleExact ag.toList.toArray >>= λv=>ret v) _ _ _;have e:ag.toList.toArray=ag:=by simp
 rw[e];unfold Builtin.Tuple.tupleExact;refine Ya (Yq (Yc (h s' ag hm au)) (by show ag.size<=sizeLine;rw[au.1];exact hz))
def Zng(hh:A.handled=M)(ay:Is s.heap I l ((items.size:Int)-1))(hl:IsTup s.heap l items)(cU:l≠I)(hz:items.size<=sizeLine)(h0:0<items.size)
 (h:∀s' ag,Moved [I] (λa b=>b=a) s s'->ItemsOf (λi v=>items[items.size-1-i]?=J v) ag items.size->Q (.ref s'.heap.objs.size) {s' with heap:=s'.heap.push {cls:=.type "tuple",data:=.seq ag}}) :
 Yz (model prog w) A (PySem.call (.type "tuple") [.ref I]) Q E s:=by
 refine callType_codes (Q₁:=λobj s1=>s1.TypeIs obj "tuple" /\ Q obj s1) F.called_tuple (F.typeCall_tuple_1 _) F.entry_object_init (ZpM hh ay hl cU hz h0 λs' ag hm au=>⟨⟨_,Oj _ rfl,rfl⟩,h s' ag hm au⟩) λobj s1 R=>?_;exact⟨R.1,F.args_object_init_2 obj _,object_init_meets F.called_tuple.init.lookup F.called_tuple.made (by decide) prog w A.in1 _ s1 ⟨R.1,rfl,R.2⟩⟩
end
end Rv
def Znk(K:Yk)(ta:TA):TE:=λZ H Q=>ta Z H λvs H1=>∃a xs,vs=[.ref a]/\SqT K H1 a xs/\xs≠[]/\∀p,H1 p=M->Q (.ref p) (upd H1 p (.tup xs.reverse))
theorem ZkP (hc:X.calm=Wr) (jx:Gl X "tuple") (jo:X.mg "tuple"=M) (jy:Gl X "reversed") (jp:X.mg "reversed"=M) (ha:PA X [l] ta)
   (hs:Yy [l] X.env=[(Ws,eval l X.env)]:=by rfl):PE X (.Call (.Name "tuple" p) [.Call (.Name "reversed" p2) [l] [] pos2] [] pos) (Znk X.K ta):=by
 intro aa s Z H Q I h;refine Call_ (Zbi I jx jo boot_tuple (PyProof.Rows.callWith_type1 ?_ rfl rfl));show Yz _ _ (spliced ((Ws,eval (.Call (.Name "reversed" p2) [l] [] pos2) X.env)::[])) _ _ s;refine Calls.spliced_cons ?_;refine Call_ (Zbi I jy jp boot_reversed (PyProof.Rows.callWith_type1 (thn (ha pos2 aa s Z H _ I h) λus s1 ⟨vs,H1,I1,r1,q1⟩=>?_) hs rfl));obtain⟨a,xs,rfl,hq,i8,q⟩:=q1;obtain⟨u,rfl,ru⟩:=vals1 r1;obtain rfl:u=YB a:=ru;obtain⟨its,rv,pl,hz⟩:=I1.tuple hq;have jq:=rv.length;have cO:0<its.toArray.size:=by
   cases xs with
   |nil=>exact absurd rfl i8
   |cons x r=>simp at jq ⊢;lia
 have gO:its.toArray.size<=sizeLine:=by simp;lia
 refine Rv.call pl gO (Calls.spliced_nil ?_);have av:a<s1.heap.objs.size:=by obtain⟨o,ho,_⟩:=pl;exact Ym ho
 refine Rv.Zng (I.ok.hd hc) (l:=a) (items:=its.toArray) ⟨_,Oj _ rfl,rfl,rfl⟩ (pl.push _) (Ou av) gO cO λs' ag hm au=>?_;obtain⟨hk,hg,hd,ho,ht⟩:=hm;have kp:∀ b o,s1.heap.get? b=J o->s'.heap.get? b=J o:=λb o e=>hk b o (λhb=>by
   rw [Ox.mp hb] at e;exact absurd (Ym e) (Yu _)) (Od _ e)
 have es:s'={s1 with heap:=s'.heap,toks:=s'.toks}:=by
   obtain⟨a1,a2,a3,a4,a5⟩:=s';simp only at hg hd ho;simp only [hg,hd,ho]
 have ea:ag.toList=its.reverse:=by
   apply List.ext_getElem?;intro j;rcases Nat.lt_or_ge j its.length with hj|hj
   . have g7:j<ag.size:=by rw [au.1];simpa using hj
     have e1:=au.2 j ag[j] (Array.getElem?_eq_getElem g7);rw [List.getElem?_reverse hj,Array.getElem?_toList,Array.getElem?_eq_getElem g7,<-e1];simp
   . rw [List.getElem?_eq_none (by have:=au.1;simp at this ⊢;lia),List.getElem?_eq_none (by simpa using hj)]
 have I2:Inv X aa Z H1 s':=by
   rw [es];exact I1.kept (t':=s'.toks) kp
 have ev:ag=its.reverse.toArray:=by rw [<-ea]
 have rr:Zn xs.reverse its.reverse:=rv.reverse;have I3:Inv X aa Z (upd H1 s'.heap.objs.size (.tup xs.reverse)) {s' with heap:=s'.heap.push {cls:=.type "tuple",data:=.seq ag}}:=by
   rw [ev];exact I2.laid (t':=s'.toks) (λb o e=>Od _ e) (Oq _) (show Z5 X.prog X.w _ _ _ (.tup xs.reverse) from⟨by simpa using hz,its.reverse,rr,ZaO.fresh _ _⟩)
 exact⟨.ref s'.heap.objs.size,_,I3,rfl,q _ (I2.hok.fresh (Oq _))⟩
set_option tactic.hygienic true
namespace Tx
noncomputable def place(x:Str):List Str->Option Nat
 |[]=>M
 |y::r=>if y=x then J 0 else(place x r).map (·+1)
theorem ZeW:∀{ys:List Str}{j:Nat},place x ys=J j->ys[j]?=J x/\∀m,m<j->∀y,ys[m]?=J y->y≠x
 |[],j,h=>by cases h
 |y::r,j,h=>by
  unfold place at h;by_cases e:y=x
  . rw[if_pos e]at h;cases h;exact⟨by simp[e],λm hm=>absurd hm (Nat.not_lt_zero _)⟩
  . rw[if_neg e]at h;obtain⟨k,hk,rfl⟩:=Oo.mp h;obtain⟨R,h2⟩:=ZeW hk;refine⟨by simpa using R,λm hm z hz=>?_⟩;cases m with
    |zero=>simp at hz;rw[<-hz];exact e
    |succ m=>exact h2 m (by lia) z (by simpa using hz)
section
variable {prog:Yh}{w:Yg}{A:YG}{E:Yj->Yb->Prop}{s:Yb}
def Zi9(hl:IsTup s.heap t items)(hn:items.size=ys.length)(hi:∀(i:Nat) (y:Str),ys[i]?=J y->∃t,items[i]?=J (Value.str y t))(hj:place x ys=J j)
 (hQ:∀u tk,Q (.int (j:Int) u) {s with toks:=tk}):Yz (model prog w) A (PySem.call (.builtin "tuple.index") [.ref t,.str x tx]) Q E s:=by
 obtain⟨o,ho,hc,n,hd⟩:=id hl;refine Wc F.slot_tuple_index hl.typeIs F.entry_tuple_index ?_ (F.args_tuple_index_2 _ _);unfold Builtin.«tuple.index»;refine Ya (Wh (a:=(YB t,[Value.str x tx])) rfl ?_);dsimp only;unfold Builtin.Tuple.tupleItemsOf;refine Ya (Ya (wpAny_seqItems ho hd (Yc ?_)))
 try dsimp only
 refine Ya (Yc ?_);refine Ya (Yc ?_);rw[Std.Legacy.Range.forIn_eq_forIn_range'];obtain⟨p1,p2⟩:=ZeW hj;have ju:j<ys.length:=(Ob.mp p1).1;have e0:List.range' [:min items.size items.size].start [:min items.size items.size].size [:min items.size items.size].step=List.range' 0 (items.size-0):=by show List.range' 0 ((min items.size items.size-0+1-1)/1) 1=_;simp
 rw[e0];refine Ya (wpAny_forIn_list _ (λl b s'=>∃i,l=List.range' i (items.size-i)/\b=(M,())/\s'=s/\i<=j) _ ?_ ?_ _ _ ⟨0,rfl,rfl,rfl,Yv _⟩)
 . rintro i ac b s' ⟨k,hk,rfl,rfl,hkj⟩;have dB:k<items.size:=by lia
   rw[show items.size-k=(items.size-(k+1))+1 by lia,List.range'_succ]at hk;obtain⟨rfl,rfl⟩:=List.cons.inj hk;obtain⟨y,hy⟩:∃y,ys[i]?=J y:=⟨ys[i]'(by lia),Og (by lia)⟩
   obtain⟨ty,ht⟩:=hi i y hy;rw[ht];dsimp only;refine Ya (eqBool_str ?_);by_cases e:i=j
   . subst e;rw[p1]at hy;cases hy;rw[if_pos (by simp)];unfold retInt;refine Ya (Ya (wpAny_mkInt (Yc (Yc ?_))));exact Yc ⟨_,rfl,hQ _ _⟩
   . rw[if_neg (by have:=p2 i (by lia) y hy;simpa using this)];exact Yc ⟨i+1,rfl,rfl,rfl,by lia⟩
 . rintro b s' ⟨k,hk,rfl,rfl,hkj⟩;have:=congrArg List.length hk;simp at this
   lia
end
end Tx
def ZiC(K:Yk):V->List V->Hp->VK->Prop:=λx vs H Q=>∃a ys y j,x=.ref a/\vs=[.str y]/\SqT K H a (ys.map .str)/\Tx.place y ys=J j/\Q (.int (j:Int)) H
def Zme:MtR X "tuple.index" (ZiC X.K):=by
 intro aa s Z H x vs v us Q I rx rv h;obtain⟨a,ys,y,j,rfl,rfl,hq,hp,q⟩:=h;cases rx;obtain⟨u,rfl,ru⟩:=rv.one;obtain⟨t,rfl⟩:=ru;obtain⟨its,rs,pl,hz⟩:=I.tuple hq;have hl:=rs.length;refine Tx.Zi9 pl (by simpa using hl.symm) (λi z hi=>?_) hp λu tk=>?_
 . obtain⟨u,hu,ru⟩:=rs.get (i:=i) (x:=.str z) (by simp[hi]);obtain⟨t2,rfl⟩:=ru;exact⟨t2,by simpa using hu⟩
 . exact⟨.int j,H,I.kept (h':=s.heap) (t':=tk) (λb o e=>e),⟨u,rfl⟩,q⟩
noncomputable def Zbp(K:Yk):Bool:=K.all λp=>!Wt (p.2.cls=.type "tuple")||p.2.dict.isNone
def ZoZ{K:Yk}(h:Zbp K=Wr)(e:K.lookup a=J o)(hc:o.cls=.type "tuple"):o.dict=M:=by
 have hm:∃b,(b,o)∈K:=by
  induction K with
  |nil=>cases e
  |cons p r ih=>
   rw[OF]at e;split at e
   . cases e;exact⟨p.1,Oi⟩
   . obtain⟨b,hb⟩:=ih (by unfold Zbp at h ⊢;rw[List.all_cons,Oa]at h;exact h.2) e;exact⟨b,Oh _ hb⟩
 obtain⟨b,hb⟩:=hm;have:=OC.mp h _ hb;simp only[hc,decide_true,Bool.not_true,Bool.false_or]at this;simpa using this
noncomputable def ZtD(K:Yk)(to:TE)(t:TA):TE:=λZ H Q=>to Z H λx H1=>(∃a ys,x=.ref a/\SqT K H1 a ys)/\t Z H1 λxs H2=>ZiC K x xs H2 Q
def Zqm{X:Cx}(hK:Zbp X.K=Wr)(ho:PE X o to)(ha:PA X [e] t)
 (aF:attributeBase o "index" X.env (eval o X.env)=eval o X.env)
 (bG:((YR aw (Yy [e] X.env)).all (λx=>!x.1)&&(backToKw aw (YX [] X.env)).all (λx=>x.1.isSome)&&Wt ([e].length+([]:List Keyword).length+(if ([]:List Keyword).isEmpty then 0 else 1)<30))=Wr)
 (aE:(apos.endLine==aw.line)=Wr) (hs:Yy [e] X.env=[(Ws,eval e X.env)]) :
 PE X (.Call (.Attribute o "index" apos) [e] [] aw) (ZtD X.K to t):=by
 intro aa s Z H Q I h;refine wpAny_Call_method_late aF bG aE rfl (thn (ho aa s Z H _ I h) λv s1 ⟨x,H1,I1,r1,ty,q1⟩=>?_);obtain⟨a,ys,rfl,hq⟩:=ty;cases r1;have ht:∃ob,s1.heap.get? a=J ob/\ob.cls=.type "tuple" /\ ob.dict=M:=by
  rcases hq with hq|⟨ob,its,n,hk,hc,hs,hz,r⟩
  . obtain⟨z,its,r,ob,e1,e2,e3,_⟩:=hq.ok I1.hok;exact⟨ob,e1,e2,e3⟩
  . exact⟨ob,I1.kIn a ob hk,hc,ZoZ hK hk hc⟩
 obtain⟨ob,e1,e2,e3⟩:=ht;refine⟨"tuple", "tuple.index",F.plainAttrs_tuple,F.slot_tuple_index,F.type_tuple_index,⟨ob,e1,e2⟩,λb hb=>by cases hb;exact⟨ob,e1,e3⟩,?_⟩;have hA:=ha aw aa s1 Z H1 _ I1 q1;rw[hs]at hA ⊢;refine Calls.callWith_builtin rfl (Calls.evalArgs_plain ?_);exact thn hA λus s2 ⟨vs,H2,I2,r2,q2⟩=>Zme aa s2 Z H2 (.ref a) vs (.ref a) us Q I2 rfl r2 q2
end L2
namespace L2
open PySem PySem.Spec PyProof.Rows
open PySem.AutoSeq1 (wpAny_loadPart')
namespace En1
section
variable {prog:Yh}{w:Yg}{A:YG}{E:Yj->Yb->Prop}{s:Yb}
def Zjm(st:s.heap.IsTupleIter ku T k)(tt:s.heap.IsTuple T us)(hy:us[k]?=J y)
 (q:∀R,R.IsTupleIter ku T (k+1)->Heap.SameBut ku s.heap R->Q y {s with heap:=R}):Yz (model prog w) A (Builtin.SmallTypes.nextOf (.ref ku)) Q E s:=by
 obtain⟨ob,g1,g2,g3⟩:=id st;obtain⟨ot,g4,_,m,g5⟩:=tt;unfold Builtin.SmallTypes.nextOf;refine Ya (YY (name:=O "__next__") st.typeIs F.slot_tuple_iterator_next (Wc F.slot_tuple_iterator_next st.typeIs F.entry_tuple_iterator_next ?g (F.args_tuple_iterator_next_1 _)))
 case g=>show Yz _ _ (field (.ref ku) 0 >>= _) _ _ s;refine Ya (YQ g1 g3 (x:=.ref T) rfl ?_);show Yz _ _ (if (YB T==Value.none)=Wr then _ else _) _ _ s;rw[if_neg (show ¬ ((YB T==Value.none)=Wr)from Ow)];show Yz _ _ (field (.ref ku) 1 >>= _) _ _ s;refine Ya (YQ g1 g3 (x:=.int k 0) rfl ?_);show Yz _ _ (seqItems? (.ref T) >>= _) _ _ s;refine Ya (wpAny_seqItems g4 g5 ?_);simp only[Int.toNat_natCast,hy];refine Ya (wpAny_setField g1 g3 (by simp) (Yc ⟨y,rfl,Yc (q _ ?_ (Heap.SameBut.update ..))⟩));exact⟨_,YU _ g1 (Obj.isFreed_of_fields (YW g3 _)),(Obj.cls_mapFields ..).trans g2,by rw[YW g3];simp[rawInt]⟩
def ZpP(calm:A.handled=M)(st:s.heap.IsTupleIter ku T k)(tt:s.heap.IsTuple T us)(hy:us[k]?=M)
 (q:∀R x,Heap.ExtBut ku s.heap R->(∃ob,R.get? x=J ob/\ob.cls=.type "StopIteration")->E (.ref x) {s with heap:=R}):Yz (model prog w) A (Builtin.SmallTypes.nextOf (.ref ku)) Q E s:=by
 obtain⟨ob,g1,g2,g3⟩:=id st;obtain⟨ot,g4,_,m,g5⟩:=tt;unfold Builtin.SmallTypes.nextOf;refine Ya (YY (name:=O "__next__") st.typeIs F.slot_tuple_iterator_next (Wc F.slot_tuple_iterator_next st.typeIs F.entry_tuple_iterator_next ?g (F.args_tuple_iterator_next_1 _)))
 case g=>
  show Yz _ _ (field (.ref ku) 0 >>= _) _ _ s;refine Ya (YQ g1 g3 (x:=.ref T) rfl ?_);show Yz _ _ (if (YB T==Value.none)=Wr then _ else _) _ _ s;rw[if_neg (show ¬ ((YB T==Value.none)=Wr)from Ow)];show Yz _ _ (field (.ref ku) 1 >>= _) _ _ s;refine Ya (YQ g1 g3 (x:=.int k 0) rfl ?_);show Yz _ _ (seqItems? (.ref T) >>= _) _ _ s;refine Ya (wpAny_seqItems g4 g5 ?_);simp only[Int.toNat_natCast,hy];refine Ya (wpAny_rule (Ya (wpAny_setField g1 g3 (by simp) ?_)));show Yz _ _ (newExc (.type "StopIteration") [] >>= _) _ _ _;refine Ya ?_;simp only[newExc,newTuple];refine Ya (Yq ?_ (by size_fits));refine Ya (m:=firstArgMember _ _) (Wh (a:=Value.none) (by first|rfl|(simp only[firstArgMember];rfl)) ?_);refine Yq ?_ (by size_fits);simp only[raiseNew];refine Ya (wpAny_handled ?_)
  first|rw[show A.in1.handled=M from calm]|rw[calm]
  exact Ya (Yc (wpAny_throw (q _ _ (((Heap.SameBut.update ..).extBut.push _).push _) ⟨_,Oj _ rfl,rfl⟩)))
end
end En1
end L2
namespace L2
open PySem PySem.Spec PyProof.Rows
section
variable {prog:Yh}{w:Yg}{A:YG}{E:Yj->Yb->Prop}{s:Yb}
def Tx.call_lindex(hl:PlainL s.heap l items)(hn:items.size=ys.length)(hs:ys.length<=sizeLine)(hi:∀(i:Nat) (y:Str),ys[i]?=J y->∃t,items[i]?=J (Value.str y t))(hj:place x ys=J j)
 (hQ:∀u tk,Q (.int (j:Int) u) {s with toks:=tk}):Yz (model prog w) A (PySem.call (.builtin "list.index") [.ref l,.str x tx]) Q E s:=by
 obtain⟨⟨cls,dd,data,sl⟩,n,ho,hc,jD,hd⟩:=hl;simp only at hc hd jD;subst hc hd;obtain⟨p1,p2⟩:=ZeW hj;have ju:j<ys.length:=(Ob.mp p1).1;rw[YA]at hs;let e:Yj->Bool:=λv=>match v with|.str y _=>y==x|_=>Ws
 have aB:∀(i:Nat) (h:i<items.size),∃y t,ys[i]?=J y/\items[i]=Value.str y t:=λi h=>by
  obtain⟨y,hy⟩:∃y,ys[i]?=J y:=⟨ys[i]'(by lia),Og (by lia)⟩
  obtain⟨t,ht⟩:=hi i y hy;rw[Array.getElem?_eq_getElem h]at ht;exact⟨y,t,hy,YE ht⟩
 refine call_meets PySem.F.slot_list_index ⟨_,ho,rfl⟩ PySem.F.entry_list_index (PySem.F.args_list_index_2 _ _) (SeqAt.list_indexAt l items n dd sl (.str x tx) e j (by lia) (by lia) ?_ ?_) ⟨ho,λy hy=>?_,hQ _ _⟩
 . obtain⟨y,t,R,h2⟩:=aB j (by lia);rw[p1]at R;cases R;rw[h2];show(x==x)=Wr;simp
 . intro m hm av;obtain⟨y,t,R,h2⟩:=aB m hm;rw[h2];show(y==x)=Ws;have:=p2 m av y R;simpa using this
 . obtain⟨i,h,rfl⟩:=Array.mem_iff_getElem.mp hy;obtain⟨y,t,R,h2⟩:=aB i h;rw[h2];exact λprog w E Q hq=>eqBool_str hq
end
def ZgE(K:Yk):V->List V->Hp->VK->Prop:=λx vs H Q=>∃a ys y j,x=.ref a/\vs=[.str y]/\SqL K H a (ys.map .str)/\Tx.place y ys=J j/\Q (.int (j:Int)) H
def ZkX:MtR X "list.index" (ZgE X.K):=by
 intro aa s Z H x vs v us Q I rx rv h;obtain⟨a,ys,y,j,rfl,rfl,hq,hp,q⟩:=h;cases rx;obtain⟨u,rfl,ru⟩:=rv.one;obtain⟨t,rfl⟩:=ru;obtain⟨its,rs,pl,hz⟩:=I.list hq;have hl:=rs.length;refine Tx.call_lindex pl (by simpa using hl.symm) (by simpa using hz) (λi z hi=>?_) hp λu tk=>?_
 . obtain⟨u,hu,ru⟩:=rs.get (i:=i) (x:=.str z) (by simp[hi]);obtain⟨t2,rfl⟩:=ru;exact⟨t2,by simpa using hu⟩
 . exact⟨.int j,H,I.kept (h':=s.heap) (t':=tk) (λb o e=>e),⟨u,rfl⟩,q⟩
noncomputable def ZtJ(K:Yk)(to:TE)(t:TA):TE:=λZ H Q=>to Z H λx H1=>(∃a ys,x=.ref a/\SqL K H1 a ys)/\t Z H1 λxs H2=>ZgE K x xs H2 Q
def Zqr(ho:PE X o to)(ha:PA X [e] t)
 (aF:attributeBase o "index" X.env (eval o X.env)=eval o X.env)
 (bG:((YR aw (Yy [e] X.env)).all (λx=>!x.1)&&(backToKw aw (YX [] X.env)).all (λx=>x.1.isSome)&&Wt ([e].length+([]:List Keyword).length+(if ([]:List Keyword).isEmpty then 0 else 1)<30))=Wr)
 (aE:(apos.endLine==aw.line)=Wr) (hs:Yy [e] X.env=[(Ws,eval e X.env)]) :
 PE X (.Call (.Attribute o "index" apos) [e] [] aw) (ZtJ X.K to t):=by
 intro aa s Z H Q I h;refine wpAny_Call_method_late aF bG aE rfl (thn (ho aa s Z H _ I h) λv s1 ⟨x,H1,I1,r1,ty,q1⟩=>?_);obtain⟨a,ys,rfl,hq⟩:=ty;cases r1;obtain⟨its,rs,⟨ob,n,e1,e2,e3,_⟩,hz⟩:=I1.list hq;refine⟨"list", "list.index",F.plainAttrs_list,F.slot_list_index,F.type_list_index,⟨ob,e1,e2⟩,λb hb=>by cases hb;exact⟨ob,e1,e3⟩,?_⟩;have hA:=ha aw aa s1 Z H1 _ I1 q1;rw[hs]at hA ⊢;refine Calls.callWith_builtin rfl (Calls.evalArgs_plain ?_);exact thn hA λus s2 ⟨vs,H2,I2,r2,q2⟩=>ZkX aa s2 Z H2 (.ref a) vs (.ref a) us Q I2 rfl r2 q2
noncomputable def ZtR(d:PyData):Bool:=isDisplay d&&(PyData.showable d&&(PyData.intsShort 13 d&&(Wt (PyData.weight d<=2^20)&&Wt (PyData.depth d<=1000))))
structure XAs(K:Yk)(a b:Yi):Prop extends ExcN K a where
 sub:PySem.W.subIn K (.ref b) (.ref a)=J Wr
 aB:ExcA K b
 one:PySem.W.kitOne K (.ref b) (.ref b)=J Wr
namespace Zp
structure ZS(n a b i:Nat)(f0:Yj)(h:YF):Prop where
 zip:IsZip h (n+4) (n+2) (n+3) f0
 ti:IsPair h (n+2) (.ref n) (.ref (n+1))
 to:∃c d,IsPair h (n+3) c d
 i1:h.IsTupleIter n a i
 i2:h.IsTupleIter (n+1) b i
abbrev Kps(n:Nat)(h h':YF):Prop:=∀c o,c≠n+4->c≠n+3->c≠n->c≠n+1->h.get? c=J o->h'.get? c=J o
section
variable {prog:Yh}{w:Yg}{A:YG}{E:Yj->Yb->Prop}{s:Yb}{n a b i:Nat}{us vs:Array Yj}{x y:Yj}{Q:Yj->Yb->Prop}
theorem IsPair.sb{h h':YF}{c t:Yi}{p q:Yj}(e:IsPair h t p q)(sb:Heap.SameBut c h h')(ne:t≠c):IsPair h' t p q:=sb.extBut _ _ ne e
def body(ha:a<n)(hb:b<n)(z:ZS n a b i .none s.heap)(ta:s.heap.IsTuple a us)(tb:s.heap.IsTuple b vs)(hx:us[i]?=J x)(hy:vs[i]?=J y)
 (q:∀h',ZS n a b (i+1) (rawInt s.heap.objs.size) h'->IsPair h' s.heap.objs.size x y->Kps n s.heap h'->Q (.ref s.heap.objs.size) {s with heap:=h'}) :
 Yz (model prog w) A (Builtin.«zip.__next__» ⟨[.ref (n+4)],[]⟩) (λf s'=>∃v,f=.done (.ret v)/\Q v s') E s:=by
 obtain⟨z0,z1,⟨c,d,z2⟩,z3,z4⟩:=z;have na:a≠n/\a≠n+1/\a≠n+3/\a≠n+4:=by lia
 have nb:b≠n/\b≠n+1/\b≠n+3/\b≠n+4:=by lia
 have ne:∀{j k:Nat},j≠k->n+j≠n+k:=λe z=>e (by lia);have n0:∀{k:Nat},0<k->n≠n+k:=λe z=>by lia
 have eY:∀{k:Nat},0<k->n+k≠n:=λe z=>by lia
 show Yz _ _ (field (.ref (n+4)) 2 >>= _) _ _ _;refine Ya (YQ z0 rfl (x:=.bool Ws) rfl ?_);show Yz _ _ (field (.ref (n+4)) 3 >>= _) _ _ _;refine Ya (YQ z0 rfl (x:=.ref (n+2)) rfl (Ya (wpAny_seqItems z1 rfl ?_)));show Yz _ _ (Builtin.SmallTypes.ownedTupleIsFree (.ref (n+4)) >>= _) _ _ _;refine Ya ?_;unfold Builtin.SmallTypes.ownedTupleIsFree;refine Ya (YQ z0 rfl (x:=.none) rfl (Yc ?_));simp only[if_true];refine Ya (wpAny_rule (Ya (YQ z0 rfl (x:=.ref (n+3)) rfl (Ya (wpAny_setField_rec z0 (by simp) λR y0 s1=>?_)))))
 replace y0:IsZip R (n+4) (n+2) (n+3) .ellipsis:=y0
 refine Ya ?_;simp only[List.zipIdx_cons,List.zipIdx_nil,List.forIn_cons,List.forIn_nil];refine Ya (Ya (wpAny_onRaise ?_));show Yz _ _ (Builtin.SmallTypes.nextOf (.ref n) >>= _) _ _ _;refine Ya (En1.Zjm (z3.at λo e=>s1.extBut _ _ (n0 (by decide)) e) (ta.extBut s1.extBut na.2.2.2) hx λh2 k1 s2=>Yc ?_);have p2:IsPair h2 (n+3) c d:=IsPair.sb (IsPair.sb z2 s1 (ne (by decide))) s2 (eY (by decide));refine Ya (wpAny_seqItems p2 rfl (Ya (wpAny_updateSeq_pair p2 λh3 p3 s3=>?_)))
 replace p3:IsPair h3 (n+3) x d:=p3
 refine Ya (wpAny_letGo (Yc (Ya (Ya (wpAny_onRaise ?_)))));show Yz _ _ (Builtin.SmallTypes.nextOf (.ref (n+1)) >>= _) _ _ _;have u3:∀c o,c≠n+4->c≠n->c≠n+3->s.heap.get? c=J o->h3.get? c=J o:=λc o c1 c2 c3 e=>s3.extBut _ _ c3 (s2.extBut _ _ c2 (s1.extBut _ _ c1 e));refine Ya (En1.Zjm (z4.at λo e=>u3 _ o (ne (by decide)) (eY (by decide)) (ne (by decide)) e) (tb.at λo e=>u3 _ o nb.2.2.2 nb.1 nb.2.2.1 e) hy λh4 k2 s4=>Yc ?_);have p4:IsPair h4 (n+3) x d:=IsPair.sb p3 s4 (ne (by decide));refine Ya (wpAny_seqItems p4 rfl (Ya (wpAny_updateSeq_pair p4 λh5 p5 s5=>?_)))
 replace p5:IsPair h5 (n+3) x y:=p5
 refine Ya (wpAny_letGo (Yc (Yc (Ya (wpAny_seqItems p5 rfl (Ya (wpAny_newTuple ?_)))))));have sz:h5.objs.size=s.heap.objs.size:=by rw[s5.1,s4.1,s3.1,s2.1,s1.1]
 have u5:Kps n s.heap h5:=λc o c1 c2 c3 c4 e=>s5.extBut _ _ c2 (s4.extBut _ _ c4 (u3 c o c1 c3 c2 e));have y5:IsZip h5 (n+4) (n+2) (n+3) .ellipsis:=s5.extBut _ _ (ne (by decide)) (s4.extBut _ _ (ne (by decide)) (s3.extBut _ _ (ne (by decide)) (s2.extBut _ _ (eY (by decide)) y0)));have l5:n+4<h5.objs.size:=Ym y5;show Yz _ _ (Builtin.SmallTypes.ownedTupleHandOut (.ref (n+4)) (.ref h5.objs.size) >>= _) _ _ _;refine Ya ?_;unfold Builtin.SmallTypes.ownedTupleHandOut;have y6:IsZip (h5.push {cls:=.type "tuple",data:=.seq #[x,y]}) (n+4) (n+2) (n+3) .ellipsis:=Od _ y5;refine Ya (wpAny_setField_rec y6 (by simp) λh7 y7 s7=>?_)
 replace y7:IsZip h7 (n+4) (n+2) (n+3) (rawInt h5.objs.size):=y7
 refine wpAny_setField_rec y7 (by simp) λh8 y8 s8=>Yc ⟨_,rfl,?_⟩
 replace y8:IsZip h8 (n+4) (n+2) (n+3) (rawInt h5.objs.size):=y8
 have up:∀c o,c≠n+4->h5.get? c=J o->h8.get? c=J o:=λc o c1 e=>s8.extBut _ _ c1 (s7.extBut _ _ c1 (Od _ e));have t8:IsPair h8 h5.objs.size x y:=s8.extBut _ _ (Nat.ne_of_gt l5) (s7.extBut _ _ (Nat.ne_of_gt l5) (Oj _ rfl));show Q (.ref h5.objs.size) _;rw[sz]at y8 t8 ⊢;refine q h8 ⟨y8,up _ _ (ne (by decide)) (u5 _ _ (ne (by decide)) (ne (by decide)) (eY (by decide)) (ne (by decide)) z1),⟨x,y,up _ _ (ne (by decide)) p5⟩,k1.at λo e=>up _ o (n0 (by decide)) (s5.extBut _ _ (n0 (by decide)) (s4.extBut _ _ (n0 (by decide)) (s3.extBut _ _ (n0 (by decide)) e))),k2.at λo e=>up _ o (ne (by decide)) (s5.extBut _ _ (ne (by decide)) e)⟩ t8 λc o c1 c2 c3 c4 e=>up c o c1 (u5 c o c1 c2 c3 c4 e)
def fin(hh:A.handled=M)(ha:a<n)(z:ZS n a b i .none s.heap)(ta:s.heap.IsTuple a us)(hx:us[i]?=M){Q:Fin->Yb->Prop}
 (q:∀h' e,Kps n s.heap h'->(∃o,h'.get? e=J o/\o.cls=.type "StopIteration")->E (.ref e) {s with heap:=h'}) :
 Yz (model prog w) A (Builtin.«zip.__next__» ⟨[.ref (n+4)],[]⟩) Q E s:=by
 obtain⟨z0,z1,⟨c,d,z2⟩,z3,z4⟩:=z;show Yz _ _ (field (.ref (n+4)) 2 >>= _) _ _ _;refine Ya (YQ z0 rfl (x:=.bool Ws) rfl ?_);show Yz _ _ (field (.ref (n+4)) 3 >>= _) _ _ _;refine Ya (YQ z0 rfl (x:=.ref (n+2)) rfl (Ya (wpAny_seqItems z1 rfl ?_)));show Yz _ _ (Builtin.SmallTypes.ownedTupleIsFree (.ref (n+4)) >>= _) _ _ _;refine Ya ?_;unfold Builtin.SmallTypes.ownedTupleIsFree;refine Ya (YQ z0 rfl (x:=.none) rfl (Yc ?_));simp only[if_true];refine Ya (wpAny_rule (Ya (YQ z0 rfl (x:=.ref (n+3)) rfl (Ya (wpAny_setField_rec z0 (by simp) λR y0 s1=>?_)))))
 replace y0:IsZip R (n+4) (n+2) (n+3) .ellipsis:=y0
 refine Ya ?_;simp only[List.zipIdx_cons,List.zipIdx_nil,List.forIn_cons,List.forIn_nil];refine Ya (Ya (wpAny_onRaise ?_));show Yz _ _ (Builtin.SmallTypes.nextOf (.ref n) >>= _) _ _ _;refine Ya (En1.ZpP hh (z3.at λo e=>s1.extBut _ _ (by lia) e) (ta.extBut s1.extBut (by lia)) hx λh2 e s2 he=>?_);obtain⟨oe,e1,e2⟩:=he;have y2:IsZip h2 (n+4) (n+2) (n+3) .ellipsis:=s2 _ _ (by lia) y0;have ne:e≠n+4:=λx=>by subst x;rw[y2]at e1;cases e1;simp at e2
 exact wpAny_setField_rec y2 (by simp) λh3 _ s3=>q h3 e (λc o c1 _ c3 _ x=>s3.extBut _ _ c1 (s2 _ _ c3 (s1.extBut _ _ c1 x))) ⟨oe,s3.extBut _ _ ne e1,e2⟩
def next{Q:Option Yj->Yb->Prop}(ha:a<n)(hb:b<n)(z:ZS n a b i .none s.heap)(ta:s.heap.IsTuple a us)(tb:s.heap.IsTuple b vs)(hx:us[i]?=J x)(hy:vs[i]?=J y)
 (q:∀h',ZS n a b (i+1) (rawInt s.heap.objs.size) h'->IsPair h' s.heap.objs.size x y->Kps n s.heap h'->Q (J (.ref s.heap.objs.size)) {s with heap:=h'}):Yz (model prog w) A (pyNext (.ref (n+4))) Q E s:=by
 have ty:s.TypeIs (.ref (n+4)) "zip" := ⟨_,z.zip,rfl⟩
 unfold pyNext;exact Ya (wpAny_attempt (YY (name:=O "__next__") ty F.slot_zip_next (Wc F.slot_zip_next ty F.entry_zip_next (body ha hb z ta tb hx hy λh' a1 a2 a3=>Yc (q h' a1 a2 a3)) (F.args_zip_next_1 _))))
def stop{Q:Option Yj->Yb->Prop}(hh:A.handled=M)(ha:a<n)(z:ZS n a b i .none s.heap)(ta:s.heap.IsTuple a us)(hx:us[i]?=M)(q:∀h',Kps n s.heap h'->Q M {s with heap:=h'}):Yz (model prog w) A (pyNext (.ref (n+4))) Q E s:=by
 have ty:s.TypeIs (.ref (n+4)) "zip" := ⟨_,z.zip,rfl⟩
 unfold pyNext;refine Ya (wpAny_attempt (YY (name:=O "__next__") ty F.slot_zip_next (Wc F.slot_zip_next ty F.entry_zip_next (fin (show A.in1.handled=M from hh) ha z ta hx λh' e hk he=>?_) (F.args_zip_next_1 _))));obtain⟨o,R,h2⟩:=he;exact Ya (wpAny_isInstance (T := "StopIteration") (b:=true) ⟨o,R,h2⟩ isSubtype_stop (Yc (q _ hk)))
noncomputable abbrev ob(T:Yi):Obj:={cls:=.type "tuple_iterator",data:=.fields #[.ref T,.int 0 0]}
noncomputable abbrev tp(x y:Yj):Obj:={cls:=.type "tuple",data:=.seq #[x,y]}
abbrev hN(h:YF)(a b:Yi):YF:=((((h.push (ob a)).push (ob b)).push (tp (.ref h.objs.size) (.ref (h.push (ob a)).objs.size))).push (tp .none .none))
abbrev zo(h:YF)(a b:Yi):Obj:={cls:=.type "zip",data:=.fields #[.none,.bool Ws,.bool Ws,.ref ((h.push (ob a)).push (ob b)).objs.size,.ref (((h.push (ob a)).push (ob b)).push (tp (.ref h.objs.size) (.ref (h.push (ob a)).objs.size))).objs.size]}
def nw(a b:Yi)(us vs:Array Yj):Meets (Builtin.«zip.__new__» ⟨[.type "zip",.ref a,.ref b],[]⟩) (λ_ kz s=>s.heap.IsTuple a us/\s.heap.IsTuple b vs/\kz (.ok (.ret (.ref (hN s.heap a b).objs.size))) {s with heap:=(hN s.heap a b).push (zo s.heap a b)}):=
 .of_wp λprog w A kz s h=>by
  obtain⟨hp,g,d,tk,os⟩:=s;obtain⟨ta,tb,h⟩:=h;have fT:=sub_zip;have t1:Heap.IsTuple (Shared.heap ⟨hp,g,d,tk,os⟩) a us:=ta;have t2:Heap.IsTuple (Shared.heap ⟨hp.push (ob a),g,d,tk,os⟩) b vs:=tb.at λo e=>Od _ e
  wp_walk using wpAny_pyIter_tuple t1,wpAny_pyIter_tuple t2
  exact⟨_,rfl,h⟩
def mk(ta:s.heap.IsTuple a us)(tb:s.heap.IsTuple b vs)(q:∀h',ZS s.heap.objs.size a b 0 .none h'->(∀c o,s.heap.get? c=J o->h'.get? c=J o)->Q (.ref (s.heap.objs.size+4)) {s with heap:=h'}):
 Yz (model prog w) A (call (.type "zip") [.ref a,.ref b]) Q E s:=by
 refine callType_new F.called_zip (by decide) (F.typeCall_zip_2 _ _) (F.newCall_zip_2 _ _) (λobj=>F.args_object_init_3 obj _ _) F.entry_zip_new (nw a b us vs) ⟨ta,tb,?_⟩;have e1:(s.heap.push (ob a)).objs.size=s.heap.objs.size+1:=Heap.size_push ..;have e2:((s.heap.push (ob a)).push (ob b)).objs.size=s.heap.objs.size+2:=by rw[Heap.size_push,e1]
 have e3:(((s.heap.push (ob a)).push (ob b)).push (tp (.ref s.heap.objs.size) (.ref (s.heap.push (ob a)).objs.size))).objs.size=s.heap.objs.size+3:=by rw[Heap.size_push,e2]
 have e4:(hN s.heap a b).objs.size=s.heap.objs.size+4:=by rw[Heap.size_push,e3]
 have up:∀{h:YF}{o o':Obj}{c:Yi},h.get? c=J o->(h.push o').get? c=J o:=λe=>Od _ e;have g5:((hN s.heap a b).push (zo s.heap a b)).get? (hN s.heap a b).objs.size=J (zo s.heap a b):=Oj _ rfl;have g4:((hN s.heap a b).push (zo s.heap a b)).get? _=J (tp .none .none):=up (Oj (((s.heap.push (ob a)).push (ob b)).push (tp (.ref s.heap.objs.size) (.ref (s.heap.push (ob a)).objs.size))) rfl);have g3:((hN s.heap a b).push (zo s.heap a b)).get? _=J (tp (.ref s.heap.objs.size) (.ref (s.heap.push (ob a)).objs.size)):=up (up (Oj ((s.heap.push (ob a)).push (ob b)) rfl));have g2:((hN s.heap a b).push (zo s.heap a b)).get? _=J (ob b):=up (up (up (Oj (s.heap.push (ob a)) rfl)));have g1:((hN s.heap a b).push (zo s.heap a b)).get? s.heap.objs.size=J (ob a):=up (up (up (up (Oj s.heap rfl))));have kp:∀c o,s.heap.get? c=J o->((hN s.heap a b).push (zo s.heap a b)).get? c=J o:=λc o e=>up (up (up (up (up e))));generalize (hN s.heap a b).push (zo s.heap a b)=hh at *;show _/\_;rw[zo,e2,e3,e4]at g5;rw[e3]at g4;rw[e1,e2]at g3;rw[e1]at g2;rw[e4];exact⟨⟨_,g5,rfl⟩,q _ ⟨g5,g3,⟨_,_,g4⟩,⟨_,g1,rfl,rfl⟩,⟨_,g2,rfl,rfl⟩⟩ kp⟩
end
end Zp
def Itz(K:Yk)(a b:Yi):It:=⟨λi H=>∃xs ys x y,SqT K H a xs/\SqT K H b ys/\xs[i]?=J x/\ys[i]?=J y,λi H v H'=>∃p x y,v=.ref p/\H p=M/\(∀xs,SqT K H a xs->xs[i]?=J x)/\(∀ys,SqT K H b ys->ys[i]?=J y)/\H'=upd H p (.tup [x,y]),λi H=>∃xs,SqT K H a xs/\xs.length=i⟩
theorem Zlq{P:Yh}{w:Yg}{K:Yk}{es:List Expr}{kk:Nat}{tp:Pos}{n a b:Yi}(ha:a<n)(hb:b<n):Turn P w K (.Tuple es kk tp) (Itz K a b) [n+4,n+3,n,n+1,n+2] (n+4) (λi h=>Zp.ZS n a b i .none h) where
 mem:=by simp
 obj:=λi h st c hc=>by
   obtain⟨z0,z1,⟨_,_,z2⟩,⟨o3,z3,_,d3⟩,o4,z4,_,d4⟩:=st;simp only [O2,List.not_mem_nil,or_false] at hc;rcases hc with rfl|rfl|rfl|rfl|rfl
   . exact⟨_,z0,nofun⟩
   . exact⟨_,z2,nofun⟩
   . exact⟨o3,z3,λv z=>by rw [d3] at z;cases z⟩
   . exact⟨o4,z4,λv z=>by rw [d4] at z;cases z⟩
   . exact⟨_,z1,nofun⟩
 keep:=λi h h' st k=>by
   obtain⟨z0,z1,⟨_,_,z2⟩,z3,z4⟩:=st;exact⟨k _ (by simp) _ z0,k _ (by simp) _ z1,⟨_,_,k _ (by simp) _ z2⟩,z3.at λo e=>k _ (by simp) o e,z4.at λo e=>k _ (by simp) o e⟩
 item:=by
   intro X hP hw hK hc i aa s Z H E I hf st hg;subst hP hw hK;obtain⟨xs,ys,x,y,hq,hr,hx,hy⟩:=hg;obtain⟨its,rv,p,hz⟩:=I.tuple hq;obtain⟨iY,iA,p',dU⟩:=I.tuple hr;obtain⟨u,hu,ru⟩:=rv.get hx;obtain⟨v,hv,az⟩:=iA.get hy;have l4:n+4<s.heap.objs.size:=Ym st.zip;refine Zp.next ha hb st p p' (by simpa using hu) (by simpa using hv) λR z1 t1 k1=>⟨_,rfl,wpAny_letOwnedTupleGo_zip z1.zip λh2 y2 s2=>?_⟩
   have nT:s.heap.objs.size ∉ [n+4,n+3,n,n+1,n+2]:=by simp only [O2,List.not_mem_nil,or_false];lia
   have cI:ZaO h2 s.heap.objs.size #[u,v]:=⟨_,s2.extBut _ _ (by lia) t1,rfl,rfl,_,rfl⟩
   have I2:Inv X aa Z (upd H s.heap.objs.size (.tup [x,y])) {s with heap:=h2,toks:=s.toks}:=I.turnT hf (λc o hc e=>by
     simp only [O2,List.not_mem_nil,or_false,not_or] at hc;exact s2.extBut _ _ hc.1 (k1 c o hc.1 hc.2.1 hc.2.2.1 hc.2.2.2.1 e)) (Oq _) (us:=[u,v]) cI (.cons ru (.cons az .nil)) (by show 2<=sizeLine;decide)
   obtain⟨w0,w1,⟨c,d,w2⟩,w3,w4⟩:=z1;refine⟨.ref s.heap.objs.size,_,I2,rfl,⟨_,x,y,rfl,I.hok.fresh (Oq _),λzs hz=>by rw [I.tuple_inj hz hq];exact hx,λzs hz=>by rw [I.tuple_inj hz hr];exact hy,rfl⟩,⟨y2,s2.extBut _ _ (by lia) w1,⟨c,d,s2.extBut _ _ (by lia) w2⟩,w3.at λo e=>s2.extBut _ _ (by lia) e,w4.at λo e=>s2.extBut _ _ (by lia) e⟩,λc hc=>?_⟩;rw [Zq (λz=>nT (by rw [<-z];exact hc))];exact(hf c hc).1
 done:=by
   intro X hP hw hK hc i aa s Z H E I hf st hg;subst hP hw hK;obtain⟨xs,hq,hx⟩:=hg;obtain⟨its,rv,p,hz⟩:=I.tuple hq;have hl:=rv.length;exact Zp.stop (I.ok.hd hc) ha st p (by simp;lia) λR k1=>⟨rfl,I.turnL (t':=s.toks) hf λc o hc e=>by
     simp only [O2,List.not_mem_nil,or_false,not_or] at hc;exact k1 c o hc.1 hc.2.1 hc.2.2.1 hc.2.2.2.1 e⟩
 self:=λA i s Q E st h=>wpAny_pyIter_zip st.zip h
def Zuh(K:Yk)(ta:TA):TI:=λZ H kz=>ta Z H λvs H1=>∃a b,vs=[.ref a,.ref b]/\(∃xs,SqT K H1 a xs)/\(∃ys,SqT K H1 b ys)/\kz (Itz K a b) H1
def Zqh{X:Cx}{es:List Expr}{kk:Nat}{tp:Pos}{l m:Expr}{ta:TA}{p pos:Pos}(hg:Gl X "zip")(hm:X.mg "zip"=M)(ha:PA X [l,m] ta)(hs:Yy [l,m] X.env=[(Ws,eval l X.env),(Ws,eval m X.env)])(cN:Yy [m] X.env=[(Ws,eval m X.env)]):
 PI X (.Tuple es kk tp) (.Call (.Name "zip" p) [l,m] [] pos) (Zuh X.K ta):=by
 intro aa s Z H kz I h;refine Call_ (Zbi I hg hm boot_zip (PyProof.Rows.callWith_type1 (thn (ha pos aa s Z H _ I h) λus s1 ⟨vs,H1,I1,r1,q1⟩=>?_) (by rw[hs,cN]) (by rw[cN];rfl)));obtain⟨a,b,rfl,⟨xs,hq⟩,⟨ys,hr⟩,q⟩:=q1;obtain⟨u,v,rfl,ru,rv⟩:=vals2 r1;obtain rfl:u=YB a:=ru;obtain rfl:v=YB b:=rv;obtain⟨its,_,pt,_⟩:=I1.tuple hq;obtain⟨iY,_,gG,_⟩:=I1.tuple hr;have la:a<s1.heap.objs.size:=by obtain⟨_,z,_⟩:=pt;exact Ym z
 have lb:b<s1.heap.objs.size:=by obtain⟨_,z,_⟩:=gG;exact Ym z
 refine Zp.mk pt gG λR z kp=>wpAny_pyIter_zip z.zip ⟨s1.heap.objs.size+4,_,_,_,H1,rfl,I1.kept (t':=s1.toks) kp,Zlq la lb,z,λc hc=>?_,q⟩;have le:s1.heap.objs.size<=c:=by simp only[O2,List.not_mem_nil,or_false]at hc;lia
 exact I1.fpOk le (I1.hok.fresh le)
theorem ZdL:∀{vs:List Yj}{ns:List Int},IntsAre vs ns->Zn (ns.map V.int) vs
 |_,_,.nil=>.nil
 |_,_,.cons y t h=>.cons ⟨t,rfl⟩ (ZdL h)
theorem Zfb:∀(ns:List Int) (vs:List Yj),vs.length=ns.length->(∀(j:Nat) (v:Yj),vs[j]?=J v->∃x,ns[j]?=J x/\(ZD P w).is (YD x) v=Wr)->IntsAre vs ns
 |[],[],_,_=>.nil
 |n::ns,v::vs,hl,h=>by obtain⟨x,e,hx⟩:=h 0 v rfl;cases e;obtain⟨t,rfl⟩:=Value.isInt_shape (k:=n) (v:=v) hx;exact .cons n t (Zfb ns vs (by simpa using hl) λj u hu=>h (j+1) u (by simpa using hu))
section
variable {X:Cx}
def ZlN(P:Yh)(w:Yg)(K:Yk):List V->Hp->VK->Prop:=λxs H Q=>∃(a:Yi) (kvs:List (Key×V)) (ns:List Int),xs=[.ref a]/\Dk P w K H a kvs/\kvs.map (·.1)=ns.map YD/\ns.length<64/\∀(p:Yi) (bp:List Int),H p=M->bp.Perm ns->bp.Pairwise (·<=·)->Q (.ref p) (upd H p (.lst (bp.map V.int)))
def Zg3(hc:X.A.handled=M):Zag X (.builtin "sorted") (ZlN X.prog X.w X.K):=by
 intro aa s Z H xs us Q I r h;obtain⟨a,kvs,ns,rfl,hd,dB,gw,q⟩:=h;obtain⟨u,rfl,ru⟩:=vals1 r;cases ru;obtain⟨z,hm,vs,am,dd⟩:=I.dk hd;obtain⟨ep,eG⟩:=dd.dictAt;have hl:vs.length=kvs.length:=(Paired.length am).symm;have bm:kvs.length=ns.length:=by simpa using congrArg List.length dB
 have bD:∀(j:Nat) k x,vs[j]?=J (k,x)->∃y,ns[j]?=J y/\k=YD y:=λj k x e=>by
  have hj:j<vs.length:=(Ob.mp e).1;have R:kvs[j]?=J kvs[j]:=Og (by lia);obtain⟨u,hu,fR⟩:=ZcS am R;rw[e]at hu;cases hu;have h3:(kvs.map (·.1))[j]?=J kvs[j].1:=by rw[On,R];rfl
  rw[dB,On]at h3;obtain⟨y,hy,e3⟩:=Oo.mp h3;exact⟨y,hy,fR.1.symm.trans e3.symm⟩
 refine Calls.call_function_entry kind_sorted plain_sorted entry_sorted (args_sorted1 _) ?_;unfold Builtin.«sorted»;refine Ya (m:=checkCount "sorted" 1 1 _) (Yc (Ya (Zd7 (PySem.W.kdl_dict (knd:=ZD X.prog X.w) (kvs:=vs) (ep:=ep) hm) hc eG (by lia) λh' tk ag hsz hk au=>?_)));have hS:IntsAre ag.toList ns:=Zfb (P:=X.prog) (w:=X.w) ns ag.toList (by rw[Array.length_toList,au.1];lia) λj v hv=>by obtain⟨k,x,e,ee⟩:=au.2 j v (by rw[<-Array.getElem?_toList];exact hv);obtain⟨y,hy,rfl⟩:=bD j k x e;exact⟨y,hy,ee⟩
 have ao:ag.toList.length=ns.length:=by simpa using (ZdL hS).length.symm
 refine Ya (wpAny_newList ?_ (by rw[YA];lia));have bZ:(h'.push (seqObj "list" ag.toList.toArray 0)).get? h'.objs.size=J (seqObj "list" ag.toList.toArray 0):=Oj _ rfl;refine Ya (Wb (Wc slot_list_sort ⟨_,bZ,rfl⟩ entry_list_sort (list_sort_tree bZ hS (by lia) λout bp a1 a2 a3=>⟨_,rfl,?_⟩) (args_list_sort _)));refine Yc ⟨_,rfl,?_⟩;obtain⟨e,he⟩:=sortedHeap_at (out:=out) bZ;have lz:bp.length<=sizeLine:=by rw[a2.length_eq,YA];lia
 refine⟨.ref h'.objs.size,_,I.laid (a:=h'.objs.size) (o:=.lst (bp.map V.int)) (t':=tk) (λb o q=>?_) hsz ⟨by simpa using lz,out.toList,_,ZdL a1,by rw[Array.toArray_toList];exact he⟩,rfl,q _ bp (I.hok.fresh hsz) a2 a3⟩;have q':=hk b o q;have av:=Ym q';rw[sortedHeap_old (Ou av) (by rw[size_push'];exact Nat.lt_succ_of_lt av)];exact Od _ q'
end
end L2
namespace IV
open PySem PySem.Spec PyProof.Rows L2
set_option tactic.hygienic false
inductive D where
 |non|bl (b:Bool)|int (i:Int)|str (x:Str)|tup (xs:List D)|ref (i:Nat)|ty (n:String)
 |ro (xs:List D)|kd (x:Str)
inductive DO where
 |lst (xs:List D)|dic (kvs:List (Key×D))|ins (C:Str) (fs:List (Str×D))
 |fdic (kvs:List (Key×D))
noncomputable abbrev Hd:=List DO
inductive kz(α:Type) where
 |bad|ok (a:α) (h:Hd)|exc (c:Str) (h:Hd)
noncomputable def kz.bind(r:kz α)(k:α->Hd->kz β):kz β:=match r with
 |.bad=>.bad
 |.ok a h=>k a h
 |.exc c h=>.exc c h
def kz.bind_ok:(kz.ok a h).bind k=k a h:=rfl
def kz.bind_bad:(kz.bad:kz α).bind k=.bad:=rfl
noncomputable def kz.ofO(o:Option α)(h:Hd):kz α:=match o with
 |some a=>.ok a h
 |none=>.bad
def kz.ofO_some:kz.ofO (J a) h=.ok a h:=rfl
noncomputable abbrev Ev:=List (Option D)
inductive Bf where
 |len|isi|int|tup|lst|sum|all|srt|mx|sri|lnd
 deriving DecidableEq
inductive Mf where
 |app|ext|pop|rev|clr
 deriving DecidableEq
mutual
inductive Ex where
 |var (i:Nat)|cst (d:D)|glo (x:Str)
 |bin (op:Operator) (a b:Ex)|cmp (op:CmpOp) (a b:Ex)|cmp2 (op gI:CmpOp) (a b c:Ex)
 |neg (a:Ex)|nt (a:Ex)|ands (es:Exs)|ors (es:Exs)|ite (c:Tx) (a b:Ex)
 |tupl (es:Exs)|lstl (es:Exs)|ix (a i:Ex)|sl (a:Ex) (lo hi:Option Ex)
 |blt (f:Bf) (es:Exs)|call (f:Str) (es:Exs)|meth (m:Mf) (o:Ex) (es:Exs)
 |comp (NC:List Str) (js:List (Option Nat)) (it:Ix) (g:Tg) (c:Option Tx) (e:Ex)
 |sorts (e:Ex)|dictl (ps:Exs)|maxd (e d:Ex)
 |att (Cs:List Str) (o:Ex) (f:Str)|mk (C:Str) (es:Exs)|mcl (C m:Str) (o:Ex) (es:Exs)|any
 |trev (e:Ex)|tix (o e:Ex)|lrv (e:Ex)|lix (o e:Ex)|lin (a b:Ex)
 |rpn (a b:Ex)
inductive Exs where
 |nil|cons (e:Ex) (es:Exs)
inductive Ix where
 |pl (e:Ex)|rng (e:Ex)|rng2 (a b:Ex)|enu (e:Ex)|rev (e:Ex)
 |en1 (e:Ex)|en0 (e:Ex)|dk (e:Ex)
 |zp (a b:Ex)
inductive Tg where
 |nm (i:Nat)|two (i j:Nat)|many (is:List Nat)
inductive Tx where
 |ex (e:Ex)|ands (ts:Txs)|ors (ts:Txs)|nt (a:Tx)
inductive Txs where
 |one (t:Tx)|cons (t:Tx) (ts:Txs)
end
noncomputable abbrev Ex.ci(i:Int):Ex:=.cst (.int i)
noncomputable abbrev Ex.Ci_(x:String):Ex:=.cst (.str (O x))
mutual
inductive Sx where
 |ret (e:Ex)|set (g:Tg) (e:Ex)|put (o i e:Ex)|aug (i:Nat) (op:Operator) (e:Ex)|drp (e:Ex)
 |iff (c:Tx) (a b:Sxs)|whl (c:Tx) (b:Sxs)|forr (g:Tg) (it:Ix) (b:Sxs)|pas|brk|cnt
 |seta (Cs:List Str) (o:Ex) (f:Str) (e:Ex)|auga (Cs:List Str) (o:Ex) (f:Str) (e:Ex)|any
 |rai (C:Str) (e:Ex)|trs (i:Nat) (f:Str) (es:Exs) (C:Str)
 |unl (i j:Nat) (e:Ex)
 |trw (i n:Nat) (f:Str) (es:Exs) (C W w:Str)
inductive Sxs where
 |nil|cons (s:Sx) (r:Sxs)
end
noncomputable abbrev Ex.v:=Ex.var
noncomputable abbrev Exs.c:=Exs.cons
noncomputable abbrev Exs.n:=Exs.nil
noncomputable abbrev Sxs.c:=Sxs.cons
noncomputable abbrev Sxs.n:=Sxs.nil
noncomputable abbrev Txs.c:=Txs.cons
noncomputable abbrev K0:=Ex.ci 0
noncomputable abbrev K1:=Ex.ci 1
noncomputable abbrev K10:=Ex.ci 10
noncomputable abbrev K12:=Ex.ci 12
noncomputable abbrev K15:=Ex.ci 15
noncomputable abbrev K2:=Ex.ci 2
noncomputable abbrev K20:=Ex.ci 20
noncomputable abbrev K26:=Ex.ci 26
noncomputable abbrev K29:=Ex.ci 29
noncomputable abbrev K3:=Ex.ci 3
noncomputable abbrev K30:=Ex.ci 30
noncomputable abbrev K4:=Ex.ci 4
noncomputable abbrev K5:=Ex.ci 5
noncomputable abbrev K6:=Ex.ci 6
noncomputable abbrev K7:=Ex.ci 7
noncomputable abbrev K8:=Ex.ci 8
noncomputable abbrev V0:=Ex.var 0
noncomputable abbrev V1:=Ex.var 1
noncomputable abbrev V10:=Ex.var 10
noncomputable abbrev V11:=Ex.var 11
noncomputable abbrev V2:=Ex.var 2
noncomputable abbrev V3:=Ex.var 3
noncomputable abbrev V4:=Ex.var 4
noncomputable abbrev V5:=Ex.var 5
noncomputable abbrev V6:=Ex.var 6
noncomputable abbrev V7:=Ex.var 7
noncomputable abbrev V8:=Ex.var 8
noncomputable abbrev V9:=Ex.var 9
noncomputable abbrev Exs.o(a:Ex):Exs:=.cons a .nil
noncomputable abbrev Sxs.o(a:Sx):Sxs:=.cons a .nil
noncomputable abbrev Exs.w(a b:Ex):Exs:=.cons a (.cons b .nil)
noncomputable abbrev Sxs.w(a b:Sx):Sxs:=.cons a (.cons b .nil)
noncomputable abbrev Exs.u(a b c:Ex):Exs:=.cons a (.cons b (.cons c .nil))
noncomputable abbrev Sxs.u(a b c:Sx):Sxs:=.cons a (.cons b (.cons c .nil))
noncomputable abbrev Exs.z(a b c d:Ex):Exs:=.cons a (.cons b (.cons c (.cons d .nil)))
noncomputable abbrev Sxs.z(a b c d:Sx):Sxs:=.cons a (.cons b (.cons c (.cons d .nil)))
noncomputable abbrev Exs.y(a b c d e:Ex):Exs:=.cons a (.cons b (.cons c (.cons d (.cons e .nil))))
noncomputable abbrev Sxs.y(a b c d e:Sx):Sxs:=.cons a (.cons b (.cons c (.cons d (.cons e .nil))))
noncomputable abbrev Tx.q(a b:Ex):Tx:=.ex (.cmp .Eq a b)
noncomputable abbrev Tx.nq(a b:Ex):Tx:=.ex (.cmp .NotEq a b)
noncomputable abbrev Tx.x(o:PySem.CmpOp)(a b:Ex):Tx:=.ex (.cmp o a b)
noncomputable abbrev Sx.s(i:Nat)(e:Ex):Sx:=.set (.nm i) e
noncomputable abbrev Ex.f(f:String)(e:Exs):Ex:=.call (O f) e
noncomputable abbrev Ex.a(c:String)(x:Ex)(f:String):Ex:=.att [O c] x (O f)
noncomputable abbrev Ex.m(c f:String)(x:Ex)(e:Exs):Ex:=.mcl (O c) (O f) x e
noncomputable abbrev Sx.sa(c:String)(x:Ex)(f:String)(e:Ex):Sx:=.seta [O c] x (O f) e
noncomputable instance:DecidableEq D:=λa b=>Classical.propDecidable (a=b)
noncomputable instance:DecidableEq DO:=λa b=>Classical.propDecidable (a=b)
mutual
def D.py(rd:Nat->Option PyData):D->Option PyData
 |.non=>J .none
 |.bl b=>J (.bool b)
 |.int i=>J (.int i)
 |.str x=>J (.str x)
 |.tup xs=>(D.pys rd xs).map .tuple
 |.ro xs=>(D.pys rd xs).map .list
 |.ref i=>rd i
 |_=>M
def D.pys(rd:Nat->Option PyData):List D->Option (List PyData)
 |[]=>J []
 |x::xs=>(D.py rd x).bind λd=>(D.pys rd xs).map λds=>d::ds
end
def Zee(h:Hd):Nat->Nat->Option PyData
 |0,_=>M
 |n+1,i=>match h[i]? with
  |some (.lst xs)=>(D.pys (Zee h n) xs).map .list
  |_=>M
def ZfK(h:Hd)(d:D):Option PyData:=D.py (Zee h 4) d
noncomputable def ZaS(o:DO)(h:Hd):kz D:=.ok (.ref h.length) (h++[o])
noncomputable def lstOf(d:D)(h:Hd):Option (List D):=match d with
 |.ref i=>match h[i]? with
  |some (.lst xs)=>J xs
  |_=>M
 |.ro xs=>J xs
 |_=>M
noncomputable def dicOf(GD:Str->Option (List (Key×D)))(d:D)(h:Hd):Option (List (Key×D)):=match d with
 |.ref i=>match h[i]? with
  |some (.dic kvs)=>J kvs
  |some (.fdic kvs)=>J kvs
  |_=>M
 |.kd x=>GD x
 |_=>M
noncomputable def keyOf:D->Option Key
 |.int i=>J (.inl i)
 |.str x=>J (.inr x)
 |_=>M
noncomputable def ZU(kvs:List (Key×D))(k:Key):Option D:=(kvs.find? λp=>Wt (p.1=k)).map (·.2)
noncomputable def putD(kvs:List (Key×D))(k:Key)(v:D):List (Key×D):=if (kvs.any λkv=>Wt (kv.1=k))=Wr then kvs.map (λkv=>if kv.1=k then(kv.1,v)else kv)else kvs++[(k,v)]
def cutD(xs:List D)(lo hi:Option Int):List D:=(xs.drop (HT.sIx xs.length 0 lo)).take (HT.sIx xs.length xs.length hi-HT.sIx xs.length 0 lo)
noncomputable def D.flat:D->Bool
 |.int _|.str _|.bl _|.non=>Wr
 |_=>Ws
noncomputable def eqF:D->D->Bool
 |.int i,.int j=>i==j
 |.str i,.str j=>i==j
 |.non,.non=>Wr
 |.bl i,.bl j=>i==j
 |.int i,.bl j=>i==(if j then 1 else 0)
 |.bl i,.int j=>(if i then 1 else 0)==j
 |_,_=>Ws
noncomputable def ZdA(GD:Str->Option (List (Key×D)))(d:D)(h:Hd):Option Bool:=match d with
 |.non=>J Ws
 |.bl b=>J b
 |.int i=>J (i != 0)
 |.str x=>if x.length<=sizeLine then J (!(x.length==0))else M
 |.tup xs=>J (!xs.isEmpty)
 |.ref i=>match h[i]? with
  |some (.lst xs)=>J (!xs.isEmpty)
  |some (.dic xs)=>J (!xs.isEmpty)
  |_=>M
 |.ro xs=>J (!xs.isEmpty)
 |_=>M
noncomputable def int2(x y:D)(k:Int->Int->kz D):kz D:=match x with
 |.int i=>match y with
  |.int j=>k i j
  |_=>.bad
 |_=>.bad
def Zlc(x y:D)(h:Hd):kz D:=match x with
 |.int i=>match y with
  |.int j=>.ok (.int (i+j)) h
  |_=>.bad
 |.str i=>match y with
  |.str j=>if i.length+j.length<=sizeLine then .ok (.str (i++j)) h else .bad
  |_=>.bad
 |.tup xs=>match y with
  |.tup ys=>if xs.length+ys.length<=sizeLine then .ok (.tup (xs++ys)) h else .bad
  |_=>.bad
 |.ref i=>match y with
  |.ref j=>match h[i]? with
   |some (.lst xs)=>match h[j]? with
    |some (.lst ys)=>if xs.length+ys.length<=sizeLine then ZaS (.lst (xs++ys)) h else .bad
    |_=>.bad
   |_=>.bad
  |_=>.bad
 |_=>.bad
def ZsJ(x y:D)(h:Hd):kz D:=match x with
 |.str z=>match y with
  |.int n=>if 0<=n/\n<=1000/\z.length<=1000 then .ok (.str (ZdD z n.toNat)) h else .bad
  |_=>.bad
 |x=>int2 x y λi j=>if i.natAbs<2^2000/\j.natAbs<2^2000 then .ok (.int (i*j)) h else .bad
def opB(op:Operator)(x y:D)(h:Hd):kz D:=match op with
 |.Add=>Zlc x y h
 |.Sub=>int2 x y λi j=>.ok (.int (i-j)) h
 |.Mult=>ZsJ x y h
 |.Mod=>int2 x y λi j=>if 0<j then .ok (.int (i%j)) h else .bad
 |.FloorDiv=>int2 x y λi j=>if 0<j/\j<1073741824 then .ok (.int (i/j)) h else .bad
 |.Pow=>int2 x y λi j=>if 0<=j/\j<=1000000/\i.natAbs<2^64 then .ok (.int (i^j.toNat)) h else .bad
 |_=>.bad
def Zbu(neg:Bool)(x y:D)(h:Hd):kz D:=match ZfK h x,ZfK h y with
 |some a,J b=>if min a.depth b.depth<=1100 then .ok (.bl (if neg then !YO a b else YO a b)) h else .bad
 |_,_=>.bad
def seqOf(d:D)(h:Hd):Option (List D):=match d with
 |.tup xs=>J xs
 |d=>lstOf d h
def ZbP(GD:Str->Option (List (Key×D)))(neg:Bool)(x y:D)(h:Hd):kz D:=match seqOf y h with
 |some xs=>if x.flat&&xs.all D.flat then .ok (.bl (if neg then !xs.any (λz=>eqF z x)else xs.any λz=>eqF z x)) h else .bad
 |none=>match dicOf GD y h,keyOf x with
  |some kvs,J k=>.ok (.bl (if neg then !(ZU kvs k).isSome else(ZU kvs k).isSome)) h
  |_,_=>.bad
noncomputable def ZgG(f:Int->Int->Bool)(x y:D)(h:Hd):kz D:=match x,y with
 |.int i,.int j=>.ok (.bl (f i j)) h
 |_,_=>.bad
noncomputable def opN(neg:Bool)(x y:D)(h:Hd):kz D:=match y with
 |.non=>.ok (.bl (if neg then !Wt (x=.non)else Wt (x=.non))) h
 |_=>.bad
def opC(GD:Str->Option (List (Key×D)))(op:CmpOp)(x y:D)(h:Hd):kz D:=match op with
 |.Eq=>Zbu Ws x y h
 |.NotEq=>Zbu Wr x y h
 |.Lt=>ZgG (λi j=>Wt (i<j)) x y h
 |.LtE=>ZgG (λi j=>Wt (i<=j)) x y h
 |.Gt=>ZgG (λi j=>Wt (j<i)) x y h
 |.GtE=>ZgG (λi j=>Wt (j<=i)) x y h
 |.In=>ZbP GD Ws x y h
 |.NotIn=>ZbP GD Wr x y h
 |.Is=>opN Ws x y h
 |.IsNot=>opN Wr x y h
def Zau(GD:Str->Option (List (Key×D)))(x y:D)(h:Hd):kz D:=match y with
 |.int i=>match seqOf x h with
  |some xs=>kz.ofO (atI xs i) h
  |none=>match x with
   |.str z=>if z.length<=sizeLine then kz.ofO ((atI z.cps.toList i).map λc=>.str ⟨#[c]⟩) h else .bad
   |_=>match dicOf GD x h with
    |some kvs=>kz.ofO (ZU kvs (.inl i)) h
    |none=>.bad
 |.str z=>match dicOf GD x h with
  |some kvs=>kz.ofO (ZU kvs (.inr z)) h
  |none=>.bad
 |_=>.bad
def ZfM(x:D)(l u:Option Int)(h:Hd):kz D:=match x with
 |.tup xs=>.ok (.tup (cutD xs l u)) h
 |.str y=>if y.length<=sizeLine then .ok (.str (Yp y l u)) h else .bad
 |d=>match lstOf d h with
  |some xs=>ZaS (.lst (cutD xs l u)) h
  |none=>.bad
def ZpL(d:D)(h:Hd):Option String:=match d with
 |.int _=>J "int"
 |.str _=>J "str"
 |.bl _=>J "bool"
 |.non=>J "NoneType"
 |.tup _=>J "tuple"
 |d=>(lstOf d h).map λ_ => "list"
noncomputable def ZiW(t T:String):Option Bool:=if T∈["int", "str", "bool", "tuple", "list"]/\t∈["int", "str", "bool", "tuple", "list", "NoneType"]then J (t==T||(t == "bool" && T == "int"))else M
noncomputable def intsOf:List D->Option (List Int)
 |[]=>J []
 |.int i::r=>(intsOf r).map λz=>i::z
 |_=>M
noncomputable def Zgo:List D->Option (List Bool)
 |[]=>J []
 |.bl i::r=>(Zgo r).map λz=>i::z
 |_=>M
noncomputable def strsOf:List D->Option (List Str)
 |[]=>J []
 |.str i::r=>(strsOf r).map λz=>i::z
 |_=>M
noncomputable def Zcv:List (Key×D)->Option (List Str)
 |[]=>J []
 |(.inr x,_)::r=>(Zcv r).map λz=>x::z
 |_=>M
noncomputable def Zcx:List (Key×D)->Option (List Int)
 |[]=>J []
 |(.inl x,_)::r=>(Zcx r).map λz=>x::z
 |_=>M
noncomputable def ZkI(x:Int):List Int->List Int
 |[]=>[x]
 |y::r=>if y<x then y::ZkI x r else x::y::r
def Zf6:List Int->List Int
 |[]=>[]
 |x::r=>ZkI x (Zf6 r)
noncomputable def ZkJ(x:Str):List Str->List Str
 |[]=>[x]
 |y::r=>if ltCps y.cps.toList x.cps.toList then y::ZkJ x r else x::y::r
def Zbq:List Str->List Str
 |[]=>[]
 |x::r=>ZkJ x (Zbq r)
def ZmV(xs:List D)(h:Hd):kz D:=match xs with
 |[.str y]=>if y.length<=sizeLine then .ok (.int y.length) h else .bad
 |[d]=>kz.ofO ((seqOf d h).map λxs=>.int xs.length) h
 |_=>.bad
def Zo6(xs:List D)(h:Hd):kz D:=match xs with
 |[d,.ty T]=>kz.ofO ((ZpL d h).bind λt=>(ZiW t T).map .bl) h
 |_=>.bad
noncomputable def Zrx(xs:List D)(h:Hd):kz D:=match xs with
 |[.int i]=>.ok (.int i) h
 |[.bl b]=>.ok (.int (if b then 1 else 0)) h
 |_=>.bad
def Zus(xs:List D)(h:Hd):kz D:=match xs with
 |[.tup xs]=>.ok (.tup xs) h
 |[d]=>kz.ofO ((lstOf d h).map .tup) h
 |_=>.bad
def Zo4(xs:List D)(h:Hd):kz D:=match xs with
 |[d]=>match seqOf d h with
  |some xs=>ZaS (.lst xs) h
  |none=>.bad
 |_=>.bad
def ZmT(xs:List D)(h:Hd):kz D:=match xs with
 |[d]=>kz.ofO (((lstOf d h).bind intsOf).map λns=>.int ns.sum) h
 |_=>.bad
def Zo7(xs:List D)(h:Hd):kz D:=match xs with
 |[d]=>kz.ofO (((lstOf d h).bind Zgo).map λbs=>.bl (bs.all id)) h
 |_=>.bad
def Zdx(GD:Str->Option (List (Key×D)))(xs:List D)(h:Hd):kz D:=match xs with
 |[d]=>match (dicOf GD d h).bind Zcv with
  |some ss=>if ss.length<64/\ss.all Yo=Wr then ZaS (.lst ((Zbq ss).map .str)) h else .bad
  |none=>.bad
 |_=>.bad
def Zo3(GD:Str->Option (List (Key×D)))(xs:List D)(h:Hd):kz D:=match xs with
 |[d]=>match (dicOf GD d h).bind Zcx with
  |some ns=>if ns.length<64 then ZaS (.lst ((Zf6 ns).map .int)) h else .bad
  |none=>.bad
 |_=>.bad
def Zo5(GD:Str->Option (List (Key×D)))(xs:List D)(h:Hd):kz D:=match xs with
 |[d]=>kz.ofO ((dicOf GD d h).map λkvs=>.int kvs.length) h
 |_=>.bad
def Zkt(x d:D)(h:Hd):kz D:=match d with
 |.int d=>kz.ofO (((lstOf x h).bind intsOf).map λns=>.int (Zb5 ns d)) h
 |_=>.bad
def bMx(xs:List D)(h:Hd):kz D:=match xs with
 |[.int i,.int j]=>.ok (.int (if j > i then j else i)) h
 |[d]=>match (lstOf d h).bind intsOf with
  |some ns=>if ns≠[]then .ok (.int (Zb5 ns 0)) h else .bad
  |none=>.bad
 |_=>.bad
def ZaJ(GD:Str->Option (List (Key×D))):Bf->List D->Hd->kz D
 |.len=>ZmV
 |.isi=>Zo6
 |.int=>Zrx
 |.tup=>Zus
 |.lst=>Zo4
 |.sum=>ZmT
 |.all=>Zo7
 |.srt=>Zdx GD
 |.mx=>bMx
 |.sri=>Zo3 GD
 |.lnd=>Zo5 GD
noncomputable def ZmS(x:D)(h:Hd):kz D:=match x with
 |.tup (y::ys)=>.ok (.tup (y::ys).reverse) h
 |_=>.bad
def Zut(x:D)(h:Hd):kz D:=match x with
 |.tup ys=>ZaS (.lst ys.reverse) h
 |_=>.bad
noncomputable def ZsV:D->Bool
 |.tup _=>Wr
 |_=>Ws
def Zlb(x y:D)(h:Hd):kz D:=match x,y with
 |.tup xs,.str z=>match strsOf xs with
  |some ss=>kz.ofO ((Tx.place z ss).map λ(j:Nat)=>.int (j:Int)) h
  |none=>.bad
 |_,_=>.bad
def ZmU(x y:D)(h:Hd):kz D:=match lstOf x h,y with
 |some xs,.str z=>match strsOf xs with
  |some ss=>kz.ofO ((Tx.place z ss).map λ(j:Nat)=>.int (j:Int)) h
  |none=>.bad
 |_,_=>.bad
def Zuu(x y:D)(h:Hd):kz D:=match ZfK h x,ZfK h y with
 |some a,J (.list bs)=>if min (PyData.depthAll bs) a.depth<=1000 then .ok (.bl (bs.any λb=>YO b a)) h else .bad
 |_,_=>.bad
def Zb2:List D->Option (List (Key×D))
 |[]=>J []
 |k::v::r=>match keyOf k,Zb2 r with
  |some k,J r=>J ((k,v)::r)
  |_,_=>M
 |_=>M
def ZcV(kvs more:List (Key×D)):List (Key×D):=more.foldl (λag kv=>putD ag kv.1 kv.2) kvs
noncomputable def Zmk(i:Nat)(ys xs:List D)(h:Hd):kz D:=match xs with
 |[d]=>if ys.length<sizeLine then .ok .non (h.set i (.lst (ys++[d])))else .bad
 |_=>.bad
noncomputable def Zoj(i:Nat)(ys xs:List D)(h:Hd):kz D:=match xs with
 |[.ref j]=>match h[j]? with
  |some (.lst zs)=>if ys.length+zs.length<=sizeLine then .ok .non (h.set i (.lst (ys++zs)))else .bad
  |_=>.bad
 |[.tup zs]=>if ys.length+zs.length<=sizeLine then .ok .non (h.set i (.lst (ys++zs)))else .bad
 |_=>.bad
noncomputable def ZqM(i:Nat)(ys xs:List D)(h:Hd):kz D:=match xs with
 |[]=>match ys[ys.length-1]? with
  |some y=>.ok y (h.set i (.lst ys.dropLast))
  |none=>.bad
 |_=>.bad
noncomputable def ZsN(i:Nat)(ys xs:List D)(h:Hd):kz D:=match xs with
 |[]=>.ok .non (h.set i (.lst ys.reverse))
 |_=>.bad
noncomputable def ZsO(i:Nat)(ys xs:List D)(h:Hd):kz D:=match xs with
 |[]=>.ok .non (h.set i (.lst []))
 |_=>.bad
def shD(x:D)(h:Hd):kz Str:=match ZfK h x with
 |some d=>if L2.ZtR d=Wr then .ok d.shown h else .bad
 |none=>.bad
def Zef:Mf->Nat->List D->List D->Hd->kz D
 |.app=>Zmk
 |.ext=>Zoj
 |.pop=>ZqM
 |.rev=>ZsN
 |.clr=>ZsO
def ZaP(m:Mf)(o:D)(xs:List D)(h:Hd):kz D:=match o with
 |.ref i=>match h[i]? with
  |some (.lst ys)=>Zef m i ys xs h
  |_=>.bad
 |_=>.bad
noncomputable def ZcJ(o:D)(h:Hd):Bool:=match o with
 |.ref i=>match h[i]? with
  |some (.lst _)=>Wr
  |_=>Ws
 |_=>Ws
def Zak(o i v:D)(h:Hd):kz Unit:=match o with
 |.ref a=>match h[a]? with
  |some (.lst xs)=>match i with
   |.int k=>match ixN xs.length k with
    |some j=>.ok () (h.set a (.lst (xs.set j v)))
    |none=>.bad
   |_=>.bad
  |some (.dic kvs)=>match keyOf i with
   |some k=>if kvs.length<sizeLine then .ok () (h.set a (.dic (putD kvs k v)))else .bad
   |none=>.bad
  |_=>.bad
 |_=>.bad
structure Wk where
 src:Option (Nat×List D)
 xs:List D
noncomputable def Wk.stays(src:Option (Nat×List D))(h:Hd):Bool:=match src with
 |none=>Wr
 |some (i,xs)=>Wt (h[i]?=J (.lst xs))
noncomputable def ZV(d:D)(h:Hd):Option Wk:=match d with
 |.tup xs=>J ⟨M,xs⟩
 |.ro xs=>J ⟨M,xs⟩
 |.ref i=>match h[i]? with
  |some (.lst xs)=>J ⟨J (i,xs),xs⟩
  |_=>M
 |_=>M
noncomputable def Zf2(d:D)(h:Hd):Option Wk:=match d with
 |.ro xs=>J ⟨M,xs⟩
 |.ref i=>match h[i]? with
  |some (.lst xs)=>J ⟨J (i,xs),xs⟩
  |_=>M
 |_=>M
noncomputable def Zlj(d:D)(h:Hd):Option Wk:=match d with
 |.tup xs=>J ⟨M,xs⟩
 |.ref i=>match h[i]? with
  |some (.lst xs)=>J ⟨J (i,xs),xs⟩
  |_=>M
 |_=>M
noncomputable def ZW(lo:Int)(n:Nat):List D:=(List.range n).map λ(k:Nat)=>.int (lo+(k:Int))
noncomputable def Zcc(xs:List D):List D:=xs.mapIdx λk x=>.tup [.int (k:Int),x]
noncomputable def Zrp(xs:List D):List D:=xs.mapIdx λk x=>.tup [.int ((k+1:Nat):Int),x]
noncomputable def ZfI(xs ys:List D):List D:=List.zipWith (λx y=>.tup [x,y]) xs ys
noncomputable def ZsT:Key->D
 |.inl i=>.int i
 |.inr x=>.str x
def zpD(x y:D)(h:Hd):kz Wk:=match x with
 |.tup xs=>match y with
  |.tup ys=>if xs.length=ys.length then .ok ⟨M,ZfI xs ys⟩ h else .bad
  |_=>.bad
 |_=>.bad
def Zuj(x:D)(h:Hd):kz Wk:=match x with
 |.ref i=>match h[i]? with
  |some (.dic kvs)=>.ok ⟨M,kvs.map λp=>ZsT p.1⟩ (h.set i (.fdic kvs))
  |some (.fdic kvs)=>.ok ⟨M,kvs.map λp=>ZsT p.1⟩ h
  |_=>.bad
 |_=>.bad
noncomputable def ZaQ(i:Int):Bool:=Wt (-(2^62)<=i)&&Wt (i<2^62)
noncomputable def Ziy:List Nat->List D->Ev->Ev
 |i::is,x::xs,S=>Ziy is xs (S.set i (J x))
 |_,_,S=>S
def Zbd(g:Tg)(d:D)(S:Ev):Option Ev:=match g with
 |.nm i=>J (S.set i (J d))
 |.two i j=>match d with
  |.tup [a,b]=>J ((S.set i (J a)).set j (J b))
  |_=>M
 |.many is=>match d with
  |.tup xs=>if xs.length=is.length then J (Ziy is xs S)else M
  |_=>M
def Zbx(js:List (Option Nat))(S:Ev):Ev:=js.map λo=>o.bind λj=>(S[j]?).join
inductive Fl where
 |nx|bk|ct|rt (d:D)
def ZP(src:Option (Nat×List D))(g:Tg)(body:Ev->Hd->kz (Fl×Ev)):List D->Ev->Hd->kz (Fl×Ev)
 |[],S,h=>if Wk.stays src h then .ok (.nx,S) h else .bad
 |d::ds,S,h=>if Wk.stays src h then match Zbd g d S with
  |none=>.bad
  |some ρ1=>(body ρ1 h).bind λp h2=>match p with
   |(.nx,ρ2)=>ZP src g body ds ρ2 h2
   |(.ct,ρ2)=>ZP src g body ds ρ2 h2
   |(.bk,ρ2)=>.ok (.nx,ρ2) h2
   |(.rt d,ρ2)=>.ok (.rt d,ρ2) h2
  else .bad
noncomputable def Z9(test:Ev->Hd->kz Bool)(body:Ev->Hd->kz (Fl×Ev)):Nat->Ev->Hd->kz (Fl×Ev)
 |0,_,_=>.bad
 |n+1,S,h=>(test S h).bind λb R=>if b then(body S R).bind λp h2=>match p with
  |(.nx,ρ2)=>Z9 test body n ρ2 h2
  |(.ct,ρ2)=>Z9 test body n ρ2 h2
  |(.bk,ρ2)=>.ok (.nx,ρ2) h2
  |(.rt d,ρ2)=>.ok (.rt d,ρ2) h2
  else .ok (.nx,S) R
@[reducible] def kz.plain:kz α->kz α
 |.exc _ _=>.bad
 |r=>r
def Zz(src:Option (Nat×List D))(g:Tg)(test:Ev->Hd->kz Bool)(aG:Ev->Hd->kz D):List D->Ev->List D->Hd->kz (List D)
 |[],_,ag,h=>if Wk.stays src h then .ok ag h else .bad
 |d::ds,S,ag,h=>if Wk.stays src h/\ag.length<sizeLine then match Zbd g d S with
  |none=>.bad
  |some ρ1=>(test ρ1 h).plain.bind λb R=>if b then(aG ρ1 R).plain.bind λx h2=>Zz src g test aG ds S (ag++[x]) h2 else Zz src g test aG ds S ag R
  else .bad
noncomputable def Zru(C:Str)(i:Nat)(S:Ev)(r:kz D):kz (Fl×Ev):=match r with
 |.bad=>.bad
 |.ok v h=>.ok (.nx,S.set i (J v)) h
 |.exc c h=>if c=C then .ok (.nx,S.set i (J .non)) h else .bad
noncomputable def Zrt(W w:Str)(i n:Nat)(S:Ev)(r:kz D):kz (Fl×Ev):=match r with
 |.bad=>.bad
 |.ok v h=>.ok (.nx,S.set i (J v)) h
 |.exc c h=>if c=W then .ok (.nx,((S.set n M).set i (J (.ref h.length))).set n M) (h++[.lst [.str w,.bl Wr]])else .bad
noncomputable def mnm(C m:Str):Str:=C++(O "." ++ m)
def Za1(d:D)(h:Hd):Option (Str×List (Str×D)):=match d with
 |.ref i=>match h[i]? with
  |some (.ins C fs)=>J (C,fs)
  |_=>M
 |_=>M
def Zi0(Cs:List Str)(f:Str)(x:D)(h:Hd):kz D:=match Za1 x h with
 |some (C,fs)=>if C∈Cs then kz.ofO (fs.lookup f) h else .bad
 |none=>.bad
noncomputable def ZkK(f:Str)(v:D):List (Str×D)->List (Str×D)
 |[]=>[(f,v)]
 |(g,x)::r=>if g=f then(g,v)::r else(g,x)::ZkK f v r
def Zhs(Cs:List Str)(f:Str)(x d:D)(h:Hd):kz D:=match x with
 |.ref i=>match h[i]? with
  |some (.ins C fs)=>if C∈Cs/\fs.length<1000 then .ok .non (h.set i (.ins C (ZkK f d fs)))else .bad
  |_=>.bad
 |_=>.bad
def ZhJ(Cf:Str->List D->Hd->kz D)(C:Str)(xs:List D)(h:Hd):kz D:=(Cf (mnm C (O "__init__")) (.ref h.length::xs) (h++[.ins C []])).bind λd h2=>match d with
 |.non=>.ok (.ref h.length) h2
 |_=>.bad
structure Tb where
 G:Str->Option D
 GD:Str->Option (List (Key×D))
 C:Str->List D->Hd->kz D
 L:Nat
mutual
def ev(T:Tb):Ex->Ev->Hd->kz D
 |.var i,S,h=>kz.ofO (S[i]?).join h
 |.cst d,_,h=>.ok d h
 |.glo x,_,h=>kz.ofO (T.G x) h
 |.bin op a b,S,h=>(ev T a S h).bind λx R=>(ev T b S R).bind λy h2=>opB op x y h2
 |.cmp op a b,S,h=>(ev T a S h).bind λx R=>(ev T b S R).bind λy h2=>opC T.GD op x y h2
 |.cmp2 op gI a b c,S,h=>(ev T a S h).bind λx R=>(ev T b S R).bind λy h2=>(opC T.GD op x y h2).bind λr h3=>match r with
  |.bl Wr=>(ev T c S h3).bind λz h4=>opC T.GD gI y z h4
  |.bl Ws=>.ok (.bl Ws) h3
  |_=>.bad
 |.neg a,S,h=>(ev T a S h).bind λx R=>match x with
  |.int i=>.ok (.int (-i)) R
  |_=>.bad
 |.nt a,S,h=>(ev T a S h).bind λx R=>match x with
  |.bl b=>.ok (.bl (!b)) R
  |_=>.bad
 |.ands es,S,h=>evAnd T es S h
 |.ors es,S,h=>evOr T es S h
 |.ite c a b,S,h=>(tst T c S h).bind λc R=>if c then ev T a S R else ev T b S R
 |.tupl es,S,h=>(evs T es S h).bind λxs R=>if xs.length<=sizeLine then .ok (.tup xs) R else .bad
 |.lstl es,S,h=>(evs T es S h).bind λxs R=>if xs.length<=sizeLine then ZaS (.lst xs) R else .bad
 |.ix a i,S,h=>(ev T a S h).bind λx R=>(ev T i S R).bind λy h2=>Zau T.GD x y h2
 |.sl a lo hi,S,h=>(ev T a S h).bind λx R=>(evo T lo S R).bind λl h2=>(evo T hi S h2).bind λu h3=>ZfM x l u h3
 |.blt f es,S,h=>(evs T es S h).bind λxs R=>ZaJ T.GD f xs R
 |.call f es,S,h=>(evs T es S h).bind λxs R=>T.C f xs R
 |.meth m o es,S,h=>(ev T o S h).bind λx R=>if ZcJ x R then(evs T es S R).bind λxs h2=>ZaP m x xs h2 else .bad
 |.comp _ js it g c e,S,h=>(evi T it S h).bind λw R=>(Zz w.src g (tsto T c) (ev T e) w.xs (Zbx js S) [] R).bind λxs h2=>ZaS (.lst xs) h2
 |.sorts e,S,h=>(ev T e S h).bind λx R=>match (lstOf x R).bind strsOf with
  |some ss=>if ss.length<64 then ZaS (.lst ((Zbq ss.eraseDups).map .str)) R else .bad
  |none=>.bad
 |.maxd e d,S,h=>(ev T e S h).bind λx R=>(ev T d S R).bind λy h2=>Zkt x y h2
 |.dictl ps,S,h=>(evs T ps S h).bind λxs R=>match Zb2 xs with
  |some kvs=>if kvs.length<=15 then ZaS (.dic (ZcV [] kvs)) R else .bad
  |none=>.bad
 |.att Cs o f,S,h=>(ev T o S h).bind λx R=>Zi0 Cs f x R
 |.mk C es,S,h=>(evs T es S h).bind λxs R=>ZhJ T.C C xs R
 |.mcl C m o es,S,h=>(ev T o S h).bind λx R=>match Za1 x R with
  |some (C',fs)=>if C'=C/\fs.lookup m=M then(evs T es S R).bind λxs h2=>T.C (mnm C m) (x::xs) h2 else .bad
  |none=>.bad
 |.any,_,_=>.bad
 |.trev e,S,h=>(ev T e S h).bind λx R=>ZmS x R
 |.lrv e,S,h=>(ev T e S h).bind λx R=>Zut x R
 |.tix o e,S,h=>(ev T o S h).bind λx R=>if ZsV x then(ev T e S R).bind λy h2=>Zlb x y h2 else .bad
 |.lix o e,S,h=>(ev T o S h).bind λx R=>if ZcJ x R then(ev T e S R).bind λy h2=>ZmU x y h2 else .bad
 |.lin a b,S,h=>(ev T a S h).bind λx R=>(ev T b S R).bind λy h2=>Zuu x y h2
 |.rpn a b,S,h=>(ev T a S h).bind λx R=>(shD x R).bind λp R=>(ev T b S R).bind λy h2=>(shD y h2).bind λq h3=>.ok (.bl (!Wt (p=q))) h3
def evs(T:Tb):Exs->Ev->Hd->kz (List D)
 |.nil,_,h=>.ok [] h
 |.cons e es,S,h=>(ev T e S h).bind λx R=>(evs T es S R).bind λxs h2=>.ok (x::xs) h2
def evAnd(T:Tb):Exs->Ev->Hd->kz D
 |.nil,_,_=>.bad
 |.cons e es,S,h=>match es with
  |.nil=>ev T e S h
  |.cons _ _=>(ev T e S h).bind λx R=>match x with
   |.bl Wr=>evAnd T es S R
   |.bl Ws=>.ok (.bl Ws) R
   |_=>.bad
def evOr(T:Tb):Exs->Ev->Hd->kz D
 |.nil,_,_=>.bad
 |.cons e es,S,h=>match es with
  |.nil=>ev T e S h
  |.cons _ _=>(ev T e S h).bind λx R=>match x with
   |.bl Wr=>.ok (.bl Wr) R
   |.bl Ws=>evOr T es S R
   |_=>.bad
def evo(T:Tb):Option Ex->Ev->Hd->kz (Option Int)
 |none,_,h=>.ok M h
 |some e,S,h=>(ev T e S h).bind λx R=>match x with
  |.int i=>.ok (J i) R
  |_=>.bad
def tst(T:Tb):Tx->Ev->Hd->kz Bool
 |.ex e,S,h=>(ev T e S h).bind λx R=>kz.ofO (ZdA T.GD x R) R
 |.ands ts,S,h=>tstAnd T ts S h
 |.ors ts,S,h=>tstOr T ts S h
 |.nt a,S,h=>(tst T a S h).bind λc R=>.ok (!c) R
def tstAnd(T:Tb):Txs->Ev->Hd->kz Bool
 |.one t,S,h=>tst T t S h
 |.cons t ts,S,h=>(tst T t S h).bind λc R=>if c then tstAnd T ts S R else .ok Ws R
def tstOr(T:Tb):Txs->Ev->Hd->kz Bool
 |.one t,S,h=>tst T t S h
 |.cons t ts,S,h=>(tst T t S h).bind λc R=>if c then .ok Wr R else tstOr T ts S R
def tsto(T:Tb):Option Tx->Ev->Hd->kz Bool
 |none,_,h=>.ok Wr h
 |some e,S,h=>tst T e S h
def evi(T:Tb):Ix->Ev->Hd->kz Wk
 |.pl e,S,h=>(ev T e S h).bind λx R=>kz.ofO (ZV x R) R
 |.rng e,S,h=>(ev T e S h).bind λx R=>match x with
  |.int j=>if ZaQ j then .ok ⟨M,ZW 0 j.toNat⟩ R else .bad
  |_=>.bad
 |.rng2 a b,S,h=>(ev T a S h).bind λx R=>(ev T b S R).bind λy h2=>match x,y with
  |.int i,.int j=>if ZaQ i&&ZaQ j then .ok ⟨M,ZW i (j-i).toNat⟩ h2 else .bad
  |_,_=>.bad
 |.enu e,S,h=>(ev T e S h).bind λx R=>kz.ofO ((Zf2 x R).map λw=>⟨w.src,Zcc w.xs⟩) R
 |.rev e,S,h=>(ev T e S h).bind λx R=>kz.ofO ((Zlj x R).map λw=>⟨w.src,w.xs.reverse⟩) R
 |.en1 e,S,h=>(ev T e S h).bind λx R=>match x with
  |.tup xs=>.ok ⟨M,Zrp xs⟩ R
  |_=>.bad
 |.en0 e,S,h=>(ev T e S h).bind λx R=>match x with
  |.tup xs=>.ok ⟨M,Zcc xs⟩ R
  |_=>.bad
 |.dk e,S,h=>(ev T e S h).bind λx R=>Zuj x R
 |.zp a b,S,h=>(ev T a S h).bind λx R=>(ev T b S R).bind λy h2=>zpD x y h2
end
def Ztz(i j:Nat)(S:Ev)(x:D)(h:Hd):kz (Fl×Ev):=match lstOf x h with
 |some [a,b]=>.ok (.nx,(S.set i (J a)).set j (J b)) h
 |_=>.bad
mutual
def xs1(T:Tb):Sx->Ev->Hd->kz (Fl×Ev)
 |.ret e,S,h=>(ev T e S h).bind λx R=>.ok (.rt x,S) R
 |.set g e,S,h=>(ev T e S h).bind λx R=>(kz.ofO (Zbd g x S) R).bind λρ1 h2=>.ok (.nx,ρ1) h2
 |.put o i e,S,h=>(ev T e S h).bind λx R=>(ev T o S R).bind λy h2=>(ev T i S h2).bind λz h3=>(Zak y z x h3).bind λ_ h4=>.ok (.nx,S) h4
 |.aug i op e,S,h=>(kz.ofO (S[i]?).join h).bind λx R=>(ev T e S R).bind λy h2=>match op,x,y with
  |.Add,.int a,.int b=>.ok (.nx,S.set i (J (.int (a+b)))) h2
  |_,_,_=>.bad
 |.drp e,S,h=>(ev T e S h).bind λ_ R=>.ok (.nx,S) R
 |.iff c a b,S,h=>(tst T c S h).bind λt R=>if t then xs2 T a S R else xs2 T b S R
 |.whl c b,S,h=>Z9 (tst T c) (xs2 T b) T.L S h
 |.forr g it b,S,h=>(evi T it S h).bind λw R=>ZP w.src g (xs2 T b) w.xs S R
 |.pas,S,h=>.ok (.nx,S) h
 |.brk,S,h=>.ok (.bk,S) h
 |.cnt,S,h=>.ok (.ct,S) h
 |.seta Cs o f e,S,h=>(ev T e S h).bind λd R=>(ev T o S R).bind λx h2=>(Zhs Cs f x d h2).bind λ_ h3=>.ok (.nx,S) h3
 |.auga Cs o f e,S,h=>(ev T o S h).bind λx R=>(Zi0 Cs f x R).bind λv h2=>(ev T e S h2).bind λy h3=>match v,y with
  |.int a,.int b=>if (Za1 x R).map (·.1)=(Za1 x h3).map (·.1)then(Zhs Cs f x (.int (a+b)) h3).bind λ_ h4=>.ok (.nx,S) h4 else .bad
  |_,_=>.bad
 |.any,_,_=>.bad
 |.rai C e,S,h=>(ev T e S h).bind λ_ R=>.exc C R
 |.trs i f es C,S,h=>(evs T es S h).plain.bind λxs R=>Zru C i S (T.C f xs R)
 |.unl i j e,S,h=>(ev T e S h).bind λx R=>Ztz i j S x R
 |.trw i n f es _ W w,S,h=>(evs T es S h).plain.bind λxs R=>Zrt W w i n S (T.C f xs R)
def xs2(T:Tb):Sxs->Ev->Hd->kz (Fl×Ev)
 |.nil,S,h=>.ok (.nx,S) h
 |.cons s r,S,h=>(xs1 T s S h).bind λp R=>match p with
  |(.nx,ρ1)=>xs2 T r ρ1 R
  |p=>.ok p R
end
structure Fd where
 ps:List Str
 N:List Str
 body:Sxs
noncomputable abbrev fd_(n:Nat)(l:List String)(b:Sxs):Fd:=⟨(l.map O).take n,l.map O,b⟩
structure Pg where
 tb:List (Str×Fd)
 G:Str->Option D
 GD:Str->Option (List (Key×D))
 L:Nat
 ms:List (Str×Fd):=[]
noncomputable def Pg.look(P:Pg)(f:Str):Option Fd:=match P.tb.lookup f with
 |some fd=>J fd
 |none=>P.ms.lookup f
noncomputable def ZL(N:List Str)(ds:List D):Ev:=ds.map J++YJ (N.length-ds.length) M
noncomputable def Zd:kz (Fl×Ev)->kz D
 |.ok (.rt d,_) h=>.ok d h
 |.ok (.nx,_) h=>.ok .non h
 |.exc c h=>.exc c h
 |_=>.bad
def run(P:Pg):Nat->Str->List D->Hd->kz D
 |0,_,_,_=>.bad
 |n+1,f,ds,h=>match P.look f with
  |none=>.bad
  |some fd=>if ds.length=fd.ps.length then Zd (xs2 ⟨P.G,P.GD,run P n,P.L⟩ fd.body (ZL fd.N ds) h)else .bad
def Pg.tbl(P:Pg)(n:Nat):Tb:=⟨P.G,P.GD,run P n,P.L⟩
def FzL(K:Yk)(H:Hp)(a:Yi)(xs:List V):Prop:=(∃o,H a=J (.frz o (.lst xs)))\/∃(o:Obj) (its:Array Yj) (n:Nat),K.lookup a=J o/\o.cls=.type "list" /\ o.dict=M/\o.data=.seq its n/\its.size<=sizeLine/\Zn xs its.toList
def FzL.sq{K:Yk}(h:FzL K H a xs):SqL K H a xs:=h.elim (λ⟨o,h⟩=>.inl (.inr ⟨o,h⟩)) .inr
structure Yx where
 K:Yk
 mg:Str->Option Yj
mutual
inductive RD(Y:Yx)(H:Hp)(B:List Yi):D->V->Prop
 |non:RD Y H B .non .non
 |bl (b:Bool):RD Y H B (.bl b) (.bl b)
 |int (i:Int):RD Y H B (.int i) (.int i)
 |str (x:Str) (ok:Yo x=Wr):RD Y H B (.str x) (.str x)
 |tup {a:Yi}{vs:List V}{ds:List D}:SqT Y.K H a vs->RDs Y H B ds vs->RD Y H B (.tup ds) (.ref a)
 |ref {i:Nat}{a:Yi}:B[i]?=J a->RD Y H B (.ref i) (.ref a)
 |ty (n:String):RD Y H B (.ty n) (.ty n)
 |ro {a:Yi}{vs:List V}{ds:List D}:FzL Y.K H a vs->RDs Y H B ds vs->RD Y H B (.ro ds) (.ref a)
 |kd {x:Str}{a:Yi}:Y.mg x=J (.ref a)->RD Y H B (.kd x) (.ref a)
inductive RDs(Y:Yx)(H:Hp)(B:List Yi):List D->List V->Prop
 |nil:RDs Y H B [] []
 |cons {d:D}{v:V}{ds:List D}{vs:List V}:RD Y H B d v->RDs Y H B ds vs->RDs Y H B (d::ds) (v::vs)
end
inductive RKs(Y:Yx)(H:Hp)(B:List Yi){κ:Type}:List (κ×D)->List (κ×V)->Prop
 |nil:RKs Y H B [] []
 |cons {k:κ}{d:D}{v:V}{ds:List (κ×D)}{vs:List (κ×V)}:RD Y H B d v->RKs Y H B ds vs->RKs Y H B ((k,d)::ds) ((k,v)::vs)
def RO(Y:Yx)(H:Hp)(B:List Yi)(a:Yi):DO->Prop
 |.lst ds=>∃vs,H a=J (.lst vs)/\RDs Y H B ds vs
 |.dic kvs=>∃ai,H a=J (.dK ai)/\RKs Y H B kvs ai
 |.ins C fs=>∃Ca dx b7,H a=J (.ins Ca dx b7)/\Y.mg C=J (.ref Ca)/\RKs Y H B fs b7
 |.fdic kvs=>∃o ai,H a=J (.frz o (.dK ai))/\RKs Y H B kvs ai
def ZbO(kvs:List (Key×D)):Prop:=∀p∈kvs,∀x,p.1=.inr x->Yo x=Wr
def DOk:DO->Prop
 |.dic kvs=>ZbO kvs
 |.fdic kvs=>ZbO kvs
 |_=>True
structure RH(Y:Yx)(H:Hp)(B:List Yi)(h:Hd):Prop where
 len:h.length=B.length
 nd:B.Nodup
 ob:∀(i:Nat) (o:DO) (a:Yi),h[i]?=J o->B[i]?=J a->RO Y H B a o
 ks:∀(i:Nat) (o:DO),h[i]?=J o->DOk o
structure Gr(H:Hp)(B:List Yi)(H':Hp)(μ':List Yi):Prop where
 pre:∀(i:Nat) (a:Yi),B[i]?=J a->μ'[i]?=J a
 new:∀a∈μ',a∈B\/H a=M
 keep:∀b o,b ∉ B->H b=J o->H' b=J o
 fz:∀b o u,H b=J (.frz o u)->H' b=J (.frz o u)
def Gr.refl:Gr H B H B:=⟨λ_ _ h=>h,λ_ h=>.inl h,λ_ _ _ h=>h,λ_ _ _ h=>h⟩
def Gr.trans(a:Gr H B H1 μ1)(b:Gr H1 μ1 H2 μ2):Gr H B H2 μ2:=by
 refine⟨λi x h=>b.pre i x (a.pre i x h),λx hx=>?_,λx o hx h=>?_,λx o u h=>b.fz x o u (a.fz x o u h)⟩
 . rcases b.new x hx with h|h
   . exact a.new x h
   . by_cases hm:x∈B
     . exact .inl hm
     . cases q:H x with
       |none=>exact .inr rfl
       |some o=>rw[a.keep x o hm q]at h;cases h
 . refine b.keep x o (λhm=>?_) (a.keep x o hx h);rcases a.new x hm with z|z
   . exact hx z
   . rw[h]at z;cases z
def Mu:Option HO->Prop
 |some (.lst _)|some (.dK _)|some (.ins _ _ _)|some (.frz _ (.dK _))=>True
 |_=>False
def RO.mut(h:RO Y H B a o):Mu (H a):=by
 cases o with
 |lst ds=>obtain⟨vs,e,_⟩:=h;rw[e];trivial
 |dic ds=>obtain⟨vs,e,_⟩:=h;rw[e];trivial
 |ins C ds=>obtain⟨_,_,_,e,_⟩:=h;rw[e];trivial
 |fdic ds=>obtain⟨_,_,e,_⟩:=h;rw[e];trivial
def RH.mem(r:RH Y H B h)(ha:a∈B):∃(i:Nat) (o:DO),B[i]?=J a/\h[i]?=J o/\RO Y H B a o:=by
 obtain⟨i,hi⟩:=List.mem_iff_getElem?.mp ha;have hl:i<h.length:=by rw[r.len];exact(Ob.mp hi).1
 exact⟨i,h[i],hi,Og hl,r.ob i _ a (Og hl) hi⟩
theorem RH.mut(r:RH Y H B h)(ha:a∈B):Mu (H a):=let⟨_,_,_,_,q⟩:=r.mem ha;q.mut
def Gr.rdT(r:RH Y H B h)(g:Gr H B H' μ')(t:SqT Y.K H a xs):SqT Y.K H' a xs:=by
 rcases t with t|t
 . rcases t with t|⟨o,t⟩
   . exact .inl (.inl (g.keep a _ (λhm=>by have:=r.mut hm;rw[t]at this;exact this) t))
   . exact .inl (.inr ⟨o,g.fz a _ _ t⟩)
 . exact .inr t
def Gr.rdF(r:RH Y H B h)(g:Gr H B H' μ')(t:FzL Y.K H a xs):FzL Y.K H' a xs:=by
 rcases t with⟨o,t⟩|t
 . exact .inl ⟨o,g.fz a _ _ t⟩
 . exact .inr t
section
variable {Y:Yx}{H H':Hp}{B μ':List Yi}{h:Hd}
structure Tr(Y:Yx)(H:Hp)(B:List Yi)(H':Hp)(μ':List Yi):Prop where
 t:∀{a xs},SqT Y.K H a xs->SqT Y.K H' a xs
 f:∀{a xs},FzL Y.K H a xs->FzL Y.K H' a xs
 m:∀{i:Nat}{a},B[i]?=J a->μ'[i]?=J a
mutual
theorem RD.tr(T:Tr Y H B H' μ'):∀{d:D}{v:V},RD Y H B d v->RD Y H' μ' d v
 |_,_,.non=>.non
 |_,_,.bl b=>.bl b
 |_,_,.int i=>.int i
 |_,_,.str x ok=>.str x ok
 |_,_,.tup t s=>.tup (T.t t) (RDs.tr T s)
 |_,_,.ref e=>.ref (T.m e)
 |_,_,.ty n=>.ty n
 |_,_,.ro t s=>.ro (T.f t) (RDs.tr T s)
 |_,_,.kd e=>.kd e
theorem RDs.tr(T:Tr Y H B H' μ'):∀{d:List D}{v:List V},RDs Y H B d v->RDs Y H' μ' d v
 |_,_,.nil=>.nil
 |_,_,.cons a s=>.cons (RD.tr T a) (RDs.tr T s)
end
theorem RKs.tr(T:Tr Y H B H' μ'):∀{d:List (κ×D)}{v:List (κ×V)},RKs Y H B d v->RKs Y H' μ' d v
 |_,_,.nil=>.nil
 |_,_,.cons a s=>.cons (a.tr T) (RKs.tr T s)
theorem RO.tr(T:Tr Y H B H' μ')(q:RO Y H B a o)(e:H' a=H a):RO Y H' μ' a o:=by
 cases o with
 |lst ds=>obtain⟨vs,z,s⟩:=q;exact⟨vs,e.trans z,s.tr T⟩
 |dic ds=>obtain⟨vs,z,s⟩:=q;exact⟨vs,e.trans z,s.tr T⟩
 |ins C ds=>obtain⟨a1,a2,a3,z,m,s⟩:=q;exact⟨a1,a2,a3,e.trans z,m,s.tr T⟩
 |fdic ds=>obtain⟨o,vs,z,s⟩:=q;exact⟨o,vs,e.trans z,s.tr T⟩
def Gr.tr(r:RH Y H B h)(g:Gr H B H' μ'):Tr Y H B H' μ':=⟨g.rdT r,g.rdF r,g.pre _ _⟩
def RD.mono(r:RH Y H B h)(g:Gr H B H' μ')(q:RD Y H B d v):RD Y H' μ' d v:=q.tr (g.tr r)
def RDs.mono(r:RH Y H B h)(g:Gr H B H' μ')(q:RDs Y H B d v):RDs Y H' μ' d v:=q.tr (g.tr r)
def RKs.mono{d:List (κ×D)}(r:RH Y H B h)(g:Gr H B H' μ')(q:RKs Y H B d v):RKs Y H' μ' d v:=q.tr (g.tr r)
theorem RDs.length:∀{d:List D}{v:List V},RDs Y H B d v->d.length=v.length
 |_,_,.nil=>rfl
 |_,_,.cons a s=>by rw[Os,Os,s.length]
theorem RKs.length:∀{d:List (κ×D)}{v:List (κ×V)},RKs Y H B d v->d.length=v.length
 |_,_,.nil=>rfl
 |_,_,.cons a s=>by rw[Os,Os,s.length]
theorem RDs.get:∀{ds:List D}{vs:List V},RDs Y H B ds vs->∀{i:Nat}{d:D},ds[i]?=J d->∃v,vs[i]?=J v/\RD Y H B d v
 |_,_,.nil,i,d,e=>by simp at e
 |_,_,.cons a s,0,d,e=>by cases e;exact⟨_,rfl,a⟩
 |_,_,.cons a s,i+1,d,e=>by obtain⟨v,R,h2⟩:=RDs.get s (i:=i) (d:=d) (by simpa using e);exact⟨v,by simpa using R,h2⟩
theorem RDs.append:∀{ds es:List D}{vs ws:List V},RDs Y H B ds vs->RDs Y H B es ws->RDs Y H B (ds++es) (vs++ws)
 |_,_,_,_,.nil,s=>s
 |_,_,_,_,.cons a r,s=>.cons a (r.append s)
theorem RDs.take:∀{ds:List D}{vs:List V} (n:Nat),RDs Y H B ds vs->RDs Y H B (ds.take n) (vs.take n)
 |_,_,0,_=>.nil
 |_,_,_+1,.nil=>.nil
 |_,_,n+1,.cons a s=>.cons a (s.take n)
theorem RDs.drop:∀{ds:List D}{vs:List V} (n:Nat),RDs Y H B ds vs->RDs Y H B (ds.drop n) (vs.drop n)
 |_,_,0,s=>s
 |_,_,_+1,.nil=>.nil
 |_,_,n+1,.cons a s=>s.drop n
theorem RDs.reverse(s:RDs Y H B ds vs):RDs Y H B ds.reverse vs.reverse:=by
 have gen:∀{ds es:List D}{vs ws:List V},RDs Y H B ds vs->RDs Y H B es ws->RDs Y H B (ds.reverseAux es) (vs.reverseAux ws):=by
  intro ds;induction ds with
  |nil=>intro es vs ws a b;cases a;exact b
  |cons d ds ih=>
   intro es vs ws a b;cases a with
   |cons a s=>have z:=ih s (RDs.cons a b);exact z
 exact gen s .nil
theorem RDs.dropLast(s:RDs Y H B ds vs):RDs Y H B ds.dropLast vs.dropLast:=by rw[List.dropLast_eq_take,List.dropLast_eq_take,s.length];exact s.take _
theorem RDs.set(r:RD Y H B d v):∀{ds:List D}{vs:List V} (i:Nat),RDs Y H B ds vs->RDs Y H B (ds.set i d) (vs.set i v)
 |_,_,_,.nil=>.nil
 |_,_,0,.cons _ s=>.cons r s
 |_,_,i+1,.cons a s=>.cons a (RDs.set r i s)
def RDs.cut(s:RDs Y H B ds vs)(lo hi:Option Int):RDs Y H B (cutD ds lo hi) (Zh2 vs lo hi):=by unfold cutD Zh2;rw[s.length];exact(s.drop _).take _
theorem RDs.isEmpty(s:RDs Y H B ds vs):ds.isEmpty=vs.isEmpty:=by cases s<;>rfl
theorem RDs.atI(s:RDs Y H B ds vs)(e:L2.atI ds i=J d):∃v,L2.atI vs i=J v/\RD Y H B d v:=by
 unfold L2.atI at e ⊢;rw[s.length]at e;cases q:ixN vs.length i with
 |none=>rw[q]at e;cases e
 |some j=>rw[q]at e;exact s.get (i:=j) e
theorem RKs.val[DecidableEq κ]:∀{ds:List (κ×D)}{vs:List (κ×V)},RKs Y H B ds vs->∀(k:κ),((ds.find? λp=>Wt (p.1=k))=M/\(vs.find? λp=>Wt (p.1=k))=M)\/∃d v,(ds.find? λp=>Wt (p.1=k))=J (k,d)/\(vs.find? λp=>Wt (p.1=k))=J (k,v)/\RD Y H B d v
 |_,_,.nil,k=>.inl ⟨rfl,rfl⟩
 |_,_,.cons (k:=k') (d:=d) (v:=v) a s,k=>by
  by_cases e:k'=k
  . subst e;exact .inr ⟨d,v,by simp,by simp,a⟩
  . rcases s.val k with⟨R,h2⟩|⟨d,v,R,h2,h3⟩
    . exact .inl ⟨by simp[e,R],by simp[e,h2]⟩
    . exact .inr ⟨d,v,by simp[e,R],by simp[e,h2],h3⟩
end
def Zq5{α:Type}{l:List α}(hl:l.Nodup){i j:Nat}{x:α}(a:l[i]?=J x)(b:l[j]?=J x):i=j:=by obtain⟨R,e1⟩:=Ob.mp a;obtain⟨h2,e2⟩:=Ob.mp b;exact(List.getElem_inj hl).mp (e1.trans e2.symm)
section
variable {Y:Yx}{H:Hp}{B:List Yi}{h:Hd}
def Gr.add(g:Gr H0 μ0 H B)(hp:H0 p=M):Gr H0 μ0 H (B++[p]):=⟨λi a e=>by have e:=g.pre i a e;rw[Oe (Ob.mp e).1];exact e,λa ha=>(OD.mp ha).elim (g.new a) λz=>by rw[Ox.mp z];exact .inr hp,g.keep,g.fz⟩
def Zlm{H0 H:Hp}(hp:H0 p=M)(e:H0 b=J u):upd H p o b=H b:=Zq λz=>by rw[z,hp]at e;cases e
def Gr.put(g:Gr H0 μ0 H B)(hp:H0 p=M):Gr H0 μ0 (upd H p o) B:=⟨g.pre,g.new,λb u hb e=>(Zlm hp e).trans (g.keep b u hb e),λb u v e=>(Zlm hp e).trans (g.fz b u v e)⟩
def Gr.lay0(hp:H p=M):Gr H B (upd H p o) B:=Gr.refl.put hp
def Gr.lay(hp:H p=M):Gr H B (upd H p o) (B++[p]):=(Gr.lay0 hp).add hp
def NF:Option HO->Prop
 |some (.frz _ _)=>False
 |_=>True
def Gr.write(hp:p∈B)(nf:NF (H p)):Gr H B (upd H p o) B:=⟨λ_ _ e=>e,λa ha=>.inl ha,λb u hb e=>by rw[Zq (show b≠p from λz=>hb (by rw[z];exact hp))];exact e,λb u v e=>by rw[Zq (λz=>by rw[z]at e;rw[e]at nf;exact nf)];exact e⟩
def RO.mono(r:RH Y H B h)(g:Gr H B H' μ')(q:RO Y H B a o)(e:H' a=H a):RO Y H' μ' a o:=q.tr (g.tr r) e
theorem RH.tr(r:RH Y H B h)(T:Tr Y H B H' B)(k:∀a∈B,H' a=H a):RH Y H' B h:=⟨r.len,r.nd,λi o a e1 e2=>(r.ob i o a e1 e2).tr T (k a (O1 e2)),r.ks⟩
def RH.keep(r:RH Y H B h)(g:Gr H B H' B)(k:∀a∈B,H' a=H a):RH Y H' B h:=r.tr (g.tr r) k
def Tr.more:Tr Y H B H (B++[p]):=⟨id,id,λe=>by rw[Oe (Ob.mp e).1];exact e⟩
def ZqY(k:∀(i:Nat) (o:DO),h[i]?=J o->DOk o)(dk:DOk o):∀(i:Nat) (o':DO),(h++[o])[i]?=J o'->DOk o':=by
 intro i o' e1;by_cases hi:i<h.length
 . rw[Oe hi]at e1;exact k i o' e1
 . have cW:i=h.length:=by
    have:=(Ob.mp e1).1;simp at this
    lia
   subst cW;rw[Om (Oq _)]at e1;simp at e1;subst e1;exact dk
def RH.add(r:RH Y H B h)(np:p ∉ B)(n:RO Y H (B++[p]) p o)(dk:DOk o:=by trivial):RH Y H (B++[p]) (h++[o]):=by
 refine⟨by simp[r.len],?_,λi o' a e1 e2=>?_,ZqY r.ks dk⟩
 . rw[List.nodup_append];refine⟨r.nd,by simp,λa ha b hb=>?_⟩;rw[Ox.mp hb];intro z;exact np (z▸ha)
 . by_cases hi:i<h.length
   . rw[Oe hi]at e1;rw[Oe (by rw[<-r.len];exact hi)]at e2;exact(r.ob i o' a e1 e2).tr .more rfl
   . have cW:i=h.length:=by
      have:=(Ob.mp e1).1;simp at this
      lia
     subst cW;rw[Om (Oq _)]at e1;rw[Om (by rw[r.len];exact Oq _)]at e2;simp[r.len]at e1 e2;subst e1;subst e2;exact n
def RH.fr(r:RH Y H B h)(hp:H p=M):p ∉ B:=λz=>by have:=r.mut z;rw[hp]at this;exact this
theorem RH.lay0(r:RH Y H B h)(hp:H p=M):RH Y (upd H p u) B h:=r.keep (Gr.lay0 hp) λa ha=>Zq λz=>r.fr hp (z▸ha)
def RH.lay(r:RH Y H B h)(hp:H p=M)(n:RO Y (upd H p u) (B++[p]) p o)(dk:DOk o:=by trivial):RH Y (upd H p u) (B++[p]) (h++[o]):=(r.lay0 hp).add (r.fr hp) n dk
theorem RH.write{p:Yi}{i:Nat}{u:HO}{o:DO}(r:RH Y H B h)(hp:B[i]?=J p)(n:RO Y (upd H p u) B p o)(nf:NF (H p))(dk:DOk o:=by trivial):RH Y (upd H p u) B (h.set i o):=by
 have hm:p∈B:=O1 hp;refine⟨by simp[r.len],r.nd,λj o' a e1 e2=>?_,λj o' e1=>?_⟩
 rotate_right
 . by_cases hj:j=i
   . subst hj;have hl:j<h.length:=by rw[r.len];exact(Ob.mp hp).1
     rw[Ol hl]at e1;cases e1;exact dk
   . rw[Oc (YK hj)]at e1;exact r.ks j o' e1
 by_cases hj:j=i
 . subst hj;rw[hp]at e2;cases e2;have hl:j<h.length:=by rw[r.len];exact(Ob.mp hp).1
   rw[Ol hl]at e1;cases e1;exact n
 . rw[Oc (YK hj)]at e1;refine(r.ob j o' a e1 e2).mono r (Gr.write hm nf) (Zq λz=>hj ?_);subst z;exact Zq5 r.nd e2 hp
end
def Fin(Y:Yx)(am:Hp->List Yi->α->β->Prop)(H:Hp)(B:List Yi)(r:kz α)(Q:β->Hp->Prop)(E:XK):Prop:=match r with
 |.bad=>False
 |.ok a h'=>∀b H' μ',Gr H B H' μ'->RH Y H' μ' h'->am H' μ' a b->Q b H'
 |.exc c h'=>∀H' μ' C,Gr H B H' μ'->RH Y H' μ' h'->Y.mg c=J (.ref C)->E (.ref C) M H'
section
variable {Y:Yx}{α β α' β':Type}{am:Hp->List Yi->α->β->Prop}{aW:Hp->List Yi->α'->β'->Prop}{H H1:Hp}{B μ1:List Yi}{E:XK}
def Fin.mono(g:Gr H B H1 μ1)(f:Fin Y am H B r Q E):Fin Y am H1 μ1 r Q E:=by
 cases r with
 |bad=>exact f
 |ok a h=>exact λb H' μ' g'=>f b H' μ' (g.trans g')
 |exc c h=>exact λH' μ' C g'=>f H' μ' C (g.trans g')
theorem Fin.bind(f:Fin Y aW H B (r.bind k) Q E)
 (hk:∀a R b H1 μ1,r=.ok a R->Gr H B H1 μ1->RH Y H1 μ1 R->am H1 μ1 a b->Fin Y aW H1 μ1 (k a R) Q E->Q1 b H1):Fin Y am H B r Q1 E:=by
 cases r with
 |bad=>exact f
 |ok a h=>exact λb H' μ' g' rh rl=>hk a h b H' μ' rfl g' rh rl (Fin.mono g' f)
 |exc c h=>exact f
theorem Fin.ok(f:Fin Y am H B (.ok a h) Q E)(rh:RH Y H B h)(r:am H B a b):Q b H:=f b H B Gr.refl rh r
def Fin.at(f:Fin Y am H B (.ok a h) Q E)(g:Gr H B H1 μ1)(rh:RH Y H1 μ1 h)(r:am H1 μ1 a b):Q b H1:=f b H1 μ1 g rh r
theorem Fin.ofO(f:Fin Y am H B (kz.ofO o h) Q E):∃a,o=J a/\Fin Y am H B (.ok a h) Q E:=by
 cases o with
 |none=>exact f.elim
 |some a=>exact⟨a,rfl,f⟩
def Fin.iff[Decidable c](f:Fin Y am H B (if c then r else .bad) Q E):c/\Fin Y am H B r Q E:=by
 by_cases h:c
 . rw[if_pos h]at f;exact⟨h,f⟩
 . rw[if_neg h]at f;exact f.elim
def Fin.new(f:Fin Y (RD Y) H B (ZaS o h) Q E)(rh:RH Y H B h)(hp:H p=M)(n:RO Y (upd H p u) (B++[p]) p o)(dk:DOk o:=by trivial):Q (.ref p) (upd H p u):=f.at (Gr.lay hp) (rh.lay hp n dk) (.ref (by rw[rh.len];simp))
theorem Fin.tup(f:Fin Y (RD Y) H B (.ok (.tup ds) h) Q E)(rh:RH Y H B h)(hp:H p=M)(r:RDs Y H B ds vs):Q (.ref p) (upd H p (.tup vs)):=f.at (Gr.lay0 hp) (rh.lay0 hp) (.tup (.inl (.inl Zi)) (r.mono rh (Gr.lay0 hp)))
def Fin.wrote(f:Fin Y am H B (.ok a (h.set i o)) Q E)(rh:RH Y H B h)(hp:B[i]?=J p)(n:RO Y (upd H p u) B p o)(r:am (upd H p u) B a b)(nf:NF (H p))(dk:DOk o:=by trivial):Q b (upd H p u):=f.at (Gr.write (O1 hp) nf) (rh.write hp n nf dk) r
end
section
variable {Y:Yx}{H:Hp}{B:List Yi}{h:Hd}
theorem RD.lst(rh:RH Y H B h)(r:RD Y H B (.ref i) v)(e:h[i]?=J (.lst xs)):∃a vs,v=.ref a/\B[i]?=J a/\H a=J (.lst vs)/\RDs Y H B xs vs:=by
 cases r with
 |ref q=>obtain⟨vs,R,h2⟩:=rh.ob i _ _ e q;exact⟨_,vs,rfl,q,R,h2⟩
theorem RD.dic(rh:RH Y H B h)(r:RD Y H B (.ref i) v)(e:h[i]?=J (.dic xs)):∃a vs,v=.ref a/\B[i]?=J a/\H a=J (.dK vs)/\RKs Y H B xs vs:=by
 cases r with
 |ref q=>obtain⟨vs,R,h2⟩:=rh.ob i _ _ e q;exact⟨_,vs,rfl,q,R,h2⟩
theorem RD.lstOf(rh:RH Y H B h)(r:RD Y H B d v)(e:lstOf d h=J xs):∃a vs,v=.ref a/\SqL Y.K H a vs/\RDs Y H B xs vs:=by
 cases d with
 |ref i=>
  unfold IV.lstOf at e;simp only at e;split at e
  . cases e;rename_i q;obtain⟨a,vs,R,h2,h3,h4⟩:=r.lst rh q;exact⟨a,vs,R,.of h3,h4⟩
  . cases e
 |ro ys=>
  cases e;cases r with
  |ro q s=>exact⟨_,_,rfl,q.sq,s⟩
 |_=>cases e
theorem RD.seqOf(rh:RH Y H B h)(r:RD Y H B d v)(e:seqOf d h=J xs):∃a vs,v=.ref a/\(SqL Y.K H a vs\/SqT Y.K H a vs)/\RDs Y H B xs vs:=by
 by_cases ht:∃ys,d=.tup ys
 . obtain⟨ys,rfl⟩:=ht;cases e;cases r with
   |tup q s=>exact⟨_,_,rfl,.inr q,s⟩
 . have e':IV.lstOf d h=J xs:=by
    cases d with
    |tup ys=>exact absurd ⟨ys,rfl⟩ ht
    |_=>exact e
   obtain⟨a,vs,R,h2,h3⟩:=r.lstOf rh e';exact⟨a,vs,R,.inl h2,h3⟩
def RD.int_inv(r:RD Y H B (.int i) v):v=.int i:=by cases r;rfl
def RD.str_inv(r:RD Y H B (.str i) v):v=.str i/\Yo i=Wr:=by cases r with|str x ok=>exact⟨rfl,ok⟩
def RD.tup_inv(r:RD Y H B (.tup ds) v):∃a vs,v=.ref a/\SqT Y.K H a vs/\RDs Y H B ds vs:=by cases r with|tup q s=>exact⟨_,_,rfl,q,s⟩
def Zga(hx:Yo x=Wr)(hy:Yo y=Wr):Yo (x++y)=Wr:=by show(x.cps++y.cps).all _=Wr;rw[Array.all_append];unfold Yo at hx hy;rw[hx,hy];rfl
def Zma(hx:Yo x=Wr)(n:Nat):Yo (ZdD x n)=Wr:=by
 have gen:∀(n:Nat) (a:Array Nat),a.all (·<0x110000)=Wr->((YJ n x.cps).foldl (·++·) a).all (·<0x110000)=Wr:=by
  intro n;induction n with
  |zero=>intro a h;exact h
  |succ n ih=>intro a h;rw[List.replicate_succ,Wm];refine ih _ ?_;rw[Array.all_append,h];exact hx
 exact gen n #[] (by simp)
def Zmb(hx:Yo x=Wr)(h:c∈x.cps.toList):Yo ⟨#[c]⟩=Wr:=by unfold Yo at hx ⊢;rw[Array.all_eq_true']at hx;have:=hx c (by simpa using h);simpa using this
def Zoh(h:atI xs i=J x):x∈xs:=by
 unfold atI at h;cases q:ixN xs.length i with
 |none=>rw[q]at h;cases h
 |some j=>rw[q]at h;exact O1 (i:=j) h
end
section
variable {X:Cx}{Y:Yx}{E:XK}
noncomputable def rB(Y:Yx)(E:XK)(f:D->D->Hd->kz D):R2:=λx y H Q=>∃dx dy h B,RH Y H B h/\RD Y H B dx x/\RD Y H B dy y/\Fin Y (RD Y) H B (f dx dy h) Q E
theorem Fin.int2(f:Fin Y (RD Y) H B (int2 x y k) Q E):∃i j,x=.int i/\y=.int j/\Fin Y (RD Y) H B (k i j) Q E:=by
 cases x with
 |int i=>
  cases y with
  |int j=>exact⟨i,j,rfl,rfl,f⟩
  |_=>exact f.elim
 |_=>exact f.elim
def ZqG(hY:Y.K=X.K)(op:Operator):OpR X (binaryOp op) (rB Y E (opB op)):=by
 intro aa s Z H x y v u Q I rx ry hh;obtain⟨dx,dy,h,B,rh,r1,r2,f⟩:=hh;cases op with
 |Add=>
  have f:Fin Y (RD Y) H B (Zlc dx dy h) Q E:=f;cases dx with
  |int i=>
   cases dy with
   |int j=>cases r1;cases r2;exact ZqE aa s Z H _ _ v u Q I rx ry ⟨_,_,rfl,rfl,f.ok rh (.int _)⟩
   |_=>exact f.elim
  |str i=>
   cases dy with
   |str j=>
    obtain⟨hz,f⟩:=Fin.iff f;cases r1 with|str _ o1=>
    cases r2 with|str _ o2=>
    exact ZiG aa s Z H _ _ v u Q I rx ry ⟨_,_,rfl,rfl,hz,f.ok rh (.str _ (Zga o1 o2))⟩
   |_=>exact f.elim
  |tup xs=>
   cases dy with
   |tup ys=>
    obtain⟨hz,f⟩:=Fin.iff f;obtain⟨a,vs,rfl,t1,s1⟩:=r1.tup_inv;obtain⟨b,ws,rfl,t2,s2⟩:=r2.tup_inv;rw[s1.length,s2.length]at hz;by_cases h0:vs=[]
    . subst h0;cases s1;exact Zn2 aa s Z H _ _ v u Q I rx ry ⟨a,b,ws,rfl,rfl,hY▸t1,hY▸t2,f.ok rh (.tup t2 s2)⟩
    . refine Zn1 aa s Z H _ _ v u Q I rx ry ⟨a,b,vs,ws,rfl,rfl,hY▸t1,hY▸t2,h0,hz,λe=>?_,λe p hp=>f.tup rh hp (s1.append s2)⟩;subst e;cases s2;rw[Yr]at f;exact f.ok rh (.tup t1 s1)
   |_=>exact f.elim
  |ref i=>
   cases dy with
   |ref j=>
    unfold Zlc at f;simp only at f;split at f
    . rename_i e1;split at f
      . rename_i e2;obtain⟨hz,f⟩:=f.iff;obtain⟨a,vs,rfl,_,R,s1⟩:=r1.lst rh e1;obtain⟨b,ws,rfl,_,h2,s2⟩:=r2.lst rh e2;rw[s1.length,s2.length]at hz;exact ZqD aa s Z H _ _ v u Q I rx ry ⟨a,b,vs,ws,rfl,rfl,R,h2,hz,λp hp=>f.new rh hp ⟨_,Zi,(s1.append s2).mono rh (Gr.lay hp)⟩⟩
      . exact f.elim
    . exact f.elim
   |_=>exact f.elim
  |_=>exact f.elim
 |Sub=>obtain⟨i,j,rfl,rfl,f⟩:=Fin.int2 f;cases r1;cases r2;exact Zqy aa s Z H _ _ v u Q I rx ry ⟨_,_,rfl,rfl,f.ok rh (.int _)⟩
 |Mult=>
  have f:Fin Y (RD Y) H B (ZsJ dx dy h) Q E:=f;cases dx with
  |str z=>
   cases dy with
   |int n=>
    obtain⟨hz,f⟩:=Fin.iff f;cases r1 with|str _ o1=>
    cases r2;exact ZnZ aa s Z H _ _ v u Q I rx ry ⟨_,_,rfl,rfl,hz.1,hz.2.1,hz.2.2,f.ok rh (.str _ (Zma o1 _))⟩
   |_=>exact f.elim
  |int i=>obtain⟨i,j,e1,rfl,f⟩:=Fin.int2 (show Fin Y (RD Y) H B (IV.int2 (.int i) dy λi j=>if i.natAbs<2^2000/\j.natAbs<2^2000 then .ok (.int (i*j)) h else .bad) Q E from f);cases e1;obtain⟨hz,f⟩:=f.iff;cases r1;cases r2;exact ZkS aa s Z H _ _ v u Q I rx ry ⟨_,_,rfl,rfl,hz,f.ok rh (.int _)⟩
  |_=>exact f.elim
 |Mod=>obtain⟨i,j,rfl,rfl,f⟩:=Fin.int2 f;obtain⟨hz,f⟩:=f.iff;cases r1;cases r2;exact ZqA aa s Z H _ _ v u Q I rx ry ⟨_,_,rfl,rfl,hz,f.ok rh (.int _)⟩
 |FloorDiv=>obtain⟨i,j,rfl,rfl,f⟩:=Fin.int2 f;obtain⟨hz,f⟩:=f.iff;cases r1;cases r2;exact Zn0 aa s Z H _ _ v u Q I rx ry ⟨_,_,rfl,rfl,hz,f.ok rh (.int _)⟩
 |Pow=>obtain⟨i,j,rfl,rfl,f⟩:=Fin.int2 f;obtain⟨hz,f⟩:=f.iff;cases r1;cases r2;exact Zqz aa s Z H _ _ v u Q I rx ry ⟨_,_,rfl,rfl,hz,f.ok rh (.int _)⟩
 |_=>exact f.elim
end
set_option tactic.hygienic true
structure Gk(X:Cx)(Y:Yx)(T:Tb):Prop where
 K:Y.K=X.K
 mg:Y.mg=X.mg
 gd:∀x kvs,T.GD x=J kvs->∃a ai,X.mg x=J (.ref a)/\DkK X.prog X.w X.K a ai/\∀H B,RKs Y H B kvs ai
 g:∀x d,T.G x=J d->∃v u,X.mg x=J u/\RelV v u/\∀H B,RD Y H B d v
 bare:Zbp X.K=Wr
section
variable {X:Cx}{Y:Yx}{E:XK}{T:Tb}{H:Hp}{B:List Yi}{h:Hd}
theorem RD.dicOf(G:Gk X Y T)(rh:RH Y H B h)(r:RD Y H B d v)(e:dicOf T.GD d h=J kvs):∃a ai,v=.ref a/\Dk X.prog X.w X.K H a ai/\RKs Y H B kvs ai:=by
 cases d with
 |ref i=>
  unfold IV.dicOf at e;simp only at e;split at e
  . cases e;rename_i q;obtain⟨a,vs,R,_,h3,h4⟩:=r.dic rh q;exact⟨a,vs,R,.inl (.inl h3),h4⟩
  . cases e;rename_i q;cases r with
    |ref qm=>obtain⟨o,vs,R,h2⟩:=rh.ob i _ _ q qm;exact⟨_,vs,rfl,.inl (.inr ⟨o,R⟩),h2⟩
  . cases e
 |kd x=>
  obtain⟨a,ai,R,h2,h3⟩:=G.gd x kvs e;cases r with
  |kd q=>rw[G.mg,R]at q;cases q;exact⟨a,ai,rfl,.inr h2,h3 H B⟩
 |_=>cases e
def Zmv(r:RD Y H B d v)(e:keyOf d=J k):∀x,k=.inr x->Yo x=Wr:=by
 cases d with
 |int i=>cases e;intro x z;cases z
 |str i=>
  cases e;intro x z;cases z;cases r with
  |str _ ok=>exact ok
 |_=>cases e
def Ze7(h:ZbO kvs)(hk:∀x,k=.inr x->Yo x=Wr):ZbO (putD kvs k c):=by
 intro p hp x e;unfold putD at hp;split at hp
 . obtain⟨q,hq,rfl⟩:=List.mem_map.mp hp;refine h q hq x ?_;split at e<;>exact e
 . rcases OD.mp hp with hp|hp
   . exact h p hp x e
   . rw[Ox.mp hp]at e;exact hk x e
def Zcw(r:RD Y H B d v)(e:keyOf d=J k):v=kV k:=by
 cases d with
 |int i=>cases e;cases r;rfl
 |str i=>cases e;cases r;rfl
 |_=>cases e
def RKs.valV_rel(s:RKs Y H B ds vs)(k:Key):(ZU ds k=M/\Zc6 vs k=M)\/∃d v,ZU ds k=J d/\Zc6 vs k=J v/\RD Y H B d v:=by
 unfold ZU Zc6;rcases s.val k with⟨R,h2⟩|⟨d,v,R,h2,h3⟩
 . exact .inl ⟨by rw[R];rfl,by rw[h2];rfl⟩
 . exact .inr ⟨d,v,by rw[R];rfl,by rw[h2];rfl,h3⟩
theorem RKs.any_rel(k:Key):∀{ds:List (Key×D)}{vs:List (Key×V)},RKs Y H B ds vs->(ds.any λkv=>Wt (kv.1=k))=(vs.any λkv=>Wt (kv.1=k))
 |_,_,.nil=>rfl
 |_,_,.cons a s=>by rw[YZ,YZ,s.any_rel k]
theorem RKs.map_rel(k:Key)(r:RD Y H B d v):∀{ds:List (Key×D)}{vs:List (Key×V)},RKs Y H B ds vs->RKs Y H B (ds.map λkv=>if kv.1=k then(kv.1,d)else kv) (vs.map λkv=>if kv.1=k then(kv.1,v)else kv)
 |_,_,.nil=>.nil
 |_,_,.cons (k:=k') a s=>by
  rw[Op,Op];by_cases e:k'=k
  . rw[if_pos e,if_pos e];exact .cons r (s.map_rel k r)
  . rw[if_neg e,if_neg e];exact .cons a (s.map_rel k r)
theorem RKs.append:∀{ds es:List (κ×D)}{vs ws:List (κ×V)},RKs Y H B ds vs->RKs Y H B es ws->RKs Y H B (ds++es) (vs++ws)
 |_,_,_,_,.nil,s=>s
 |_,_,_,_,.cons a r,s=>.cons a (r.append s)
def RKs.put(s:RKs Y H B ds vs)(k:Key)(r:RD Y H B d v):RKs Y H B (putD ds k d) (putK vs k v):=by
 unfold putD putK;rw[s.any_rel k];split
 . exact s.map_rel k r
 . exact s.append (.cons r .nil)
mutual
theorem RD.dp(rh:RH Y H B h)(rd:Nat->Option PyData)(hr:∀i p a,rd i=J p->B[i]?=J a->Dp Y.K H (.ref a) p):∀{d:D}{v:V}{p:PyData},RD Y H B d v->D.py rd d=J p->Dp Y.K H v p
 |_,_,_,.non,e=>by cases e;exact .non
 |_,_,_,.bl b,e=>by cases e;exact .bl b
 |_,_,_,.int i,e=>by cases e;exact .int i
 |_,_,_,.str x ok,e=>by cases e;exact .str x ok
 |_,_,_,.tup t s,e=>by rw[D.py]at e;obtain⟨ps,e1,rfl⟩:=Oo.mp e;exact .tup t (RDs.dps rh rd hr s e1)
 |_,_,_,.ref q,e=>hr _ _ _ e q
 |_,_,_,.ty n,e=>by cases e
 |_,_,_,.ro t s,e=>by rw[D.py]at e;obtain⟨ps,e1,rfl⟩:=Oo.mp e;exact .lst t.sq (RDs.dps rh rd hr s e1)
 |_,_,_,.kd q,e=>by cases e
theorem RDs.dps(rh:RH Y H B h)(rd:Nat->Option PyData)(hr:∀i p a,rd i=J p->B[i]?=J a->Dp Y.K H (.ref a) p):∀{d:List D}{v:List V}{p:List PyData},RDs Y H B d v->D.pys rd d=J p->Dps Y.K H v p
 |_,_,_,.nil,e=>by cases e;exact .nil
 |_,_,_,.cons a s,e=>by rw[D.pys]at e;obtain⟨q,e1,e2⟩:=Option.bind_eq_some_iff.mp e;obtain⟨qs,e3,rfl⟩:=Oo.mp e2;exact .cons (RD.dp rh rd hr a e1) (RDs.dps rh rd hr s e3)
end
theorem Zjv(rh:RH Y H B h):∀(n i:Nat) (p:PyData) (a:Yi),Zee h n i=J p->B[i]?=J a->Dp Y.K H (.ref a) p
 |0,i,p,a,e,q=>by cases e
 |n+1,i,p,a,e,q=>by
  rw[Zee]at e;split at e
  . rename_i xs he;obtain⟨ps,e1,rfl⟩:=Oo.mp e;obtain⟨vs,z,s⟩:=rh.ob i _ a he q;exact .lst (.of z) (RDs.dps rh _ (Zjv rh n) s e1)
  . cases e
def ZeD(rh:RH Y H B h)(r:RD Y H B d v)(e:ZfK h d=J p):Dp Y.K H v p:=r.dp rh _ (Zjv rh 4) e
def Zfg(r:RD Y H B d v)(f:d.flat=Wr):ZcL v=Wr:=by cases r<;>first|rfl|cases f
theorem ZdM:∀{ds:List D}{vs:List V},RDs Y H B ds vs->ds.all D.flat=Wr->vs.all ZcL=Wr
 |_,_,.nil,_=>rfl
 |_,_,.cons a s,f=>by rw[List.all_cons,Oa]at f;rw[List.all_cons,Zfg a f.1,ZdM s f.2];rfl
def Zrn(r:RD Y H B d v)(q:RD Y H B e w)(f:d.flat=Wr)(g:e.flat=Wr):eqF d e=eqV v w:=by cases r<;>cases q<;>first|rfl|exact absurd f (by simp[D.flat])|exact absurd g (by simp[D.flat])
theorem any_rel(q:RD Y H B e w)(g:e.flat=Wr):∀{ds:List D}{vs:List V},RDs Y H B ds vs->ds.all D.flat=Wr->(ds.any λz=>eqF z e)=vs.any λy=>eqV y w
 |_,_,.nil,_=>rfl
 |_,_,.cons a s,f=>by rw[List.all_cons,Oa]at f;rw[YZ,YZ,Zrn a q f.1 g,any_rel q g s f.2]
def Zn9(hr:Room k X.A)(h60:60<=k)(hY:Y.K=X.K):OpR X (YL .Eq) (rB Y E (Zbu Ws)):=by
 intro aa s Z H x y v u Q I rx ry hh;obtain⟨dx,dy,h,B,rh,r1,r2,f⟩:=hh;unfold Zbu at f;split at f
 . rename_i e1 e2;obtain⟨hz,f⟩:=f.iff;have d1:=ZeD rh r1 e1;have d2:=ZeD rh r2 e2;rw[hY]at d1 d2;obtain⟨as,q1⟩:=I.reads d1 rx;obtain⟨bs,q2⟩:=I.reads d2 ry;have:=hr.un;exact SeqAt.compareEq_reads q1 q2 d1.lay d2.lay (by lia) ⟨.bl _,H,I,rfl,f.ok rh (.bl _)⟩
 . exact f.elim
def Zn4(hr:Room k X.A)(h60:60<=k)(hY:Y.K=X.K):OpR X (YL .NotEq) (rB Y E (Zbu Wr)):=by
 intro aa s Z H x y v u Q I rx ry hh;obtain⟨dx,dy,h,B,rh,r1,r2,f⟩:=hh;unfold Zbu at f;split at f
 . rename_i e1 e2;obtain⟨hz,f⟩:=f.iff;have d1:=ZeD rh r1 e1;have d2:=ZeD rh r2 e2;rw[hY]at d1 d2;obtain⟨as,q1⟩:=I.reads d1 rx;obtain⟨bs,q2⟩:=I.reads d2 ry;have:=hr.un;exact SeqAt.compareNe_reads q1 q2 d1.lay d2.lay (by lia) ⟨.bl _,H,I,rfl,f.ok rh (.bl _)⟩
 . exact f.elim
def ZeE(ho:OpR X (YL op) (rI0 λi j=>.bl (g i j))):OpR X (YL op) (rB Y E (ZgG g)):=by
 intro aa s Z H x y v u Q I rx ry hh;obtain⟨dx,dy,h,B,rh,r1,r2,f⟩:=hh;unfold ZgG at f;split at f
 . cases r1;cases r2;exact ho aa s Z H _ _ v u Q I rx ry ⟨_,_,rfl,rfl,f.ok rh (.bl _)⟩
 . exact f.elim
def ZjK(r:RD Y H B d v):Wt (d=.non)=Wt (v=.non):=by cases r<;>simp
def Zn7:OpR X (YL .Is) (rB Y E (opN Ws)):=by
 intro aa s Z H x y v u Q I rx ry hh;obtain⟨dx,dy,h,B,rh,r1,r2,f⟩:=hh;unfold opN at f;split at f
 . cases r2;have z:=ZjK r1;simp only[OG,if_false,z]at f;exact ZqB aa s Z H _ _ v u Q I rx ry ⟨rfl,f.ok rh (.bl _)⟩
 . exact f.elim
def ZkU:OpR X (YL .IsNot) (rB Y E (opN Wr)):=by
 intro aa s Z H x y v u Q I rx ry hh;obtain⟨dx,dy,h,B,rh,r1,r2,f⟩:=hh;unfold opN at f;split at f
 . cases r2;have z:=ZjK r1;simp only[if_true,z]at f;exact ZnY aa s Z H _ _ v u Q I rx ry ⟨rfl,f.ok rh (.bl _)⟩
 . exact f.elim
def Zn8(G:Gk X Y T):OpR X (YL .In) (rB Y E (ZbP T.GD Ws)):=by
 intro aa s Z H x y v u Q I rx ry hh;obtain⟨dx,dy,h,B,rh,r1,r2,f⟩:=hh;unfold ZbP at f;split at f
 . rename_i xs e1;obtain⟨hz,f⟩:=f.iff;rw[Oa]at hz;obtain⟨a,vs,rfl,hs,rs⟩:=r2.seqOf rh e1;have q:=f.ok rh (.bl _);simp only[OG,if_false,any_rel r1 hz.1 rs hz.2]at q;exact ZkT aa s Z H _ _ v u Q I rx ry ⟨a,vs,rfl,G.K▸hs,Zfg r1 hz.1,ZdM rs hz.2,q⟩
 . split at f
   . rename_i kvs k e1 e2;obtain⟨a,ai,rfl,hd,rk⟩:=r2.dicOf G rh e1;have q:=f.ok rh (.bl _);have z:(ZU kvs k).isSome=(Zc6 ai k).isSome:=by rcases rk.valV_rel k with⟨R,h2⟩|⟨d,v,R,h2,_⟩<;>rw[R,h2]<;>rfl
     rw[z]at q;exact ZqC aa s Z H _ _ v u Q I rx ry ⟨a,ai,k,rfl,Zcw r1 e2,hd,q⟩
   . exact f.elim
def ZiH(G:Gk X Y T):OpR X (YL .NotIn) (rB Y E (ZbP T.GD Wr)):=by
 intro aa s Z H x y v u Q I rx ry hh;obtain⟨dx,dy,h,B,rh,r1,r2,f⟩:=hh;unfold ZbP at f;split at f
 . rename_i xs e1;obtain⟨hz,f⟩:=f.iff;rw[Oa]at hz;obtain⟨a,vs,rfl,hs,rs⟩:=r2.seqOf rh e1;have q:=f.ok rh (.bl _);simp only[if_true,any_rel r1 hz.1 rs hz.2]at q;exact ZgF aa s Z H _ _ v u Q I rx ry ⟨a,vs,rfl,G.K▸hs,Zfg r1 hz.1,ZdM rs hz.2,q⟩
 . split at f
   . rename_i kvs k e1 e2;obtain⟨a,ai,rfl,hd,rk⟩:=r2.dicOf G rh e1;have q:=f.ok rh (.bl _);have z:(ZU kvs k).isSome=(Zc6 ai k).isSome:=by rcases rk.valV_rel k with⟨R,h2⟩|⟨d,v,R,h2,_⟩<;>rw[R,h2]<;>rfl
     rw[z]at q;exact ZkR aa s Z H _ _ v u Q I rx ry ⟨a,ai,k,rfl,Zcw r1 e2,hd,q⟩
   . exact f.elim
def Zl8(hr:Room k X.A)(h60:60<=k)(G:Gk X Y T)(op:CmpOp):OpR X (YL op) (rB Y E (opC T.GD op)):=by
 cases op with
 |Eq=>exact Zn9 hr h60 G.K
 |NotEq=>exact Zn4 hr h60 G.K
 |Lt=>exact ZeE Zsv
 |LtE=>exact ZeE Zsw
 |Gt=>exact ZeE Zsx
 |GtE=>exact ZeE Zsy
 |Is=>exact Zn7
 |IsNot=>exact ZkU
 |In=>exact Zn8 G
 |NotIn=>exact ZiH G
def Zn5(G:Gk X Y T):IxR X (rB Y E (Zau T.GD)):=by
 intro value slice aa s Z H x y v u Q I rx ry hh hs;obtain⟨dx,dy,h,B,rh,r1,r2,f⟩:=hh;have dict:∀(kvs:List (Key×D)) (k:Key),dicOf T.GD dx h=J kvs->y=kV k->Fin Y (RD Y) H B (kz.ofO (ZU kvs k) h) Q E->Yz (model X.prog X.w) X.A (subscriptTail value slice v u) (EP X aa Z Q) X.xe s:=by
  intro kvs k e1 ey f;obtain⟨d,e2,f⟩:=f.ofO;obtain⟨a,ai,rfl,hd,rk⟩:=r1.dicOf G rh e1;rcases rk.valV_rel k with⟨R,h2⟩|⟨d',w,R,h2,h3⟩
  . rw[R]at e2;cases e2
  . rw[R]at e2;cases e2;exact Zot value slice aa s Z H _ _ v u Q I rx ry ⟨a,ai,k,w,rfl,ey,hd,h2,f.ok rh h3⟩ hs
 unfold Zau at f;split at f
 . rename_i i;cases r2;split at f
   . rename_i xs e1;obtain⟨d,e2,f⟩:=f.ofO;obtain⟨a,vs,rfl,hq,rs⟩:=r1.seqOf rh e1;obtain⟨w,e3,az⟩:=rs.atI e2;rcases hq with hq|hq
     . exact Zos value slice aa s Z H _ _ v u Q I rx ry ⟨a,vs,i,w,rfl,rfl,G.K▸hq,e3,f.ok rh az⟩ hs
     . exact Zq3 value slice aa s Z H _ _ v u Q I rx ry ⟨a,vs,i,w,rfl,rfl,G.K▸hq,e3,f.ok rh az⟩ hs
   . split at f
     . obtain⟨hz,f⟩:=f.iff;obtain⟨d,e2,f⟩:=f.ofO;obtain⟨c,e3,rfl⟩:=Oo.mp e2;obtain⟨rfl,ok⟩:=r1.str_inv;exact Zq4 value slice aa s Z H _ _ v u Q I rx ry ⟨_,i,c,rfl,rfl,hz,e3,f.ok rh (.str _ (Zmb ok (Zoh e3)))⟩ hs
     . split at f
       . rename_i kvs e1;exact dict kvs (.inl i) e1 rfl f
       . exact f.elim
 . rename_i z;obtain⟨rfl,ok⟩:=r2.str_inv;split at f
   . rename_i kvs e1;exact dict kvs (.inr z) e1 rfl f
   . exact f.elim
 . exact f.elim
def Zl9(hx:Yo x=Wr)(h:∀c∈y.cps.toList,c∈x.cps.toList):Yo y=Wr:=by unfold Yo at hx ⊢;rw[Array.all_eq_true']at hx ⊢;intro c hc;exact hx c (by simpa using h c (by simpa using hc))
def Zni(hY:Y.K=X.K)(rh:RH Y H B h)(r:RD Y H B d v)(e:ZdA T.GD d h=J b):ZrA X.K v H b:=by
 cases d with
 |non=>cases r;cases e;rfl
 |bl c=>cases r;cases e;rfl
 |int c=>cases r;cases e;rfl
 |str c=>
  cases r;unfold ZdA at e;simp only at e;split at e
  . rename_i hz;cases e;refine⟨hz,?_⟩;by_cases h0:c.length=0
    . simp[h0]
    . have R:((c.length:Int) != 0)=Wr:=by
       simp
       lia
      rw[R];simp[h0]
  . cases e
 |tup xs=>obtain⟨a,vs,rfl,t,s⟩:=r.tup_inv;cases e;exact .inr (.inl ⟨vs,hY▸t,by rw[s.isEmpty]⟩)
 |ref i=>
  unfold ZdA at e;simp only at e;split at e
  . rename_i q;cases e;obtain⟨a,vs,rfl,_,h3,s⟩:=r.lst rh q;exact .inl ⟨vs,.of h3,by rw[s.isEmpty]⟩
  . rename_i q;cases e;obtain⟨a,vs,rfl,_,h3,s⟩:=r.dic rh q;exact .inr (.inr ⟨vs,h3,by cases s<;>rfl⟩)
  . cases e
 |ro xs=>
  cases e;cases r with
  |ro q s=>exact .inl ⟨_,hY▸q.sq,by rw[s.isEmpty]⟩
 |ty n=>cases e
 |kd x=>cases e
end
section
variable {X:Cx}{Y:Yx}{E:XK}{T:Tb}{H:Hp}{B:List Yi}{h:Hd}
def rS(Y:Yx)(E:XK):V->Option Int->Option Int->Hp->VK->Prop:=λx l u H Q=>∃d h B,RH Y H B h/\RD Y H B d x/\Fin Y (RD Y) H B (ZfM d l u h) Q E
def ZeS(y:Str)(l u:Option Int):∀c∈(Yp y l u).cps.toList,c∈y.cps.toList:=by
 intro c hc;unfold Yp at hc;split at hc
 . exact hc
 . simp only[List.mem_filterMap]at hc;obtain⟨i,_,hi⟩:=hc;have:=Array.mem_of_getElem? hi;simpa using this
def Zk7{xs:List D}{lo hi:Option Int}(h:HT.sIx xs.length 0 lo=0/\HT.sIx xs.length xs.length hi=xs.length):cutD xs lo hi=xs:=by unfold cutD;rw[h.1,h.2];simp
def Zn3(hY:Y.K=X.K):SlR X (rS Y E):=by
 intro aa s Z H x v vl vu lo hi sl Q I rx hs pl pu hh;obtain⟨d,h,B,rh,r,f⟩:=hh;unfold ZfM at f;split at f
 . rename_i xs;obtain⟨a,vs,rfl,t,rs⟩:=r.tup_inv;by_cases hw:HT.sIx vs.length 0 lo=0/\HT.sIx vs.length vs.length hi=vs.length
   . rw[Zk7 (by rw[rs.length];exact hw)]at f;exact ZlC aa s Z H _ v vl vu lo hi sl Q I rx hs pl pu ⟨a,vs,rfl,hY▸t,hw,f.ok rh (.tup t rs)⟩
   . exact ZpU aa s Z H _ v vl vu lo hi sl Q I rx hs pl pu ⟨a,vs,rfl,hY▸t,hw,λp hp=>f.tup rh hp (rs.cut lo hi)⟩
 . obtain⟨hz,f⟩:=f.iff;obtain⟨rfl,ok⟩:=r.str_inv;exact ZpV aa s Z H _ v vl vu lo hi sl Q I rx hs pl pu ⟨_,rfl,hz,f.ok rh (.str _ (Zl9 ok (ZeS _ _ _)))⟩
 . split at f
   . rename_i xs e1;obtain⟨a,vs,rfl,hl,rs⟩:=r.lstOf rh e1;exact Znn aa s Z H _ v vl vu lo hi sl Q I rx hs pl pu ⟨a,vs,rfl,hY▸hl,λp hp=>f.new rh hp ⟨_,Zi,(rs.cut lo hi).mono rh (Gr.lay hp)⟩⟩
   . exact f.elim
def rF(Y:Yx)(E:XK)(f:List D->Hd->kz D):List V->Hp->VK->Prop:=λxs H Q=>∃ds h B,RH Y H B h/\RDs Y H B ds xs/\Fin Y (RD Y) H B (f ds h) Q E
def RDs.one(r:RDs Y H B [d] xs):∃x,xs=[x]/\RD Y H B d x:=by
 cases r with
 |cons a s=>cases s;exact⟨_,rfl,a⟩
def RDs.two(r:RDs Y H B [d,e] xs):∃x y,xs=[x,y]/\RD Y H B d x/\RD Y H B e y:=by
 cases r with
 |cons a s=>obtain⟨y,rfl,b⟩:=s.one;exact⟨_,_,rfl,a,b⟩
def ZoV(hY:Y.K=X.K):Zag X (.builtin "len") (rF Y E ZmV):=by
 intro aa s Z H xs us Q I r hh;obtain⟨ds,h,B,rh,rs,f⟩:=hh;unfold ZmV at f;split at f
 . obtain⟨hz,f⟩:=f.iff;obtain⟨x,rfl,rd⟩:=rs.one;obtain⟨rfl,ok⟩:=rd.str_inv;exact Zg6 aa s Z H _ us Q I r ⟨_,rfl,hz,f.ok rh (.int _)⟩
 . obtain⟨e,e1,f⟩:=f.ofO;obtain⟨zs,e2,rfl⟩:=Oo.mp e1;obtain⟨x,rfl,rd⟩:=rs.one;obtain⟨a,vs,rfl,hq,rv⟩:=rd.seqOf rh e2;refine Zg7 aa s Z H _ us Q I r ⟨a,vs,rfl,hY▸hq,?_⟩;rw[<-rv.length];exact f.ok rh (.int _)
 . exact f.elim
def Zor{K:Yk}{t T:String}{b:Bool}(e:ZiW t T=J b):PySem.W.kitOne K (.type t) (.type T)=J b:=by
 have all:(["int", "str", "bool", "tuple", "list"].all λT=>["int", "str", "bool", "tuple", "list", "NoneType"].all λt=>Wt (PySem.W.kitOne [] (.type t) (.type T)=J (t==T||(t == "bool" && T == "int"))))=Wr:=by decide +kernel
 unfold ZiW at e;split at e
 . rename_i hm;cases e;rw[OC]at all;have R:=all T hm.1;rw[OC]at R;exact Zk1 (of_decide_eq_true (R t hm.2))
 . cases e
def ZrS(hY:Y.K=X.K)(rh:RH Y H B h)(r:RD Y H B d v)(e:ZpL d h=J t):TyN X.K v H t:=by
 have lst:(IV.lstOf d h).map (λ_ => "list")=J t->TyN X.K v H t:=λe=>by obtain⟨xs,e1,rfl⟩:=Oo.mp e;obtain⟨a,vs,rfl,hl,rs⟩:=r.lstOf rh e1;exact .inl ⟨rfl,vs,hY▸hl⟩
 cases d with
 |int i=>cases e;cases r;rfl
 |str i=>cases e;cases r;rfl
 |bl i=>cases e;cases r;rfl
 |non=>cases e;cases r;rfl
 |tup xs=>cases e;obtain⟨a,vs,rfl,t,rs⟩:=r.tup_inv;exact .inr ⟨rfl,vs,hY▸t⟩
 |ref i=>exact lst e
 |ro xs=>exact lst e
 |ty n=>exact lst e
 |kd x=>exact lst e
def ZoW(hY:Y.K=X.K):Zag X (.builtin "isinstance") (rF Y E Zo6):=by
 intro aa s Z H xs us Q I r hh;obtain⟨ds,h,B,rh,rs,f⟩:=hh;unfold Zo6 at f;split at f
 . obtain⟨e,e1,f⟩:=f.ofO;obtain⟨t,e2,e3⟩:=Option.bind_eq_some_iff.mp e1;obtain⟨b,e4,rfl⟩:=Oo.mp e3;obtain⟨x,y,rfl,r1,r2⟩:=rs.two;cases r2;exact ZmP aa s Z H _ us Q I r ⟨x,t,_,b,rfl,ZrS hY rh r1 e2,Zor e4,f.ok rh (.bl _)⟩
 . exact f.elim
def ZoX:Zag X (.type "int") (rF Y E Zrx):=by
 intro aa s Z H xs us Q I r hh;obtain⟨ds,h,B,rh,rs,f⟩:=hh;unfold Zrx at f;split at f
 . obtain⟨x,rfl,r1⟩:=rs.one;cases r1;exact Zgm aa s Z H _ us Q I r (.inl ⟨_,rfl,f.ok rh (.int _)⟩)
 . obtain⟨x,rfl,r1⟩:=rs.one;cases r1;exact Zgm aa s Z H _ us Q I r (.inr ⟨_,rfl,f.ok rh (.int _)⟩)
 . exact f.elim
def ZoT(hY:Y.K=X.K):Zag X (.type "list") (rF Y E Zo4):=by
 intro aa s Z H xs us Q I r hh;obtain⟨ds,h,B,rh,rs,f⟩:=hh;unfold Zo4 at f;split at f
 . split at f
   . rename_i e2;obtain⟨x,rfl,r1⟩:=rs.one;obtain⟨a,vs,rfl,hq,rv⟩:=r1.seqOf rh e2;exact Zg5 aa s Z H _ us Q I r ⟨a,vs,rfl,hY▸hq,λp hp=>f.new rh hp ⟨_,Zi,rv.mono rh (Gr.lay hp)⟩⟩
   . exact f.elim
 . exact f.elim
theorem Zfa:∀{ds:List D}{vs:List V}{ns:List Int},RDs Y H B ds vs->intsOf ds=J ns->vs=ns.map V.int
 |_,_,_,.nil,e=>by cases e;rfl
 |_,_,_,.cons (d:=d) a s,e=>by
  cases d with
  |int i=>rw[intsOf]at e;obtain⟨z,e1,rfl⟩:=Oo.mp e;cases a;rw[Zfa s e1];rfl
  |_=>cases e
theorem Zkm:∀{ds:List D}{vs:List V}{ns:List Bool},RDs Y H B ds vs->Zgo ds=J ns->vs=ns.map V.bl
 |_,_,_,.nil,e=>by cases e;rfl
 |_,_,_,.cons (d:=d) a s,e=>by
  cases d with
  |bl i=>rw[Zgo]at e;obtain⟨z,e1,rfl⟩:=Oo.mp e;cases a;rw[Zkm s e1];rfl
  |_=>cases e
def ZoQ(hc:X.A.handled=M)(hY:Y.K=X.K):Zag X (.builtin "sum") (rF Y E ZmT):=by
 intro aa s Z H xs us Q I r hh;obtain⟨ds,h,B,rh,rs,f⟩:=hh;unfold ZmT at f;split at f
 . obtain⟨e,e1,f⟩:=f.ofO;obtain⟨ns,e2,rfl⟩:=Oo.mp e1;obtain⟨zs,e3,e4⟩:=Option.bind_eq_some_iff.mp e2;obtain⟨x,rfl,r1⟩:=rs.one;obtain⟨a,vs,rfl,hl,rv⟩:=r1.lstOf rh e3;rw[Zfa rv e4]at hl;exact Zk9 hc aa s Z H _ us Q I r ⟨a,ns,rfl,hY▸hl,f.ok rh (.int _)⟩
 . exact f.elim
def ZoY(hc:X.calm=Wr)(hY:Y.K=X.K):Zag X (.builtin "all") (rF Y E Zo7):=by
 intro aa s Z H xs us Q I r hh;obtain⟨ds,h,B,rh,rs,f⟩:=hh;unfold Zo7 at f;split at f
 . obtain⟨e,e1,f⟩:=f.ofO;obtain⟨ns,e2,rfl⟩:=Oo.mp e1;obtain⟨zs,e3,e4⟩:=Option.bind_eq_some_iff.mp e2;obtain⟨x,rfl,r1⟩:=rs.one;obtain⟨a,vs,rfl,hl,rv⟩:=r1.lstOf rh e3;rw[Zkm rv e4]at hl;exact ZmQ hc aa s Z H _ us Q I r ⟨a,ns,rfl,hY▸hl,f.ok rh (.bl _)⟩
 . exact f.elim
def rM(Y:Yx)(E:XK)(m:Mf):V->List V->Hp->VK->Prop:=λx xs H Q=>∃d ds h B,RH Y H B h/\RD Y H B d x/\RDs Y H B ds xs/\Fin Y (RD Y) H B (ZaP m d ds h) Q E
noncomputable def mid:Mf->String
 |.app => "list.append"
 |.ext => "list.extend"
 |.pop => "list.pop"
 |.rev => "list.reverse"
 |.clr => "list.clear"
def ZjM(hY:Y.K=X.K)(m:Mf):MtM X (mid m) (rM Y E m):=by
 intro aa s Z H x xs v us Q I rx rs hh;obtain⟨d,ds,h,B,rh,r1,r2,f⟩:=hh;unfold ZaP at f;split at f
 . split at f
   . rename_i i ys e;obtain⟨a,vs,rfl,hi,hl,rv⟩:=r1.lst rh e;cases m with
     |app=>
      unfold Zef Zmk at f;simp only at f;split at f
      . obtain⟨hz,f⟩:=f.iff;obtain⟨y,rfl,ry⟩:=r2.one;have g:Gr H B (upd H a (.lst (vs++[y]))) B:=Gr.write (O1 hi) (by rw[hl];trivial);exact Zgb aa s Z H _ _ v us Q I rx rs ⟨a,vs,y,rfl,rfl,hl,by rw[<-rv.length];exact hz,f.wrote rh hi ⟨_,Zi,(rv.append (.cons ry .nil)).mono rh g⟩ .non (by rw[hl];trivial)⟩
      . exact f.elim
     |ext=>
      unfold Zef Zoj at f;simp only at f;split at f
      . split at f
        . rename_i zs e2;obtain⟨hz,f⟩:=f.iff;obtain⟨y,rfl,ry⟩:=r2.one;obtain⟨b,ws,rfl,hj,bm,az⟩:=ry.lst rh e2;have g:Gr H B (upd H a (.lst (vs++ws))) B:=Gr.write (O1 hi) (by rw[hl];trivial);exact ZkY aa s Z H _ _ v us Q I rx rs ⟨a,b,vs,ws,rfl,rfl,hl,bm,by rw[<-rv.length,<-az.length];exact hz,f.wrote rh hi ⟨_,Zi,(rv.append az).mono rh g⟩ .non (by rw[hl];trivial)⟩
        . exact f.elim
      . obtain⟨hz,f⟩:=f.iff;obtain⟨y,rfl,ry⟩:=r2.one;obtain⟨b,ws,rfl,t,az⟩:=ry.tup_inv;have g:Gr H B (upd H a (.lst (vs++ws))) B:=Gr.write (O1 hi) (by rw[hl];trivial);exact ZiL aa s Z H _ _ v us Q I rx rs ⟨a,b,vs,ws,rfl,rfl,hl,hY▸t,by rw[<-rv.length,<-az.length];exact hz,f.wrote rh hi ⟨_,Zi,(rv.append az).mono rh g⟩ .non (by rw[hl];trivial)⟩
      . exact f.elim
     |pop=>
      unfold Zef ZqM at f;simp only at f;split at f
      . split at f
        . rename_i y e2;cases r2;rw[rv.length]at e2;obtain⟨w,e3,az⟩:=rv.get e2;have g:Gr H B (upd H a (.lst vs.dropLast)) B:=Gr.write (O1 hi) (by rw[hl];trivial);exact ZqK aa s Z H _ _ v us Q I rx rs ⟨a,vs,w,rfl,rfl,hl,e3,f.wrote rh hi ⟨_,Zi,rv.dropLast.mono rh g⟩ (az.mono rh g) (by rw[hl];trivial)⟩
        . exact f.elim
      . exact f.elim
     |rev=>
      unfold Zef ZsN at f;simp only at f;split at f
      . cases r2;have g:Gr H B (upd H a (.lst vs.reverse)) B:=Gr.write (O1 hi) (by rw[hl];trivial);exact ZiK aa s Z H _ _ v us Q I rx rs ⟨a,vs,rfl,rfl,hl,f.wrote rh hi ⟨_,Zi,rv.reverse.mono rh g⟩ .non (by rw[hl];trivial)⟩
      . exact f.elim
     |clr=>
      unfold Zef ZsO at f;simp only at f;split at f
      . cases r2;exact Zmf aa s Z H _ _ v us Q I rx rs ⟨a,vs,rfl,rfl,hl,f.wrote rh hi ⟨_,Zi,.nil⟩ .non (by rw[hl];trivial)⟩
      . exact f.elim
   . exact f.elim
 . exact f.elim
def rP(Y:Yx)(E:XK):Zo9:=λo i v H Q=>∃a b c h B,RH Y H B h/\RD Y H B a o/\RD Y H B b i/\RD Y H B c v/\Fin Y (λ_ _ (_:Unit) (_:Unit)=>True) H B (Zak a b c h) (λ_ H'=>Q H') E
def Zp9:Zpa X (rP Y E):=by
 intro aa s Z H o i v ov iv u Q I ro ri rv hh;obtain⟨a,b,c,h,B,rh,ra,rb,rc,f⟩:=hh;unfold Zak at f;split at f
 . split at f
   . rename_i j xs e;split at f
     . split at f
       . rename_i j' e2;obtain⟨p,vs,rfl,hi,hl,rs⟩:=ra.lst rh e;have hb:=rb.int_inv;subst hb;rw[rs.length]at e2;have g:Gr H B (upd H p (.lst (vs.set j' v))) B:=Gr.write (O1 hi) (by rw[hl];trivial);exact set_list aa s Z H _ _ v ov iv u Q I ro ri rv ⟨p,vs,_,j',rfl,rfl,hl,e2,f.wrote (b:=()) rh hi ⟨_,Zi,(RDs.set rc j' rs).mono rh g⟩ trivial (by rw[hl];trivial)⟩
       . exact f.elim
     . exact f.elim
   . rename_i j kvs e;split at f
     . rename_i k e2;obtain⟨hz,f⟩:=f.iff;obtain⟨p,vs,rfl,hi,hl,rs⟩:=ra.dic rh e;have g:Gr H B (upd H p (.dK (putK vs k v))) B:=Gr.write (O1 hi) (by rw[hl];trivial);exact set_dict aa s Z H _ _ v ov iv u Q I ro ri rv ⟨p,vs,k,rfl,Zcw rb e2,hl,by rw[<-rs.length];exact hz,f.wrote (b:=()) rh hi ⟨_,Zi,(rs.put k rc).mono rh g⟩ trivial (by rw[hl];trivial) (Ze7 (rh.ks _ _ e) (Zmv rb e2))⟩
     . exact f.elim
   . exact f.elim
 . exact f.elim
end
def rW(K:Yk)(x:V)(H1:Hp)(kz:It->Hp->Prop):Prop:=(∃a,x=.ref a/\(∃xs,SqL K H1 a xs)/\kz (Itl K a) H1)\/(∃a,x=.ref a/\(∃xs,SqT K H1 a xs)/\kz (Itt K a) H1)
def Zqi(hl:PE X l tl):PI X tg l (λZ H kz=>tl Z H λx H1=>rW X.K x H1 kz):=by
 intro aa s Z H kz I h;refine thn (hl aa s Z H _ I h) λv s1 ⟨x,H1,I1,r1,q1⟩=>?_;have ic:∀b∈[s1.heap.objs.size],Zcr X aa H1 b:=λb hb=>by
  have e:b=s1.heap.objs.size:=by simpa using hb
  subst e;exact I1.fpOk (Oq _) (I1.hok.fresh (Oq _))
 rcases q1 with⟨a,rfl,⟨xs,hq⟩,q⟩|⟨a,rfl,⟨xs,hq⟩,q⟩
 . cases r1;obtain⟨its,rv,p,hz⟩:=I1.list hq;exact wpAny_pyIter_list p.isList ⟨s1.heap.objs.size,[s1.heap.objs.size],_,_,H1,rfl,I1.kept (t':=s1.toks) λb o e=>Od _ e,Zky a _,⟨_,Oj _ rfl,rfl,rfl⟩,ic,q⟩
 . cases r1;obtain⟨its,rv,p,hz⟩:=I1.tuple hq;exact wpAny_pyIter_tuple (show s1.heap.IsTuple a its.toArray from p) ⟨s1.heap.objs.size,[s1.heap.objs.size],_,_,H1,rfl,I1.kept (t':=s1.toks) λb o e=>Od _ e,Zir a _,⟨_,Oj _ rfl,rfl,rfl⟩,ic,q⟩
def WJ(Y:Yx)(H0:Hp)(μ0:List Yi)(w:Wk)(ku:It):Prop:=∀H B h,Gr H0 μ0 H B->RH Y H B h->Wk.stays w.src h=Wr ->
 (∀i d,w.xs[i]?=J d->ku.go i H/\∀x H',ku.yld i H x H'->Gr H B H' B/\RH Y H' B h/\RD Y H' B d x)/\ku.stop w.xs.length H
section
variable {X:Cx}{Y:Yx}{H:Hp}{B:List Yi}{h:Hd}
def ZpE(hY:Y.K=X.K)(rh:RH Y H B h)(t:SqT Y.K H a vs)(s:RDs Y H B xs vs):WJ Y H B ⟨M,xs⟩ (Itt X.K a):=by intro H1 μ1 R g ah st;have t1:=g.rdT rh t;have s1:=s.mono rh g;rw[hY]at t1;refine⟨λi d e=>?_,⟨vs,t1,by rw[s.length];exact Oq _⟩⟩;obtain⟨v,e1,r1⟩:=s1.get e;refine⟨⟨vs,v,t1,e1⟩,λx H' ⟨eH,q⟩=>?_⟩;subst eH;have:=q vs t1;rw[e1]at this;cases this;exact⟨Gr.refl,ah,r1⟩
def Zpd(hY:Y.K=X.K)(rh:RH Y H B h)(t:FzL Y.K H a vs)(s:RDs Y H B xs vs):WJ Y H B ⟨M,xs⟩ (Itl X.K a):=by intro H1 μ1 R g ah st;have t1:=(g.rdF rh t).sq;have s1:=s.mono rh g;rw[hY]at t1;refine⟨λi d e=>?_,⟨vs,t1,by rw[s.length];exact Oq _⟩⟩;obtain⟨v,e1,r1⟩:=s1.get e;refine⟨⟨vs,v,t1,e1⟩,λx H' ⟨eH,q⟩=>?_⟩;subst eH;have:=q vs t1;rw[e1]at this;cases this;exact⟨Gr.refl,ah,r1⟩
def ZeN(st:Wk.stays (J (i,xs)) h=Wr):h[i]?=J (.lst xs):=of_decide_eq_true st
def Zlh(hi:B[i]?=J a):WJ Y H B ⟨J (i,xs),xs⟩ (Itl X.K a):=by intro H1 μ1 R g ah st;obtain⟨vs,hl,s1⟩:=ah.ob i _ a (ZeN st) (g.pre i a hi);have t1:SqL X.K H1 a vs:=.of hl;refine⟨λi d e=>?_,⟨vs,t1,by rw[s1.length];exact Oq _⟩⟩;obtain⟨v,e1,r1⟩:=s1.get e;refine⟨⟨vs,v,t1,e1⟩,λx H' ⟨eH,q⟩=>?_⟩;subst eH;have:=q vs t1;rw[e1]at this;cases this;exact⟨Gr.refl,ah,r1⟩
def ZpF{lo:Int}:WJ Y H B ⟨M,ZW lo n⟩ (Itr lo n):=by
 intro H1 μ1 R g ah st;have hl:(ZW lo n).length=n:=by simp[ZW]
 refine⟨λi d e=>?_,by show n<=(ZW lo n).length;rw[hl];exact Oq _⟩;have hi:i<n:=by have:=(Ob.mp e).1;rw[hl]at this;exact this
 refine⟨hi,λx H' ⟨eH,q⟩=>?_⟩;subst eH q;have:d=.int (lo+i):=by unfold ZW at e;rw[On,List.getElem?_range hi]at e;exact(YE e).symm
 subst this;exact⟨Gr.refl,ah,.int _⟩
def ZmJ{xs:List D}{i:Nat}{d:D}(e:(Zcc xs)[i]?=J d):∃x,xs[i]?=J x/\d=.tup [.int i,x]:=by unfold Zcc at e;rw[List.getElem?_mapIdx]at e;obtain⟨x,e1,e2⟩:=Oo.mp e;exact⟨x,e1,e2.symm⟩
def Zjj{a:Yi}{src:Option (Nat×List D)}{xs:List D}(hw:WJ Y H B ⟨src,xs⟩ (Itl X.K a))(sq:∀H1 μ1 R,Gr H B H1 μ1->RH Y H1 μ1 R->Wk.stays src R=Wr->∃vs,SqL X.K H1 a vs/\RDs Y H1 μ1 xs vs):WJ Y H B ⟨src,Zcc xs⟩ (Ite X.K a):=by
 intro H1 μ1 R g ah st;obtain⟨vs,t1,s1⟩:=sq H1 μ1 R g ah st;have hl:(Zcc xs).length=xs.length:=by simp[Zcc]
 refine⟨λi d e=>?_,⟨vs,t1,by rw[hl,s1.length]⟩⟩;obtain⟨x0,e0,rfl⟩:=ZmJ e;obtain⟨v,e1,r1⟩:=s1.get e0;refine⟨⟨vs,v,t1,e1⟩,λx H' ⟨p,ex,hp,y,q,eH⟩=>?_⟩;subst ex eH;have:=q vs t1;rw[e1]at this;cases this;exact⟨Gr.lay0 hp,ah.lay0 hp,.tup (.inl (.inl Zi)) (.cons (.int _) (.cons (r1.mono ah (Gr.lay0 hp)) .nil))⟩
def ZpG(hY:Y.K=X.K)(rh:RH Y H B h)(t:SqT Y.K H a vs)(s:RDs Y H B xs vs):WJ Y H B ⟨M,xs.reverse⟩ (Itv X.K a vs.length):=by intro H1 μ1 R g ah st;have t1:=g.rdT rh t;have s1:=(s.mono rh g).reverse;rw[hY]at t1;refine⟨λi d e=>?_,⟨vs,t1,rfl,by simp[s.length]⟩⟩;obtain⟨v,e1,r1⟩:=s1.get e;refine⟨⟨vs,v,t1,rfl,e1⟩,λx H' ⟨eH,q⟩=>?_⟩;subst eH;have:=q vs t1;rw[e1]at this;cases this;exact⟨Gr.refl,ah,r1⟩
def Zm6(hi:B[i]?=J a):WJ Y H B ⟨J (i,xs),xs.reverse⟩ (ZrB X.K a xs.length):=by intro H1 μ1 R g ah st;obtain⟨vs,hl,s0⟩:=ah.ob i _ a (ZeN st) (g.pre i a hi);have t1:SqL X.K H1 a vs:=.of hl;have s1:=s0.reverse;refine⟨λi d e=>?_,⟨vs,t1,s0.length.symm,by simp⟩⟩;obtain⟨v,e1,r1⟩:=s1.get e;refine⟨⟨vs,v,t1,s0.length.symm,e1⟩,λx H' ⟨eH,q⟩=>?_⟩;subst eH;have:=q vs t1;rw[e1]at this;cases this;exact⟨Gr.refl,ah,r1⟩
def ZpD{X:Cx}(hY:Y.K=X.K)(rh:RH Y H B h)(t:SqT Y.K H a vs)(s:RDs Y H B xs vs)(t':SqT Y.K H b vs')(s':RDs Y H B ys vs')(hl:xs.length=ys.length):WJ Y H B ⟨M,ZfI xs ys⟩ (Itz X.K a b):=by
 intro H1 μ1 R g ah st;have t1:=g.rdT rh t;have s1:=s.mono rh g;have t2:=g.rdT rh t';have s2:=s'.mono rh g;rw[hY]at t1 t2;have hz:(ZfI xs ys).length=xs.length:=by simp[ZfI,hl]
 refine⟨λi d e=>?_,⟨vs,t1,by rw[hz,s1.length]⟩⟩;obtain⟨x0,y0,e0,e1,rfl⟩:∃x0 y0,xs[i]?=J x0/\ys[i]?=J y0/\d=.tup [x0,y0]:=by
  unfold ZfI at e;rw[List.getElem?_zipWith]at e;split at e
  . rename_i x y q1 q2;exact⟨x,y,q1,q2,(YE e).symm⟩
  . cases e
 obtain⟨v,e2,r2⟩:=s1.get e0;obtain⟨u,e3,r3⟩:=s2.get e1;refine⟨⟨vs,vs',v,u,t1,t2,e2,e3⟩,λx H' ⟨p,x1,y1,ex,hp,q1,q2,eH⟩=>?_⟩;subst ex eH;have:=q1 vs t1;rw[e2]at this;cases this;have:=q2 vs' t2;rw[e3]at this;cases this;exact⟨Gr.lay0 hp,ah.lay0 hp,.tup (.inl (.inl Zi)) (.cons (r2.mono ah (Gr.lay0 hp)) (.cons (r3.mono ah (Gr.lay0 hp)) .nil))⟩
theorem RKs.keys:∀{kvs:List (Key×D)}{ai:List (Key×V)},RKs Y H B kvs ai->kvs.map (·.1)=ai.map (·.1)
 |_,_,.nil=>rfl
 |_,_,.cons a s=>by rw[Op,Op,s.keys]
def Zna{d:D}{kz:It->Hp->Prop}(hY:Y.K=X.K)(rh:RH Y H B h)(r:RD Y H B d x)(e:ZV d h=J w)(q:∀ku,WJ Y H B w ku->kz ku H):rW X.K x H kz:=by
 cases d with
 |tup xs=>cases e;obtain⟨a,vs,rfl,t,s⟩:=r.tup_inv;exact .inr ⟨a,rfl,⟨vs,hY▸t⟩,q _ (ZpE hY rh t s)⟩
 |ro xs=>
  cases e;cases r with
  |ro t s=>exact .inl ⟨_,rfl,⟨_,hY▸t.sq⟩,q _ (Zpd hY rh t s)⟩
 |ref i=>
  unfold ZV at e;simp only at e;split at e
  . rename_i xs he;cases e;obtain⟨a,vs,rfl,hi,hl,s⟩:=r.lst rh he;exact .inl ⟨a,rfl,⟨vs,.of hl⟩,q _ (Zlh hi)⟩
  . cases e
 |_=>cases e
end
structure Kl where
 cs:List Str
 ats:List Str
 ms:List (Str×Str)
 is:List Str
 xs:List Str:=[]
 xa:List (Str×Str):=[]
structure Gm where
 N:List Str
 sc:Scope
 fs:List Str
 top:Bool
 kl:Kl
noncomputable def glb(Γ:Gm)(x:Str):Bool:=Wt (Γ.sc.names.lookup x=J .globalImplicit)&&!(x==("__debug__" : Str))
noncomputable def Znc(sc:Scope)(x:Str):Bool:=Wt (sc.names.lookup x=J .local)||Wt (sc.names.lookup x=J .cell)||Wt (sc.names.lookup x=J .free)
noncomputable def Zkk:Bf->Str
 |.len => "len" |.isi => "isinstance" |.int => "int" |.tup => "tuple" |.lst => "list" |.sum => "sum" |.all => "all" |.srt => "sorted" |.mx => "max" |.sri => "sorted" |.lnd => "len"
noncomputable def bok:Bf->Bool
 |.mx=>Ws
 |.tup=>Ws
 |_=>Wr
noncomputable def Zmg:Mf->Str
 |.app => "append" |.ext => "extend" |.pop => "pop" |.rev => "reverse" |.clr => "clear"
noncomputable def Zkl:List Str:=["len", "isinstance", "int", "tuple", "list", "sum", "all", "sorted", "range", "enumerate", "reversed", "str", "bool", "max", "repr", "zip", "set", "dict", "any"]
noncomputable def Zjk:List String:=["int", "str", "bool", "tuple", "list"]
structure Pt where
 a:Expr:=default
 b:Expr:=default
 c:Expr:=default
 xs:List Expr:=[]
 s:Str:=⟨#[]⟩
 op:Operator:=.Add
 cs:List CmpOp:=[]
 u:UnaryOp:=.Not
 bo:BoolOp:=.And
 p:Pos:=default
 kw:List Keyword:=[]
 l:Option Expr:=M
 h:Option Expr:=M
 st:Option Expr:=M
 ks:List (Option Expr):=[]
 gs:List Comprehension:=[]
 sc:Scope:=default
 k:Nat:=0
 v:Const:=.none
noncomputable def tgE:Expr->Nat
 |.Starred _ _=>0|.BoolOp _ _ _=>1|.UnaryOp _ _ _=>2|.IfExp _ _ _ _=>3|.Compare _ _ _ _=>4|.Slice _ _ _ _=>5|.Name _ _=>6|.BinOp _ _ _ _=>7|.Tuple _ _ _=>8|.List _ _=>9
 |.Subscript _ _ _=>10|.Call _ _ _ _=>11|.Attribute _ _ _=>12|.ListComp _ _ _ _=>13|.Dict _ _ _=>14|.Constant _ _ _=>15|.NamedExpr _ _ _=>17|.Set _ _ _=>18|.SetComp _ _ _ _=>19|.DictComp _ _ _ _ _=>19|_=>16
noncomputable def prt(e:Expr):Pt:=match e with
 |.BoolOp o xs p=>{bo:=o,xs:=xs,p:=p}
 |.UnaryOp o x p=>{a:=x,u:=o,p:=p}
 |.IfExp t x y p=>{a:=t,b:=x,c:=y,p:=p}
 |.Compare l os rs p=>{a:=l,cs:=os,xs:=rs,p:=p}
 |.Slice l u s p=>{l:=l,h:=u,st:=s,p:=p}
 |.Name x p=>{s:=x,p:=p}
 |.BinOp l o r p=>{a:=l,b:=r,op:=o,p:=p}
 |.Tuple xs k p=>{xs:=xs,k:=k,p:=p}
 |.List xs p=>{xs:=xs,p:=p}
 |.Subscript x y p=>{a:=x,b:=y,p:=p}
 |.Call f xs kw p=>{a:=f,xs:=xs,kw:=kw,p:=p}
 |.Attribute x n p=>{a:=x,s:=n,p:=p}
 |.ListComp x gs sc p=>{a:=x,gs:=gs,p:=p,sc:=sc}
 |.Dict ks vs p=>{ks:=ks,xs:=vs,p:=p}
 |.Constant c k p=>{v:=c,k:=k,p:=p}
 |_=>{a:=e}
noncomputable def mkE(n:Nat)(p:Pt):Expr:=match n with
 |1=>.BoolOp p.bo p.xs p.p|2=>.UnaryOp p.u p.a p.p|3=>.IfExp p.a p.b p.c p.p|4=>.Compare p.a p.cs p.xs p.p|5=>.Slice p.l p.h p.st p.p|6=>.Name p.s p.p|7=>.BinOp p.a p.op p.b p.p
 |8=>.Tuple p.xs p.k p.p|9=>.List p.xs p.p|10=>.Subscript p.a p.b p.p|11=>.Call p.a p.xs p.kw p.p|12=>.Attribute p.a p.s p.p
 |13=>.ListComp p.a p.gs p.sc p.p|14=>.Dict p.ks p.xs p.p|15=>.Constant p.v p.k p.p|_=>p.a
def rb(e:Expr):mkE (tgE e) (prt e)=e:=by cases e<;>rfl
def bL{a b:Bool}(h:(a&&b)=Wr):a=Wr:=by cases a with|true=>rfl|false=>cases h
def bR{a b:Bool}(h:(a&&b)=Wr):b=Wr:=by cases a with|true=>exact h|false=>cases h
def bO{a b:Bool}{P:Prop}(h:(a||b)=Wr)(l:a=Wr->P)(r:b=Wr->P):P:=by cases a with|true=>exact l rfl|false=>exact r h
def ff{P:Prop}(h:Ws=Wr):P:=by cases h
def dS{α:Type}{P:α->Prop}{a b:α}[Decidable (a=b)](h:Wt (a=b)=Wr)(k:P b):P a:=of_decide_eq_true h▸k
def an(n:Nat)(e:Expr)(f:Pt->Bool):Bool:=Wt (tgE e=n)&&f (prt e)
section
variable {P:Expr->Prop}{e:Expr}
def Zav(h:an n e f=Wr)(k:∀p,f p=Wr->P (mkE n p)):P e:=rb e▸dS (P:=λm=>P (mkE m (prt e))) (bL h) (k _ (bR h))
noncomputable def l1{α:Type}(xs:List α)(f:α->Bool):Bool:=match xs with
 |[y]=>f y
 |_=>Ws
@[elab_as_elim] theorem Za0{α:Type}{P:List α->Prop}{xs:List α}{f:α->Bool}(h:l1 xs f=Wr)(k:∀y,f y=Wr->P [y]):P xs:=by
 cases xs with
 |nil=>cases h
 |cons y r=>
  cases r with
  |nil=>exact k y h
  |cons _ _=>cases h
noncomputable def l2{α:Type}(xs:List α)(f:α->α->Bool):Bool:=match xs with
 |[x,y]=>f x y
 |_=>Ws
@[elab_as_elim] theorem Zpq{α:Type}{P:List α->Prop}{xs:List α}{f:α->α->Bool}(h:l2 xs f=Wr)(k:∀x y,f x y=Wr->P [x,y]):P xs:=by
 cases xs with
 |nil=>cases h
 |cons x r=>
  cases r with
  |nil=>cases h
  |cons y r=>
   cases r with
   |nil=>exact k x y h
   |cons _ _=>cases h
noncomputable def l0{α:Type}(xs:List α)(b:Bool):Bool:=xs.isEmpty&&b
def ZjS{α:Type}{P:List α->Prop}{xs:List α}(h:l0 xs b=Wr)(k:b=Wr->P []):P xs:=by
 cases xs with
 |nil=>exact k h
 |cons _ _=>cases h
@[irreducible] def aN(e:Expr)(f:Str->Bool):Bool:=an 6 e λp=>f p.s
@[elab_as_elim] theorem ZsI(h:aN e f=Wr)(k:∀x q,f x=Wr->P (.Name x q)):P e:=by unfold aN at h;exact Zav h λ_ h=>k _ _ h
@[irreducible] def aX(x:Str)(e:Expr)(b:Bool):Bool:=an 6 e λp=>Wt (p.s=x)&&b
@[elab_as_elim] theorem Zm5(h:aX x e b=Wr)(k:∀q,b=Wr->P (.Name x q)):P e:=by unfold aX at h;exact Zav h λp h=>dS (P:=λs=>P (.Name s p.p)) (bL h) (k _ (bR h))
@[irreducible] def aB2(o:Operator)(e:Expr)(f:Expr->Expr->Bool):Bool:=an 7 e λp=>Wt (p.op=o)&&f p.a p.b
@[elab_as_elim] theorem Ztk(h:aB2 o e f=Wr)(k:∀l r q,f l r=Wr->P (.BinOp l o r q)):P e:=by unfold aB2 at h;exact Zav h λp h=>dS (P:=λs=>P (.BinOp p.a s p.b p.p)) (bL h) (k _ _ _ (bR h))
@[irreducible] def aC1(o:CmpOp)(e:Expr)(f:Expr->Expr->Bool):Bool:=an 4 e λp=>Wt (p.cs=[o])&&l1 p.xs λr=>f p.a r
@[elab_as_elim] theorem Zpy(h:aC1 o e f=Wr)(k:∀l r q,f l r=Wr->P (.Compare l [o] [r] q)):P e:=by unfold aC1 at h;exact Zav h λp h=>dS (P:=λs=>P (.Compare p.a s p.xs p.p)) (bL h) (Za0 (P:=λs=>P (.Compare p.a [o] s p.p)) (bR h) λ_ h=>k _ _ _ h)
@[irreducible] def aU(u:UnaryOp)(e:Expr)(f:Expr->Bool):Bool:=an 2 e λp=>Wt (p.u=u)&&f p.a
@[elab_as_elim] theorem ZpK(h:aU u e f=Wr)(k:∀x q,f x=Wr->P (.UnaryOp u x q)):P e:=by unfold aU at h;exact Zav h λp h=>dS (P:=λs=>P (.UnaryOp s p.a p.p)) (bL h) (k _ _ (bR h))
@[irreducible] def aO(o:BoolOp)(e:Expr)(f:List Expr->Bool):Bool:=an 1 e λp=>Wt (p.bo=o)&&f p.xs
@[elab_as_elim] theorem Zod(h:aO o e f=Wr)(k:∀xs q,f xs=Wr->P (.BoolOp o xs q)):P e:=by unfold aO at h;exact Zav h λp h=>dS (P:=λs=>P (.BoolOp s p.xs p.p)) (bL h) (k _ _ (bR h))
@[irreducible] def aI(e:Expr)(f:Expr->Expr->Expr->Bool):Bool:=an 3 e λp=>f p.a p.b p.c
@[elab_as_elim] theorem Zug(h:aI e f=Wr)(k:∀t x y q,f t x y=Wr->P (.IfExp t x y q)):P e:=by unfold aI at h;exact Zav h λ_ h=>k _ _ _ _ h
@[irreducible] def aT(e:Expr)(f:List Expr->Bool):Bool:=an 8 e λp=>f p.xs
@[elab_as_elim] theorem Zhq(h:aT e f=Wr)(k:∀xs j q,f xs=Wr->P (.Tuple xs j q)):P e:=by unfold aT at h;exact Zav h λ_ h=>k _ _ _ h
@[irreducible] def aLs(e:Expr)(f:List Expr->Bool):Bool:=an 9 e λp=>f p.xs
@[elab_as_elim] theorem ZsP(h:aLs e f=Wr)(k:∀xs q,f xs=Wr->P (.List xs q)):P e:=by unfold aLs at h;exact Zav h λ_ h=>k _ _ h
@[irreducible] def aS(e:Expr)(f:Expr->Expr->Bool):Bool:=an 10 e λp=>f p.a p.b
@[elab_as_elim] theorem ZpY(h:aS e f=Wr)(k:∀x y q,f x y=Wr->P (.Subscript x y q)):P e:=by unfold aS at h;exact Zav h λ_ h=>k _ _ _ h
@[irreducible] def aSl(e:Expr)(f:Expr->Option Expr->Option Expr->Bool):Bool:=aS e λx y=>an 5 y λp=>p.st.isNone&&f x p.l p.h
@[elab_as_elim] theorem Zr9(h:aSl e f=Wr)(k:∀x l u q r,f x l u=Wr->P (.Subscript x (.Slice l u M q) r)):P e:=by
 unfold aSl at h;exact ZpY h λx _ r h=>Zav (P:=λy=>P (.Subscript x y r)) h λp h=>by show P (.Subscript x (.Slice p.l p.h p.st p.p) r);rw[Option.isNone_iff_eq_none.mp (bL h)];exact k _ _ _ _ _ (bR h)
@[irreducible] def aCN(n:Str)(e:Expr)(f:List Expr->Bool):Bool:=an 11 e λp=>aX n p.a (l0 p.kw (f p.xs))
@[elab_as_elim] theorem Zdl(h:aCN n e f=Wr)(k:∀p ys q,f ys=Wr->P (.Call (.Name n p) ys [] q)):P e:=by unfold aCN at h;exact Zav h λp h=>Zm5 (P:=λa=>P (.Call a p.xs p.kw p.p)) h λq h=>ZjS (P:=λw=>P (.Call (.Name n q) p.xs w p.p)) h λh=>k _ _ _ h
@[irreducible] def aCk(n w:Str)(e:Expr)(f:List Expr->Expr->Bool):Bool:=an 11 e λp=>aX n p.a (l1 p.kw λy=>match y with|⟨a,z,_⟩=>Wt (a=J w)&&f p.xs z)
@[elab_as_elim] theorem Ztg(h:aCk n w e f=Wr)(k:∀p ys z r q,f ys z=Wr->P (.Call (.Name n p) ys [⟨J w,z,r⟩] q)):P e:=by
 unfold aCk at h;exact Zav h λp h=>Zm5 (P:=λa=>P (.Call a p.xs p.kw p.p)) h λq h=>Za0 (P:=λw=>P (.Call (.Name n q) p.xs w p.p)) h λy h=>match y,h with
  |⟨_,z,r⟩,h=>dS (P:=λs=>P (.Call (.Name n q) p.xs [⟨s,z,r⟩] p.p)) (bL h) (k _ _ _ _ _ (bR h))
@[irreducible] def aA(n:Str)(e:Expr)(f:Expr->Pos->Bool):Bool:=an 12 e λp=>Wt (p.s=n)&&f p.a p.p
@[elab_as_elim] theorem Zrz(h:aA n e f=Wr)(k:∀x q,f x q=Wr->P (.Attribute x n q)):P e:=by unfold aA at h;exact Zav h λp h=>dS (P:=λs=>P (.Attribute p.a s p.p)) (bL h) (k _ _ (bR h))
@[irreducible] def aCA(n:Str)(e:Expr)(f:Expr->Pos->List Expr->Pos->Bool):Bool:=an 11 e λp=>aA n p.a λx ap=>l0 p.kw (f x ap p.xs p.p)
@[elab_as_elim] theorem Zkh(h:aCA n e f=Wr)(k:∀x ap ys cp,f x ap ys cp=Wr->P (.Call (.Attribute x n ap) ys [] cp)):P e:=by unfold aCA at h;exact Zav h λp h=>Zrz (P:=λa=>P (.Call a p.xs p.kw p.p)) h λx q h=>ZjS (P:=λw=>P (.Call (.Attribute x n q) p.xs w p.p)) h λh=>k _ _ _ _ h
@[irreducible] def aLC(e:Expr)(f:Expr->Expr->Expr->List Expr->Scope->Bool):Bool:=an 13 e λp=>l1 p.gs λg=>match g with|⟨t,i,c,n⟩=>Wt (n=0)&&f p.a t i c p.sc
@[elab_as_elim] theorem Zpn(h:aLC e f=Wr)(k:∀x t i c sc q,f x t i c sc=Wr->P (.ListComp x [⟨t,i,c,0⟩] sc q)):P e:=by
 unfold aLC at h;exact Zav h λp h=>Za0 (P:=λg=>P (.ListComp p.a g p.sc p.p)) h λg h=>match g,h with
  |⟨t,i,c,_⟩,h=>dS (P:=λs=>P (.ListComp p.a [⟨t,i,c,s⟩] p.sc p.p)) (bL h) (k _ _ _ _ _ _ (bR h))
@[irreducible] def aD(e:Expr)(f:List (Option Expr)->List Expr->Bool):Bool:=an 14 e λp=>f p.ks p.xs
@[elab_as_elim] theorem Zuo(h:aD e f=Wr)(k:∀ks vs q,f ks vs=Wr->P (.Dict ks vs q)):P e:=by unfold aD at h;exact Zav h λ_ h=>k _ _ _ h
@[irreducible] def aK(e:Expr)(f:Const->Bool):Bool:=an 15 e λp=>f p.v
@[elab_as_elim] theorem Zuf(h:aK e f=Wr)(k:∀c j q,f c=Wr->P (.Constant c j q)):P e:=by unfold aK at h;exact Zav h λ_ h=>k _ _ _ h
end
noncomputable def Zur:D->Const->Bool
 |.int i,.int j=>Wt (i=j)
 |.str x,.str y=>Wt (x=y)&&Yo y
 |.bl b,.bool c=>Wt (b=c)
 |.non,.none=>Wr
 |_,_=>Ws
def Zti(Γ:Gm)(d:D)(e:Expr):Bool:=(aK e λc=>Zur d c)||match d with
 |.ty n=>aX (Str.ofString n) e (Wt (n∈Zjk)&&glb Γ (Str.ofString n))
 |_=>Ws
noncomputable def ZmM(NC N:List Str)(js:List (Option Nat))(sc scope:Scope):Bool:=
 Wt (scope.kind=.function)&&Wt (sc.kind=.function)&&(scope.names.all λy=>Wt (y.2≠.cell))&&(scope.names.all λy=>!Wt (y.2=.local)||Wt (scope.names.lookup y.1=J .local)) &&
  (scope.names.all λy=>!Wt (y.2=.free)||Wt (sc.names.lookup y.1=J .cell))&&decide NC.Nodup&&Wt (js.length=NC.length) &&
  ((NC.zip js).all λp=>p.2.all λj=>Wt (N[j]?=J p.1)&&Wt (scope.names.lookup p.1=J .free))
def Zh3(h:ZmM NC N js sc scope=Wr):CompSc NC N js sc scope:=by
 unfold ZmM at h;rw[Oa,Oa,Oa,Oa,Oa,Oa,Oa]at h;obtain⟨⟨⟨⟨⟨⟨⟨a,b⟩,c⟩,d⟩,e⟩,f⟩,g⟩,i⟩:=h;rw[OC]at c d e;refine⟨of_decide_eq_true a,of_decide_eq_true b,λy hy=>of_decide_eq_true (c y hy),λy hy e1=>?_,λy hy e1=>?_,of_decide_eq_true f,of_decide_eq_true g,i⟩
 . have:=d y hy;rw[decide_eq_true e1]at this;simpa using this
 . have:=e y hy;rw[decide_eq_true e1]at this;simpa using this
noncomputable def ZkW(N:List Str)(own:Str->Bool)(i:Nat)(e:Expr):Bool:=aN e λx=>Wt (N[i]?=J x)&&own x
def Zke(N:List Str)(own:Str->Bool):List Nat->List Expr->Bool
 |[],es=>es.isEmpty
 |i::is,es=>match es with
  |e::es=>ZkW N own i e&&Zke N own is es
  |[]=>Ws
def Zkg(N:List Str)(own:Str->Bool)(i j:Nat)(e:Expr):Bool:=aT e λes=>l2 es λa b=>ZkW N own i a&&ZkW N own j b
def Zkf(N:List Str)(own:Str->Bool)(is:List Nat)(e:Expr):Bool:=aT e λes=>Zke N own is es
def ZoN(N:List Str)(own:Str->Bool)(g:Tg)(e:Expr):Bool:=match g with
 |.nm i=>ZkW N own i e
 |.two i j=>Zkg N own i j e
 |.many is=>Zkf N own is e
@[elab_as_elim] theorem Zba{P:Expr->Prop}(h:ZkW N own i e=Wr)(k:∀x p,N[i]?=J x->own x=Wr->P (.Name x p)):P e:=ZsI h λ_ _ h=>k _ _ (of_decide_eq_true (bL h)) (bR h)
def isTup(e:Expr):Bool:=Wt (tgE e=8)
@[elab_as_elim] theorem Zmw{P:Expr->Prop}(h:isTup e=Wr)(k:∀xs j q,P (.Tuple xs j q)):P e:=Zhq (P:=P) (f:=λ_=>Wr) (by unfold aT an;rw[show Wt (tgE e=8)=Wr from h];rfl) λ_ _ _ _=>k _ _ _
noncomputable def tgk:Tg->Nat
 |.nm i=>i+1
 |.two i j=>max i j+1
 |.many is=>is.foldr max 0+1
noncomputable def Zsu(sc:Scope)(x:Str):Bool:=Wt (sc.names.lookup x=J .local)
noncomputable def ownD(sc:Scope)(x:Str):Bool:=Wt (sc.names.lookup x=J .local)||Wt (sc.names.lookup x=J .cell)
def ZcU(e:Expr):Bool:=Wt (tgE e≠18)
def Ze1(e:Expr):Bool:=Wt (tgE e≠5)
def Zal(e:Expr):Bool:=Wt (tgE e≠0)
def ZaB(e:Expr):Bool:=!(Wt (tgE e=11)&&(prt e).xs.isEmpty)
def ZiE(e:Expr):Bool:=Wt (6<=tgE e)&&Wt (tgE e<=16)
mutual
def chk(Γ:Gm):Ex->Expr->Bool
 |.var i,e=>aN e λx=>Wt (Γ.N[i]?=J x)&&(Znc Γ.sc x&&(!(x==("__debug__" : Str))&&!(x==("__classdict__" : Str))))
 |.cst d,e=>Zti Γ d e
 |.glo x,e=>aX x e (glb Γ x)
 |.bin op a b,e=>aB2 op e λl r=>chk Γ a l&&chk Γ b r
 |.cmp op a b,e=>aC1 op e λl r=>chk Γ a l&&(chk Γ b r&&ZcU r)
 |.cmp2 _ _ _ _ _,_=>Ws
 |.neg a,e=>aU .USub e λx=>chk Γ a x
 |.nt a,e=>aU .Not e λx=>chk Γ a x
 |.ands es,e=>aO .And e λxs=>chks Γ es xs
 |.ors es,e=>aO .Or e λxs=>chks Γ es xs
 |.ite c a b,e=>aI e λt x y=>chkt Γ c t&&(chk Γ a x&&chk Γ b y)
 |.tupl es,e=>aT e λxs=>chks Γ es xs
 |.lstl es,e=>aLs e λxs=>chks Γ es xs
 |.ix a i,e=>aS e λx y=>chk Γ a x&&(chk Γ i y&&Ze1 y)
 |.sl a lo hi,e=>aSl e λx l u=>chk Γ a x&&(chko Γ lo l&&chko Γ hi u)
 |.blt f es,e=>aCN (Zkk f) e λys=>(bok f&&glb Γ (Zkk f))&&(chks Γ es ys&&!ys.isEmpty)
 |.call f es,e=>aCN f e λys=>Wt (f∈Γ.fs)&&(glb Γ f&&(chks Γ es ys&&!ys.isEmpty))
 |.meth m o es,e=>aCA (Zmg m) e λx ap ys cp=>chk Γ o x&&(ZaB x&&(chks Γ es ys&&(Wt (ys.length<29)&&(ap.endLine==cp.line))))
 |.trev e,x=>aCN "tuple" x λys=>l1 ys λz=>aCN "reversed" z λys=>l1 ys λy=>glb Γ "tuple" && (glb Γ "reversed" && (chk Γ e y&&Zal y))
 |.lrv _,_=>Ws
 |.tix o e,x=>aCA "index" x λx ap ys cp=>l1 ys λy=>chk Γ o x&&(ZaB x&&(chk Γ e y&&(Zal y&&(ap.endLine==cp.line))))
 |.lix o e,x=>aCA "index" x λx ap ys cp=>l1 ys λy=>chk Γ o x&&(ZaB x&&(chk Γ e y&&(Zal y&&(ap.endLine==cp.line))))
 |.lin _ _,_=>Ws
 |.rpn _ _,_=>Ws
 |.comp NC js it g c e,x=>aLC x λaG tg iter aY scope=>Γ.top&&(ZmM NC Γ.N js Γ.sc scope&&(chki Γ it tg iter&&(ZcU iter&&(ZoN NC (Zsu scope) g tg&&(((List.range (tgk g)).all λj=>Wt (js[j]?=J M)) &&
  (chkf ⟨NC,scope,Γ.fs,Ws,Γ.kl⟩ c aY&&chk ⟨NC,scope,Γ.fs,Ws,Γ.kl⟩ e aG))))))
 |.sorts _,_=>Ws
 |.maxd a d,e=>aCk "max" "default" e λys z=>l1 ys λy=>glb Γ "max" && (chk Γ a y&&(Zal y&&chk Γ d z))
 |.dictl ps,e=>aD e λkeys values=>Wt (keys.length<=15)&&chkp Γ ps keys values
 |.att Cs o f,e=>aA f e λx _=>chk Γ o x&&(ZaB x&&((Cs.all λC=>Wt (C∈Γ.kl.cs))&&Wt (f∈Γ.kl.ats)))
 |.mk C es,e=>aCN C e λys=>Wt (C∈Γ.kl.is)&&(glb Γ C&&chks Γ es ys)
 |.mcl C m o es,e=>aCA m e λx ap ys cp=>chk Γ o x&&(ZaB x&&(chks Γ es ys&&(Wt ((C,m)∈Γ.kl.ms)&&(Wt (ys.length<29)&&(ap.endLine==cp.line)))))
 |.any,_=>Wr
def chks(Γ:Gm):Exs->List Expr->Bool
 |.nil,es=>es.isEmpty
 |.cons e r,es=>match es with
  |x::xs=>chk Γ e x&&(Zal x&&chks Γ r xs)
  |[]=>Ws
def chkp(Γ:Gm):Exs->List (Option Expr)->List Expr->Bool
 |.nil,ks,vs=>ks.isEmpty&&vs.isEmpty
 |.cons k r,ks,vs=>match r with
  |.cons v r'=>match ks,vs with
   |some kx::ks,vx::vs=>chk Γ k kx&&(chk Γ v vx&&chkp Γ r' ks vs)
   |_,_=>Ws
  |.nil=>Ws
def chko(Γ:Gm):Option Ex->Option Expr->Bool
 |none,x=>x.isNone
 |some a,x=>match x with
  |some x=>chk Γ a x
  |none=>Ws
def chkf(Γ:Gm):Option Tx->List Expr->Bool
 |none,x=>x.isEmpty
 |some a,x=>l1 x λx=>chkt Γ a x
def Zuq(Γ:Gm):Ex->Expr->Bool
 |.cmp op a b,e=>aC1 op e λl r=>chk Γ a l&&(chk Γ b r&&ZcU r)
 |_,_=>Ws
def chkt(Γ:Gm):Tx->Expr->Bool
 |.ex e,x=>(ZiE x&&chk Γ e x)||Zuq Γ e x
 |.ands ts,x=>aO .And x λxs=>chkts Γ ts xs
 |.ors ts,x=>aO .Or x λxs=>chkts Γ ts xs
 |.nt t,x=>aU .Not x λy=>chkt Γ t y
def chkts(Γ:Gm):Txs->List Expr->Bool
 |.one t,xs=>l1 xs λx=>chkt Γ t x
 |.cons t ts,xs=>match xs with
  |x::r=>chkt Γ t x&&(!r.isEmpty&&chkts Γ ts r)
  |_=>Ws
def chki(Γ:Gm):Ix->Expr->Expr->Bool
 |.pl e,_,x=>chk Γ e x
 |.rng e,_,x=>aCN "range" x λys=>l1 ys λy=>glb Γ "range" && (chk Γ e y&&Zal y)
 |.rng2 _ _,_,_=>Ws
 |.enu e,tg,x=>aCN "enumerate" x λys=>l1 ys λy=>glb Γ "enumerate" && (chk Γ e y&&(Zal y&&isTup tg))
 |.rev e,_,x=>aCN "reversed" x λys=>l1 ys λy=>glb Γ "reversed" && (chk Γ e y&&Zal y)
 |.en1 _,_,_=>Ws
 |.zp a b,tg,x=>aCN "zip" x λys=>l2 ys λy z=>glb Γ "zip" && (chk Γ a y&&(chk Γ b z&&(Zal y&&(Zal z&&isTup tg))))
 |.en0 _,_,_=>Ws
 |.dk _,_,_=>Ws
end
def leS(a b:Str):Prop:=¬ b.cps.toList<a.cps.toList
def Zge(h:leS a b)(q:leS b c):leS a c:=by unfold leS at *;rw[List.not_lt]at *;exact List.le_trans h q
def Zmo(h:leS a b)(q:leS b a):a=b:=by unfold leS at *;rw[List.not_lt]at *;have e:=List.le_antisymm h q;obtain⟨⟨a⟩⟩:=a;obtain⟨⟨b⟩⟩:=b;simp at e;subst e;rfl
def Zhr:∀{ss:List Str},sortedS ss=Wr->ss.Pairwise leS:=by
 have gen:∀(r:List Str) (p:Str),risingS p r=Wr->(∀x∈r,leS p x)/\r.Pairwise leS:=by
  intro r;induction r with
  |nil=>intro p _;exact⟨by simp,.nil⟩
  |cons x r ih=>
   intro p h;rw[risingS,Oa]at h;obtain⟨R,h2⟩:=ih x h.2;have hx:leS p x:=by have:=h.1;rw[ltCps_eq]at this;unfold leS;simpa using this
   refine⟨λy hy=>?_,.cons R h2⟩;rcases O2.mp hy with rfl|hy
   . exact hx
   . exact Zge hx (R y hy)
 intro ss h;cases ss with
 |nil=>exact .nil
 |cons x r=>obtain⟨R,h2⟩:=gen r x h;exact .cons R h2
theorem ZeV(x:Str):∀r:List Str,(ZkJ x r).Perm (x::r)
 |[]=>.refl _
 |y::r=>by
  unfold ZkJ;split
  . exact((ZeV x r).cons y).trans (.swap x y r)
  . exact .refl _
theorem Zcs:∀r:List Str,(Zbq r).Perm r
 |[]=>.refl _
 |x::r=>(ZeV x _).trans ((Zcs r).cons x)
theorem Zhy(x:Str):∀r:List Str,r.Pairwise leS->(ZkJ x r).Pairwise leS
 |[],_=>.cons (by simp) .nil
 |y::r,h=>by
  cases h with
  |cons R h2=>
   unfold ZkJ;split
   . rename_i av;rw[ltCps_eq]at av;have av:=of_decide_eq_true av;refine .cons (λz hz=>?_) (Zhy x r h2);rcases O2.mp ((ZeV x r).mem_iff.mp hz)with rfl|hz
     . unfold leS;rw[List.not_lt];exact List.le_of_lt av
     . exact R z hz
   . rename_i av;have eZ:leS x y:=by unfold leS;rw[ltCps_eq]at av;simpa using av
     refine .cons (λz hz=>?_) (.cons R h2);rcases O2.mp hz with rfl|hz
     . exact eZ
     . exact Zge eZ (R z hz)
theorem Zf5:∀r:List Str,(Zbq r).Pairwise leS
 |[]=>.nil
 |x::r=>Zhy x _ (Zf5 r)
def ZkD(hp:a9.Perm ss)(hs:sortedS a9=Wr):a9=Zbq ss:=(hp.trans (Zcs ss).symm).eq_of_pairwise (λ_ _ _ _ h q=>Zmo h q) (Zhr hs) (Zf5 ss)
section
variable {X:Cx}{Y:Yx}{E:XK}{T:Tb}{H:Hp}{B:List Yi}{h:Hd}
theorem ZdZ:∀{ds:List (Key×D)}{vs:List (Key×V)}{ss:List Str},RKs Y H B ds vs->Zcv ds=J ss->vs.map (·.1)=ss.map YC
 |_,_,_,.nil,e=>by cases e;rfl
 |_,_,_,.cons (k:=k) a s,e=>by
  cases k with
  |inl i=>cases e
  |inr x=>rw[Zcv]at e;obtain⟨z,e1,rfl⟩:=Oo.mp e;rw[Op,Op,ZdZ s e1]
theorem Zd0:∀{ds:List (Key×D)}{vs:List (Key×V)}{ns:List Int},RKs Y H B ds vs->Zcx ds=J ns->vs.map (·.1)=ns.map YD
 |_,_,_,.nil,e=>by cases e;rfl
 |_,_,_,.cons (k:=k) a s,e=>by
  cases k with
  |inr i=>cases e
  |inl x=>rw[Zcx]at e;obtain⟨z,e1,rfl⟩:=Oo.mp e;rw[Op,Op,Zd0 s e1]
theorem ZdE(x:Int):∀r:List Int,(ZkI x r).Perm (x::r)
 |[]=>.refl _
 |y::r=>by
  unfold ZkI;split
  . exact((ZdE x r).cons y).trans (.swap x y r)
  . exact .refl _
theorem ZeP:∀r:List Int,(Zf6 r).Perm r
 |[]=>.refl _
 |x::r=>(ZdE x _).trans ((ZeP r).cons x)
theorem Zf7(x:Int):∀r:List Int,r.Pairwise (·<=·)->(ZkI x r).Pairwise (·<=·)
 |[],_=>.cons (by simp) .nil
 |y::r,h=>by
  cases h with
  |cons R h2=>
   unfold ZkI;split
   . refine .cons (λz hz=>?_) (Zf7 x r h2);rcases O2.mp ((ZdE x r).mem_iff.mp hz)with rfl|hz
     . lia
     . exact R z hz
   . refine .cons (λz hz=>?_) (.cons R h2);rcases O2.mp hz with rfl|hz
     . lia
     . have:=R z hz;lia
theorem ZeQ:∀r:List Int,(Zf6 r).Pairwise (·<=·)
 |[]=>.nil
 |x::r=>Zf7 x _ (ZeQ r)
def ZeO{bp ns:List Int}(hp:bp.Perm ns)(hs:bp.Pairwise (·<=·)):bp=Zf6 ns:=(hp.trans (ZeP ns).symm).eq_of_pairwise (λ_ _ _ _ h q=>Int.le_antisymm h q) hs (ZeQ ns)
theorem Zpc:∀ns:List Int,RDs Y H B (ns.map D.int) (ns.map V.int)
 |[]=>.nil
 |n::r=>.cons (.int n) (Zpc r)
def ZoS(hc:X.A.handled=M)(G:Gk X Y T):Zag X (.builtin "sorted") (rF Y E (Zo3 T.GD)):=by
 intro aa s Z H xs us Q I r hh;obtain⟨ds,h,B,rh,rs,f⟩:=hh;unfold Zo3 at f;split at f
 . split at f
   . rename_i ns e2;obtain⟨hz,f⟩:=f.iff;obtain⟨kvs,e3,e4⟩:=Option.bind_eq_some_iff.mp e2;obtain⟨x,rfl,r1⟩:=rs.one;obtain⟨a,ai,rfl,hd,rk⟩:=r1.dicOf G rh e3;refine Zg3 hc aa s Z H _ us Q I r ⟨a,ai,ns,rfl,hd,Zd0 rk e4,hz,λp bp hp R h2=>?_⟩;rw[ZeO R h2];exact f.new rh hp ⟨_,Zi,Zpc _⟩
   . exact f.elim
 . exact f.elim
def ZoU(G:Gk X Y T):Zag X (.builtin "len") (rF Y E (Zo5 T.GD)):=by
 intro aa s Z H xs us Q I r hh;obtain⟨ds,h,B,rh,rs,f⟩:=hh;unfold Zo5 at f;split at f
 . obtain⟨d,e,f⟩:=f.ofO;obtain⟨kvs,e3,rfl⟩:=Oo.mp e;obtain⟨x,rfl,r1⟩:=rs.one;obtain⟨a,ai,rfl,hd,rk⟩:=r1.dicOf G rh e3;obtain⟨u,rfl,ru⟩:=vals1 r;cases ru;obtain⟨z,hm,vs,am,dd⟩:=I.dk hd;have hl:ai.length=kvs.length:=by simpa using congrArg List.length rk.keys.symm
   refine call_len_dict hm dd (by rw[<-am.length];rw[YA]at z;lia) ?_;rw[<-am.length,hl];exact⟨.int kvs.length,H,I.tok _,⟨_,rfl⟩,f.ok rh (.int _)⟩
 . exact f.elim
theorem Zjp:∀(ss:List Str),(∀x∈ss,Yo x=Wr)->RDs Y H B (ss.map D.str) (ss.map V.str)
 |[],_=>.nil
 |x::r,h=>.cons (.str x (h x (by simp))) (Zjp r λy hy=>h y (by simp[hy]))
def ZoR(hc:X.A.handled=M)(G:Gk X Y T):Zag X (.builtin "sorted") (rF Y E (Zdx T.GD)):=by
 intro aa s Z H xs us Q I r hh;obtain⟨ds,h,B,rh,rs,f⟩:=hh;unfold Zdx at f;split at f
 . split at f
   . rename_i ss e2;obtain⟨hz,f⟩:=f.iff;obtain⟨kvs,e3,e4⟩:=Option.bind_eq_some_iff.mp e2;obtain⟨x,rfl,r1⟩:=rs.one;obtain⟨a,ai,rfl,hd,rk⟩:=r1.dicOf G rh e3;obtain⟨hz,hok⟩:=hz;refine Zg4 hc aa s Z H _ us Q I r ⟨a,ai,ss,rfl,hd,ZdZ rk e4,hz,λp a9 hp R h2=>?_⟩;rw[ZkD R h2];refine f.new rh hp ⟨_,Zi,Zjp _ λy hy=>?_⟩;rw[OC]at hok;exact hok y ((Zcs ss).mem_iff.mp hy)
   . exact f.elim
 . exact f.elim
end
set_option tactic.hygienic false
def RS(Y:Yx)(H:Hp)(B:List Yi)(S:Ev)(Z:L2.St):Prop:=Z.length=S.length/\∀(i:Nat) (d:D),S[i]?=J (J d)->∃v,Z[i]?=J (J v)/\RD Y H B d v
section
variable {Y:Yx}{H H':Hp}{B μ':List Yi}{h:Hd}{S:Ev}{Z:L2.St}
theorem RS.mono(rh:RH Y H B h)(g:Gr H B H' μ')(r:RS Y H B S Z):RS Y H' μ' S Z:=⟨r.1,λi d e=>let⟨v,R,h2⟩:=r.2 i d e;⟨v,R,h2.mono rh g⟩⟩
def RS.var(r:RS Y H B S Z){i:Nat}{d:D}(e:(S[i]?).join=J d):∃v,Z[i]?=J (J v)/\RD Y H B d v:=by
 refine r.2 i d ?_;cases q:S[i]? with
 |none=>rw[q]at e;cases e
 |some o=>rw[q]at e;cases o with
  |none=>cases e
  |some d'=>cases e;rfl
theorem RS.set(r:RS Y H B S Z){i:Nat}{d:D}{v:V}(q:RD Y H B d v):RS Y H B (S.set i (J d)) (Z.set i (J v)):=by
 refine⟨by simp[r.1],λj e he=>?_⟩;by_cases hj:i=j
 . subst hj;have hl:i<S.length:=by have:=(Ob.mp he).1;simpa using this
   rw[Ol hl]at he;cases he;exact⟨v,by rw[Ol (by rw[r.1];exact hl)],q⟩
 . rw[Oc hj]at he;obtain⟨w,R,h2⟩:=r.2 j e he;exact⟨w,by rw[Oc hj];exact R,h2⟩
theorem RS.capt(r:RS Y H B S Z)(js:List (Option Nat)):RS Y H B (Zbx js S) (capt js Z):=by
 refine⟨by simp[Zbx,L2.capt],λi d e=>?_⟩;unfold Zbx at e;unfold L2.capt;rw[On]at e ⊢;cases q:js[i]? with
 |none=>rw[q]at e;cases e
 |some o=>
  rw[q]at e;cases o with
  |none=>cases e
  |some j=>
   have e':(S[j]?).join=J d:=by simpa using e
   obtain⟨v,R,h2⟩:=r.var e';exact⟨v,by simp[R],h2⟩
end
inductive Sm(Y:Yx)(E:XK){α β:Type}(am:Hp->List Yi->α->β->Prop)(m:Ev->Hd->kz α)(Z:L2.St)(H:Hp)(Q:β->Hp->Prop):Prop
 |mk (S:Ev) (h:Hd) (B:List Yi) (rh:RH Y H B h) (rs:RS Y H B S Z) (f:Fin Y am H B (m S h) Q E):Sm Y E am m Z H Q
def eqR{α:Type}:Hp->List Yi->α->α->Prop:=λ_ _ a b=>a=b
theorem Sm.bind{α β γ δ:Type}{Q:β->Hp->Prop}{am:Hp->List Yi->γ->δ->Prop}{aW:Hp->List Yi->α->β->Prop}{m:Ev->Hd->kz γ}{k:Ev->γ->Hd->kz α}(s:Sm Y E aW (λS h=>(m S h).bind (k S)) Z H Q)
 {Q1:δ->Hp->Prop}
 (hk:∀S d R v H1 μ1,RH Y H1 μ1 R->RS Y H1 μ1 S Z->am H1 μ1 d v->Fin Y aW H1 μ1 (k S d R) Q E->Q1 v H1):Sm Y E am m Z H Q1:=by
 cases s with
 |mk S h B rh rs f=>exact⟨S,h,B,rh,rs,f.bind λd R x H1 μ1 _ g ah rd f1=>hk S d R x H1 μ1 ah (rs.mono rh g) rd f1⟩
section
variable (T:Tb)(Y:Yx)(E:XK)
def Zat(e:Ex):TE:=Sm Y E (RD Y) (ev T e)
def ZlF(e:Exs):TA:=Sm Y E (RDs Y) (evs T e)
def ZkF(e:Tx):TT:=Sm Y E eqR (tst T e)
def ZtS(e:Option Ex):TO:=Sm Y E eqR (evo T e)
def ZtT(e:Ix):TI:=Sm Y E (WJ Y) (evi T e)
noncomputable def Zed(f:Str):Sp:=λvs H Q E=>∃ds h B,RH Y H B h/\RDs Y H B ds vs/\Fin Y (RD Y) H B (T.C f ds h) Q E
end
structure Gd(T:Tb)(Γ:Gm)(X:Cx)(Y:Yx)(E:XK)(k:Nat):Prop where
 gk:Gk X Y T
 N:X.N=Γ.N
 sc:Γ.top=Wr->X.env.scope=Γ.sc
 vis:∀x,Znc Γ.sc x=Wr->Vis X.env.scope x
 glo:∀x,Γ.sc.names.lookup x=J .globalImplicit->Gl X x
 nd:X.N.Nodup
 calm:X.calm=Wr
 room:Room k X.A
 h60:60<=k
 pass:Za8 (CXF X.prog X.w) X E
 defs:∀f∈Γ.fs,∃ps,Def X.prog X.w X.K X.mg X.base k f ps (Zed T Y f)
 blt:∀x∈Zkl,X.mg x=M
 room1:Room (k+1) X.A
 cls:∀C∈Γ.kl.cs,∃a,X.mg C=J (.ref a)/\Cls X.K a/\∀f∈Γ.kl.ats,Za9 X.K a f
 mts:∀p∈Γ.kl.ms,∃a f fd ps,X.mg p.1=J (.ref a)/\Cls X.K a/\Meth X.K a p.2 f/\FnOk X.prog X.w X.K X.mg X.base (CXF X.prog X.w) k f fd ps (Zed T Y (mnm p.1 p.2))/\Binds X.K fd ps []
 mks:∀C∈Γ.kl.is,∃a f fd ps,X.mg C=J (.ref a)/\Mk X.K a f/\FnOk X.prog X.w X.K X.mg X.base (CXF X.prog X.w) k f fd ps (Zed T Y (mnm C (O "__init__")))/\Binds X.K fd ps []
def _root_.L2.PE.imp(h:PE X e t)(i:∀Z H Q,t' Z H Q->t Z H Q):PE X e t':=λaa s Z H Q I q=>h aa s Z H Q I (i Z H Q q)
def _root_.L2.PT.imp(h:PT X e t)(i:∀Z H Q,t' Z H Q->t Z H Q):PT X e t':=λaa s Z H Q I q=>h aa s Z H Q I (i Z H Q q)
def _root_.L2.PW.imp(h:PW X e t)(i:∀Z H Q,t' Z H Q->t Z H Q):PW X e t':=λw aa s Z H Q I q=>h w aa s Z H Q I (i Z H Q q)
def _root_.L2.PA.imp(h:PA X e t)(i:∀Z H Q,t' Z H Q->t Z H Q):PA X e t':=λp aa s Z H Q I q=>h p aa s Z H Q I (i Z H Q q)
def _root_.L2.PO.imp(h:PO X e t)(i:∀Z H Q,t' Z H Q->t Z H Q):PO X e t':=λaa s Z H Q I q=>h aa s Z H Q I (i Z H Q q)
def _root_.L2.PI.imp(h:PI X tg e t)(i:∀Z H Q,t' Z H Q->t Z H Q):PI X tg e t':=λaa s Z H Q I q=>h aa s Z H Q I (i Z H Q q)
structure Kd(x:Expr):Prop where
 star:tgE x≠0->∀xs env,Yy (x::xs) env=(Ws,eval x env)::Yy xs env
 set:tgE x≠18->∀env v,foldedSetIterable x env v=pure v
 mark:tgE x≠18->∀op,behindInMarks op x=Ws
 ix:tgE x≠5->Zhm x
 put:tgE x≠5->∀o pos env v,assign (.Subscript o x pos) env v=(do
  let ov <- holding [v] (eval o env);let iv <- holding [v,ov] (eval x env)
  standAt pos
  holding [v,ov,iv] (setItem ov iv v)
  release [v,ov,iv] [])
 tr:ZiE x=Wr->∀env aM,isTrue x env aM=(do let v <- aM;standAt x.pos;holding [v] (truthy v))
 sw:tgE x≠13->tgE x≠19->∀t n env,swapsWith x t n env=pure Ws
 st:tgE x≠8->∀es j q env,swappedStores [.Tuple es j q] x env=pure M
def kdE(x:Expr):Kd x:=by
 cases x<;>exact⟨by first|exact λ_ _ _=>rfl|exact λh=>absurd rfl h,by first|exact λ_ _ _=>rfl|exact λh=>absurd rfl h,by first|exact λ_ _=>rfl|exact λh=>absurd rfl h,by first|exact λ_ _ _=>rfl|exact λh=>absurd rfl h,
  by first|exact λ_ _ _ _ _=>rfl|exact λh=>absurd rfl h,
  by first|exact λ_ _ _=>rfl|exact λh=>ff h,by first|exact λ_ _ _ _ _=>rfl|exact λh=>absurd rfl h|exact λ_ h=>absurd rfl h,by first|exact λ_ _ _ _ _=>rfl|exact λh=>absurd rfl h⟩
def Zl(env:Env)(h:Zal x=Wr):Yy (x::xs) env=(Ws,eval x env)::Yy xs env:=(kdE x).star (of_decide_eq_true h) _ _
def Zix(env:Env)(h:ZcU x=Wr):∀v,foldedSetIterable x env v=pure v:=(kdE x).set (of_decide_eq_true h) _
def ZjN(h:ZcU x=Wr):behindInMarks op x=Ws:=(kdE x).mark (of_decide_eq_true h) _
def ZlB(h:Ze1 x=Wr):Zhm x:=(kdE x).ix (of_decide_eq_true h)
def ZcA(h:ZaB x=Wr):attributeBase x n env (eval x env)=eval x env:=by
 cases x with
 |Call f as ks p=>
  cases as with
  |nil=>cases h
  |cons a as=>cases f<;>rfl
 |_=>rfl
theorem Zc8(Γ:Gm)(env:Env):∀(es:Exs) (xs:List Expr),chks Γ es xs=Wr->∀pos,(YR pos (Yy xs env)).any (·.1)=Ws/\(YR pos (Yy xs env)).all (λx=>!x.1)=Wr
 |.nil,[],_,_=>⟨rfl,rfl⟩
 |.nil,_::_,h,_=>ff h
 |.cons _ _,[],h,_=>ff h
 |.cons _ r,x::xs,h,pos=>by rw[Zl env (bL (bR h))];exact Zc8 Γ env r xs (bR (bR h)) pos
def ZcP(env:Env)(h:chks Γ es (y::r)=Wr):Yy (y::r) env=(Ws,eval y env)::Yy r env/\∀pos,(YR pos (Yy r env)).any (·.1)=Ws:=by
 cases es with
 |nil=>exact ff h
 |cons e s=>exact⟨Zl env (bL (bR h)),λpos=>(Zc8 Γ env s r (bR (bR h)) pos).1⟩
@[elab_as_elim] theorem Zpx{P:List Expr->Prop}(h:chks Γ es ys=Wr)(R:(!ys.isEmpty)=Wr)(k:∀y r,chks Γ es (y::r)=Wr->P (y::r)):P ys:=by
 cases ys with
 |nil=>exact ff R
 |cons y r=>exact k y r h
def Gd.gl{T:Tb}{Γ:Gm}{X:Cx}{Y:Yx}{E:XK}{k:Nat}(G:Gd T Γ X Y E k){x:Str}(h:glb Γ x=Wr):Gl X x/\(x==("__debug__" : Str))=Ws:=by unfold glb at h;rw[Oa]at h;exact⟨G.glo x (of_decide_eq_true h.1),by simpa using h.2⟩
theorem Ze3{f:Str->NameKind->NameKind}(x:Str):∀names:List (Str×NameKind),(names.map λp=>(p.1,f p.1 p.2)).lookup x=(names.lookup x).map (f x)
 |[]=>rfl
 |(n,k)::r=>by
  rw[Op,OF,OF];by_cases e:x=n
  . subst e;simp
  . have:(x==n)=Ws:=by simpa using e
    simp only[this];exact Ze3 x r
def ZaX(scope:Scope)(env:Env)(x:Str):(relabel scope env).names.lookup x=(scope.names.lookup x).map λk=>if (k==Yn&&env.scope.kind==.function&&env.kindOf x==J .cell)then NameKind.cell else k:=by
 have e:(relabel scope env).names=scope.names.map λp=>(p.1,(λ(n:Str) (k:NameKind)=>if (k==Yn&&env.scope.kind==.function&&env.kindOf n==J .cell)then NameKind.cell else k) p.1 p.2):=by unfold relabel;simp only;refine List.map_congr_left λp _=>?_;obtain⟨n,k⟩:=p;simp only;split<;>rfl
 rw[e];exact Ze3 (f:=λ(n:Str) (k:NameKind)=>if (k==Yn&&env.scope.kind==.function&&env.kindOf n==J .cell)then NameKind.cell else k) x scope.names
def Gd.comp{T:Tb}{Γ:Gm}{X:Cx}{Y:Yx}{E:XK}{k:Nat}(G:Gd T Γ X Y E k)(NC:List Str)(scope:Scope)(C:Yi)(s3:Yb)(H3:Hp)(fp:List Yi)(nd:NC.Nodup):Gd T ⟨NC,scope,Γ.fs,Ws,Γ.kl⟩ (Zx X NC scope C s3 H3 fp) Y E0 k:=by
 refine⟨⟨G.gk.K,G.gk.mg,G.gk.gd,G.gk.g,G.gk.bare⟩,rfl,(λh=>by cases h),λx hx=>?_,λx hx=>?_,nd,rfl,G.room,G.h60,ZkQ,G.defs,G.blt,G.room1,G.cls,G.mts,G.mks⟩
 . show Vis (relabel scope X.env) x;unfold Vis;rw[ZaX];unfold Znc at hx;rw[Wo,Wo]at hx;rcases hx with (hx|hx)|hx
   . rw[of_decide_eq_true hx];exact .inl rfl
   . rw[of_decide_eq_true hx];exact .inr (.inl rfl)
   . rw[of_decide_eq_true hx];by_cases q:(X.env.scope.kind==.function&&X.env.kindOf x==J .cell)=Wr
     . refine .inr (.inl ?_);have:(Yn==Yn&&X.env.scope.kind==.function&&X.env.kindOf x==J .cell)=Wr:=by simpa using q
       simp only[Yt,this,if_true]
     . refine .inr (.inr ?_);have:¬ ((Yn==Yn&&X.env.scope.kind==.function&&X.env.kindOf x==J .cell)=Wr):=by simpa using q
       simp only[Yt,this,if_false];rfl
 . show(relabel scope X.env).names.lookup x=J .globalImplicit;rw[ZaX,hx];rfl
section
variable {T:Tb}{Y:Yx}{E:XK}{Z:L2.St}{H:Hp}{Q:VK}
def Znq{a b:Ex}{f:D->D->Hd->kz D}(s:Sm Y E (RD Y) (λS h=>(ev T a S h).bind λx R=>(ev T b S R).bind λy h2=>f x y h2) Z H Q):Zat T Y E a Z H λx H1=>Zat T Y E b Z H1 λy H2=>rB Y E f x y H2 Q:=s.bind λS d R x H1 μ1 ah al rd f1=>⟨S,R,μ1,ah,al,f1.bind λe h2 y H2 μ2 _ g2 ar re f2=>⟨d,e,h2,μ2,ar,rd.mono ah g2,re,f2⟩⟩
end
def Zrv{T:Tb}{Γ:Gm}{X:Cx}{Y:Yx}{E:XK}{k:Nat}(G:Gd T Γ X Y E k)(f:Bf)(hb:bok f=Wr){e:Expr}{es:List Expr}{t:TA}{p pos:Pos}(hg:Gl X (Zkk f))(ha:PA X (e::es) t)
 (he:Yy (e::es) X.env=(Ws,eval e X.env)::Yy es X.env) (aV:(YR pos (Yy es X.env)).any (·.1)=Ws):PE X (.Call (.Name (Zkk f) p) (e::es) [] pos) (tCB (rF Y E (ZaJ T.GD f)) t):=by
 have hY:=G.gk.K;cases f with
 |len=>exact ZaY (ZoV hY) hg (G.blt _ (by decide)) (by decide +kernel) ha (by decide) (by decide) he aV
 |isi=>exact ZaY (ZoW hY) hg (G.blt _ (by decide)) (by decide +kernel) ha (by decide) (by decide) he aV
 |int=>exact Zf8 ZoX hg (G.blt _ (by decide)) (by decide +kernel) ha (by decide) (by decide) he aV
 |tup=>cases hb
 |lst=>exact Zf8 (ZoT hY) hg (G.blt _ (by decide)) (by decide +kernel) ha (by decide) (by decide) he aV
 |sum=>exact ZaY (ZoQ G.room.hd hY) hg (G.blt _ (by decide)) (by decide +kernel) ha (by decide) (by decide) he aV
 |all=>exact ZaY (ZoY G.calm hY) hg (G.blt _ (by decide)) (by decide +kernel) ha (by decide) (by decide) he aV
 |mx=>cases hb
 |sri=>exact ZaY (ZoS G.room.hd G.gk) hg (G.blt _ (by decide)) (by decide +kernel) ha (by decide) (by decide) he aV
 |lnd=>exact ZaY (ZoU G.gk) hg (G.blt _ (by decide)) (by decide +kernel) ha (by decide) (by decide) he aV
 |srt=>exact ZaY (ZoR G.room.hd G.gk) hg (G.blt _ (by decide)) (by decide +kernel) ha (by decide) (by decide) he aV
set_option tactic.hygienic true
def Zfp{v:V}(rd:∀H B,RD Y H B d v)(p:PE X x (tC v)):PE X x (Zat T Y E (.cst d)):=PE.imp p λZ H Q s=>by
 cases s with
 |mk S h B rh rs f=>exact Fin.ok (r:=rd H B) (show Fin Y (RD Y) H B (.ok d h) Q E from f) rh
def ZmL(G:Gd T Γ X Y E k)(h:Zti Γ d x=Wr):PE X x (Zat T Y E (.cst d)):=by
 refine bO h (λh=>Zuf (P:=λx=>PE X x _) h λc j q h=>?_) λh=>?_
 . cases d with
   |int i=>cases c with
    |int j=>exact dS (P:=λi=>PE X _ (Zat T Y E (.cst (.int i)))) h (Zfp (λ_ _=>.int _) Zqs)
    |_=>exact ff h
   |str i=>cases c with
    |str j=>exact dS (P:=λi=>PE X _ (Zat T Y E (.cst (.str i)))) (bL h) (Zfp (λ_ _=>.str _ (bR h)) Zqn)
    |_=>exact ff h
   |bl i=>cases c with
    |bool j=>exact dS (P:=λi=>PE X _ (Zat T Y E (.cst (.bl i)))) h (Zfp (λ_ _=>.bl _) Zst)
    |_=>exact ff h
   |non=>cases c with
    |none=>exact Zfp (λ_ _=>.non) Zqp
    |_=>exact ff h
   |_=>exact ff h
 . cases d with
   |ty n=>
    refine Zm5 (P:=λx=>PE X x _) h λp h=>?_;obtain⟨g1,g2⟩:=G.gl (bR h);have all:(Zjk.all λn=>Wt (bootBuiltins (Str.ofString n)=J (.type n))&&(Wt (Str.ofString n ≠ "__name__")&&Wt (Str.ofString n∈Zkl)))=Wr:=by decide +kernel
    have a:=OC.mp all n (of_decide_eq_true (bL h));exact Zfp (λ_ _=>.ty _) (ZnW g1 (G.blt _ (of_decide_eq_true (bR (bR a)))) (of_decide_eq_true (bL a)) rfl (of_decide_eq_true (bL (bR a))) g2)
   |_=>exact ff h
def kz.bind_eq{α β:Type}{r:kz α}{k:α->Hd->kz β}{b:β}{h:Hd}(e:r.bind k=.ok b h):∃a R,r=.ok a R/\k a R=.ok b h:=by
 cases r with
 |bad=>cases e
 |ok a R=>exact⟨a,R,rfl,e⟩
 |exc c R=>cases e
def kz.bind_assoc{α β γ:Type}{r:kz α}{k:α->Hd->kz β}{l:β->Hd->kz γ}:(r.bind k).bind l=r.bind λa h=>(k a h).bind l:=by cases r<;>rfl
def ZqF(e:opC GD op x y h=.ok r h'):∃b,r=.bl b:=by
 have i2:∀{f:Int->Int->Bool},ZgG f x y h=.ok r h'->∃b,r=.bl b:=λe=>by
  unfold ZgG at e;split at e
  . cases e;exact⟨_,rfl⟩
  . cases e
 have eq:∀{n:Bool},Zbu n x y h=.ok r h'->∃b,r=.bl b:=λe=>by
  unfold IV.Zbu at e;split at e
  . split at e
    . cases e;exact⟨_,rfl⟩
    . cases e
  . cases e
 have inn:∀{n:Bool},ZbP GD n x y h=.ok r h'->∃b,r=.bl b:=λe=>by
  unfold ZbP at e;split at e
  . split at e
    . cases e;exact⟨_,rfl⟩
    . cases e
  . split at e
    . cases e;exact⟨_,rfl⟩
    . cases e
 have n1:∀{n:Bool},opN n x y h=.ok r h'->∃b,r=.bl b:=λe=>by
  unfold opN at e;split at e
  . cases e;exact⟨_,rfl⟩
  . cases e
 unfold opC at e;split at e
 . exact eq e
 . exact eq e
 . exact i2 e
 . exact i2 e
 . exact i2 e
 . exact i2 e
 . exact inn e
 . exact inn e
 . exact n1 e
 . exact n1 e
def ZsK(m:Mf):Slot "list" (Zmg m) (mid m)/\typeOf (.builtin (mid m))=pure (.type "method_descriptor"):=by
 cases m with
 |app=>exact⟨PySem.F.slot_list_append,PySem.F.type_list_append⟩
 |ext=>exact⟨PySem.F.slot_list_extend,PySem.F.type_list_extend⟩
 |pop=>exact⟨PySem.F.slot_list_pop,PySem.F.type_list_pop⟩
 |rev=>exact⟨PySem.F.slot_list_reverse,PySem.F.type_list_reverse⟩
 |clr=>exact⟨PySem.F.slot_list_clear,PySem.F.type_list_clear⟩
section
variable {Y:Yx}{α β α' β':Type}{am:Hp->List Yi->α->β->Prop}{aW:Hp->List Yi->α'->β'->Prop}{H0 H H1:Hp}{μ0 B μ1:List Yi}{E:XK}
def Fin.bindB(g0:Gr H0 μ0 H B)(f:Fin Y aW H0 μ0 (r.bind k) Q E)
 (hk:∀a R b H1 μ1,r=.ok a R->Gr H B H1 μ1->RH Y H1 μ1 R->am H1 μ1 a b->Fin Y aW H0 μ0 (k a R) Q E->Q1 b H1):Fin Y am H B r Q1 E:=by
 cases r with
 |bad=>exact f
 |ok a h=>exact λb H' μ' g' rh rl=>hk a h b H' μ' rfl g' rh rl f
 |exc c h=>exact λH' μ' C g'=>f H' μ' C (g0.trans g')
theorem Fin.plain(f:Fin Y aW H0 μ0 (r.plain.bind k) Q E)
 (hk:∀a R b H1 μ1,r=.ok a R->Gr H B H1 μ1->RH Y H1 μ1 R->am H1 μ1 a b->Fin Y aW H0 μ0 (k a R) Q E->Q1 b H1):Fin Y am H B r Q1 E0:=by
 cases r with
 |bad=>exact f
 |ok a h=>exact λb H' μ' g' rh rl=>hk a h b H' μ' rfl g' rh rl f
 |exc c h=>exact f.elim
end
def ZhV:List Nat->TGs
 |[]=>Zoy
 |i::is=>ZhW (ZbQ i) (ZhV is)
def tgR(K:Yk):Tg->TG
 |.nm i=>ZbQ i
 |.two i j=>Zox K 2 (ZhW (ZbQ i) (ZhW (ZbQ j) Zoy))
 |.many is=>Zox K is.length (ZhV is)
theorem Zhp:∀is:List Nat,is.foldr max 0<k->Zio k (ZhV is)
 |[],_=>Zjn
 |i::is,h=>by simp only[List.foldr_cons]at h;exact ZeK (by lia) (Zhp is (by lia))
def ZrW(K:Yk)(g:Tg):Zjg (tgk g) (tgR K g):=by
 cases g with
 |nm i=>exact Znj (OH i)
 |two i j=>exact Zlu (ZeK (show i<max i j+1 by lia) (ZeK (show j<max i j+1 by lia) Zjn))
 |many is=>exact Zlu (Zhp is (OH _))
theorem ZdP:∀(is:List Nat) (es:List Expr),Zke N own is es=Wr->(assignEach es env).length=is.length/\List.findIdx? (λx=>x.fst) (assignEach es env)=M
 |[],[],_=>⟨rfl,rfl⟩
 |i::is,e::es,h=>by
  obtain⟨a,b⟩:=ZdP (env:=env) is _ (bR h);refine Zba (P:=λe=>(assignEach (e::es) env).length=_/\List.findIdx? (λx=>x.fst) (assignEach (e::es) env)=M) (bL h) λx p _ _=>⟨congrArg (·+1) a,?_⟩
  simp only[assignEach,List.findIdx?_cons,b];rfl
 |[],_::_,h=>ff h
 |_::_,[],h=>ff h
theorem ZhC(hN:X.N=N)(nd:X.N.Nodup)(ho:∀x,own x=Wr->Loc X.env.scope x/\(X.fn x=Wr\/X.env.scope.names.lookup x=J .local)):∀(is:List Nat) (es:List Expr),Zke N own is es=Wr->PGs X es (ZhV is)
 |[],[],_=>ZjF
 |i::is,e::es,h=>Zba (P:=λe=>PGs X (e::es) _) (bL h) λx p e1 e2=>ZeY (ZjH nd (by rw[hN];exact e1) (ho _ e2).1 (ho _ e2).2) (ZhC hN nd ho is _ (bR h))
 |[],_::_,h=>ff h
 |_::_,[],h=>ff h
def ZjG(hN:X.N=N)(nd:X.N.Nodup)(hc:X.calm=Wr)(ho:∀x,own x=Wr->Loc X.env.scope x/\(X.fn x=Wr\/X.env.scope.names.lookup x=J .local))(h:ZoN N own g tg=Wr):PG X tg (tgR X.K g):=by
 have nm:∀{i x p},N[i]?=J x->own x=Wr->PG X (.Name x p) (ZbQ i):=λe1 e2=>ZjH nd (by rw[hN];exact e1) (ho _ e2).1 (ho _ e2).2;cases g with
 |nm i=>exact Zba (P:=λt=>PG X t _) h λx p e1 e2=>nm e1 e2
 |two i j=>exact Zhq (P:=λt=>PG X t _) (show Zkg N own i j tg=Wr from h) λxs k q h=>Zpq (P:=λxs=>PG X (.Tuple xs k q) _) h λa b h=>Zba (P:=λa=>PG X (.Tuple [a,b] k q) _) (bL h) λx p e1 e2=>Zba (P:=λb=>PG X (.Tuple [_,b] k q) _) (bR h) λy r e3 e4=>Zl0 hc (ZeY (nm e1 e2) (ZeY (nm e3 e4) ZjF))
 |many is=>exact Zhq (P:=λt=>PG X t _) (show Zkf N own is tg=Wr from h) λxs k q h=>Zl0 (hn:=(ZdP _ _ h).1) (hst:=(ZdP _ _ h).2) hc (ZhC hN nd ho _ _ h)
theorem ZjO:∀(is:List Nat) {ds:List D}{vs:List V}{S:Ev}{Z:L2.St},RDs Y H B ds vs->RS Y H B S Z->ds.length=is.length->(∀σ1,RS Y H B (Ziy is ds S) σ1->Q σ1 H)->ZhV is vs Z H Q
 |[],ds,vs,S,Z,r,rs,hl,q=>by
  cases r with
  |nil=>exact⟨rfl,q _ rs⟩
  |cons a s=>simp at hl
 |i::is,ds,vs,S,Z,r,rs,hl,q=>by
  cases r with
  |nil=>simp at hl
  |cons a s=>exact⟨_,_,rfl,ZjO is s (rs.set a) (by simpa using hl) q⟩
def Zhd{Y:Yx}{K:Yk}{Q:L2.St->Hp->Prop}(hY:Y.K=K)(r:RD Y H B d v)(rs:RS Y H B S Z)(e:Zbd g d S=J ρ1)(q:∀σ1,RS Y H B ρ1 σ1->Q σ1 H):tgR K g v Z H Q:=by
 cases g with
 |nm i=>cases e;exact q _ (rs.set r)
 |two i j=>
  unfold Zbd at e;simp only at e;split at e
  . cases e;obtain⟨a,vs,rfl,t,s⟩:=r.tup_inv;obtain⟨x,y,rfl,r1,r2⟩:=s.two;exact⟨a,_,rfl,hY▸t,rfl,x,_,rfl,y,_,rfl,rfl,q _ ((rs.set r1).set r2)⟩
  . cases e
 |many is=>
  unfold Zbd at e;simp only at e;split at e
  . split at e
    . rename_i hl;cases e;obtain⟨a,vs,rfl,t,s⟩:=r.tup_inv;exact⟨a,vs,rfl,hY▸t,by rw[<-s.length,hl],ZjO is s rs hl q⟩
    . cases e
  . cases e
section
variable {Y:Yx}{H:Hp}{B:List Yi}{h:Hd}{Dd:Yi}{ys zs:List V}
def Zlz{K:Yk}(hD:H Dd=J (.lst ys))(t:SqT K H a vs):SqT K (upd H Dd (.lst zs)) a vs:=by
 rcases t with t|t
 . rcases t with t|⟨o,t⟩
   . exact .inl (.inl (by rw[Zq (λz=>by rw[z,hD]at t;cases t)];exact t))
   . exact .inl (.inr ⟨o,by rw[Zq (λz=>by rw[z,hD]at t;cases t)];exact t⟩)
 . exact .inr t
def ZmB{K:Yk}(hD:H Dd=J (.lst ys))(t:FzL K H a vs):FzL K (upd H Dd (.lst zs)) a vs:=by
 rcases t with⟨o,t⟩|t
 . exact .inl ⟨o,by rw[Zq (λz=>by rw[z,hD]at t;cases t)];exact t⟩
 . exact .inr t
def Tr.swap(hD:H Dd=J (.lst ys)):Tr Y H B (upd H Dd (.lst zs)) B:=⟨Zlz hD,ZmB hD,id⟩
theorem RH.swap(hD:H Dd=J (.lst ys))(hn:Dd ∉ B)(r:RH Y H B h):RH Y (upd H Dd (.lst zs)) B h:=r.tr (.swap hD) λ_ ha=>Zq λz=>hn (z▸ha)
def Gr.out(g:Gr H B H' μ')(hD:H Dd=J o)(hn:Dd ∉ B):H' Dd=J o/\Dd ∉ μ':=⟨g.keep _ _ hn hD,λhm=>(g.new _ hm).elim hn λz=>by rw[hD]at z;cases z⟩
end
inductive CwS(Y:Yx)(H1:Hp)(μ1:List Yi)(xs:List D)(Dd:Yi)(F:List D->List D->Hd->Prop)(i m:Nat)(ys:List V)(H:Hp):Prop
 |mk (ag:List D) (h:Hd) (B:List Yi) (hi:i<=xs.length) (hm:m=xs.length-i) (g:Gr H1 μ1 H B) (rh:RH Y H B h) (ra:RDs Y H B ag ys) (nd:Dd ∉ B) (f:F (xs.drop i) ag h):CwS Y H1 μ1 xs Dd F i m ys H
def Zka{T:Tb}{Y:Yx}{E:XK}{K:Yk}(hY:Y.K=K){js:List (Option Nat)}{g:Tg}{c:Option Tx}{e:Ex}{tc:TT}{ku:It}{w:Wk}{H1:Hp}{μ1:List Yi}{R:Hd}{S:Ev}{Z:L2.St}{Q:VK}{Dd:Yi}
 (jd:∀Z H Q,Sm Y E0 eqR (tsto T c) Z H Q->tc Z H Q)
 (rh:RH Y H1 μ1 R) (rs:RS Y H1 μ1 S Z) (wj:WJ Y H1 μ1 w ku) (f:Fin Y (RD Y) H1 μ1 ((Zz w.src g (tsto T c) (ev T e) w.xs (Zbx js S) [] R).bind λxs h2=>ZaS (.lst xs) h2) Q E) (hD:H1 Dd=M) :
 ∃W:Nat->Nat->List V->Hp->Prop,(∃m,W 0 m [] (upd H1 Dd (.lst []))) /\
  ∀i m ys H,W i m ys H->H Dd=J (.lst ys)->(ku.stop i H/\Q (.ref Dd) H) \/
   (ku.go i H/\ys.length<sizeLine/\∀x H',ku.yld i H x H'->tgR K g x (capt js Z) H' λσ2 H2=>tc σ2 H2 λb H3=>
    if b=Wr then Zat T Y E0 e σ2 H3 λy H4=>H4 Dd=J (.lst ys)/\∃m',m'<m/\W (i+1) m' (ys++[y]) (upd H4 Dd (.lst (ys++[y])))
    else H3 Dd=J (.lst ys)/\∃m',m'<m/\W (i+1) m' ys H3):=by
 have n1:=rh.fr hD;refine⟨CwS Y H1 μ1 w.xs Dd λxs ag h=>Fin Y (RD Y) H1 μ1 ((Zz w.src g (tsto T c) (ev T e) xs (Zbx js S) ag h).bind λxs h2=>ZaS (.lst xs) h2) Q E,⟨w.xs.length,[],R,μ1,Yv _,(Nat.sub_zero _).symm,Gr.lay0 hD,rh.lay0 hD,.nil,n1,f⟩,?_⟩;rintro i m ys H ⟨ag,h,B,hi,rfl,g1,ah,ra,nD,f1⟩ hl;by_cases av:i<w.xs.length
 . obtain⟨d,hd⟩:∃d,w.xs[i]?=J d:=⟨_,Og av⟩
   have eu:w.xs.drop i=d::w.xs.drop (i+1):=by rw[List.drop_eq_getElem_cons av];have:=Og av;rw[hd]at this;rw[<-YE this]
   rw[eu,Zz]at f1;by_cases hs:Wk.stays w.src h=Wr/\ag.length<sizeLine
   . rw[if_pos hs]at f1;obtain⟨go,yl⟩:=(wj H B h g1 ah hs.1).1 i d hd;refine .inr ⟨go,by rw[<-ra.length];exact hs.2,λx H' hy=>?_⟩;obtain⟨g2,ar,rx⟩:=yl x H' hy;obtain⟨bm,iP⟩:=g2.out hl nD;have ib:=g1.trans g2;split at f1
     . exact f1.elim
     . rename_i ρ1 hb;refine Zhd hY rx ((rs.mono rh ib).capt js) hb λσ1 al=>jd σ1 H' _ ⟨ρ1,h,B,ar,al,?_⟩;rw[kz.bind_assoc]at f1;refine Fin.plain f1 λb h3 b' H3 μ3 _ g3 bb eb f3=>?_;subst eb;obtain⟨gU,gM⟩:=g3.out bm iP;have ia:=ib.trans g3;cases b with
       |true=>rw[if_pos rfl]at f3 ⊢;rw[kz.bind_assoc]at f3;refine⟨ρ1,h3,μ3,bb,al.mono ar g3,Fin.plain f3 λy h4 y' H4 μ4 _ g4 fJ ry f4=>?_⟩;obtain⟨f9,gL⟩:=g4.out gU gM;refine⟨f9,_,Nat.sub_lt_sub_left av (OH i),ag++[y],h4,μ4,av,rfl,(ia.trans g4).put hD,fJ.swap f9 gL,((((ra.mono ah g2).mono ar g3).mono bb g4).append (.cons ry .nil)).tr (.swap f9),gL,f4⟩
       |false=>rw[if_neg (by decide)]at f3 ⊢;exact⟨gU,_,Nat.sub_lt_sub_left av (OH i),ag,h3,μ3,av,rfl,ia,bb,(ra.mono ah g2).mono ar g3,gM,f3⟩
   . rw[if_neg hs]at f1;exact f1.elim
 . have he:i=w.xs.length:=by lia
   subst he;rw[List.drop_eq_nil_of_le (Oq _),Zz]at f1;by_cases hs:Wk.stays w.src h=Wr
   . rw[if_pos hs]at f1;refine .inl ⟨(wj H B h g1 ah hs).2,?_⟩;have f2:Fin Y (RD Y) H1 μ1 (.ok (.ref h.length) (h++[.lst ag])) Q E:=f1;exact f2.at (g1.add hD) (ah.add nD ⟨ys,hl,ra.tr .more⟩) (.ref (by rw[ah.len];simp))
   . rw[if_neg hs]at f1;exact f1.elim
section
variable {Y:Yx}{H:Hp}{B:List Yi}{h:Hd}
theorem RKs.look:∀{fs:List (Str×D)}{gs:List (Str×V)},RKs Y H B fs gs->(∀d,fs.lookup f=J d->∃v,gs.lookup f=J v/\RD Y H B d v)/\(fs.lookup f=M->gs.lookup f=M)
 |_,_,.nil=>⟨λd e=>by simp at e,λ_=>rfl⟩
 |_,_,.cons (k:=k) (d:=d0) (v:=v0) a s=>by
  by_cases e:f=k
  . subst e;exact⟨λd z=>by simp at z;subst z;exact⟨_,by simp,a⟩,λz=>by simp at z⟩
  . have b:(f==k)=Ws:=by simpa using e
    obtain⟨q1,q2⟩:=RKs.look (f:=f) s;refine⟨λd z=>?_,λz=>?_⟩
    . rw[OF,b]at z ⊢;exact q1 d z
    . rw[OF,b]at z ⊢;exact q2 z
theorem RKs.putAF(r:RD Y H B d v):∀{fs:List (Str×D)}{gs:List (Str×V)},RKs Y H B fs gs->RKs Y H B (ZkK f d fs) (ZbC f v gs)
 |_,_,.nil=>.cons r .nil
 |_,_,.cons (k:=k) a s=>by
  unfold ZkK ZbC;by_cases e:k=f
  . rw[if_pos e,if_pos e];exact .cons r s
  . rw[if_neg e,if_neg e];exact .cons a (RKs.putAF r s)
def ZiY(rh:RH Y H B h)(r:RD Y H B d v)(e:Za1 d h=J (C,fs)):∃i a Ca dx gs,d=.ref i/\v=.ref a/\B[i]?=J a/\h[i]?=J (.ins C fs)/\H a=J (.ins Ca dx gs)/\Y.mg C=J (.ref Ca)/\RKs Y H B fs gs:=by
 unfold Za1 at e;split at e
 . rename_i i;split at e
   . rename_i C' b7 hi;cases e;cases r with
     |ref q=>rename_i a;obtain⟨Ca,dx,gs,z,m,s⟩:=rh.ob i _ a hi q;exact⟨i,a,Ca,dx,gs,rfl,rfl,q,hi,z,m,s⟩
   . cases e
 . cases e
def Zoi(rh:RH Y H B h)(hx:H x=M)(hd:H dx=M)(ne:dx≠x)(m:Y.mg C=J (.ref Ca)):RH Y (upd (upd H dx (.own x)) x (.ins Ca dx [])) (B++[x]) (h++[.ins C []])/\Gr H B (upd (upd H dx (.own x)) x (.ins Ca dx [])) (B++[x]):=by
 have bq:upd H dx (.own x) x=M:=by rw[Zq (λz=>ne z.symm)];exact hx
 exact⟨(rh.lay0 hd).lay bq ⟨Ca,dx,[],Zi,m,.nil⟩,(Gr.lay0 hd).trans (Gr.lay bq)⟩
end
def ZkZ(aF:attributeBase o name env (eval o env)=eval o env)
 (bF:methodCallForm (args.length+([]:List Keyword).length) (YR pos (Yy args env)) (backToKw pos (YX [] env))=Wr) (aE:(apos.endLine==pos.line)=Wr) :
 eval (.Call (.Attribute o name apos) args [] pos) env=(do
  let ov <- eval o env
  standAt apos.atName
  let (f,first) <- holding [ov] (getMethod ov name (do return (<- importBound o env).getD Wr))
  callWith pos f first (YR pos (Yy args env)) (backToKw pos (YX [] env))):=by
 have cO:methodCallPos Wr o env apos pos=pure pos:=by unfold methodCallPos;simp[aE]
 rw[arm_eval_Call,aF];unfold methodCall;simp only[bF,cO];rfl
section
variable {T:Tb}{Γ:Gm}{X:Cx}{Y:Yx}{E:XK}{k:Nat}
def Zry(G:Gd T Γ X Y E k)(hc:(Cs.all λC=>Wt (C∈Γ.kl.cs))=Wr)(hf:f∈Γ.kl.ats)(rh:RH Y H B h)(rd:RD Y H B d x)(ff:Fin Y (RD Y) H B (Zi0 Cs f d h) Q E):
 ∃a C dx fs v,x=.ref a/\H a=J (.ins C dx fs)/\Cls X.K C/\Za9 X.K C f/\fs.lookup f=J v/\Q v H:=by
 unfold Zi0 at ff;split at ff
 . rename_i C fs e;obtain⟨hC,ff⟩:=ff.iff;obtain⟨i,a,Ca,dx,gs,rfl,rfl,q,hi,z,m,s⟩:=ZiY rh rd e;obtain⟨w,e1,ff⟩:=ff.ofO;obtain⟨v,l,rv⟩:=(s.look (f:=f)).1 w e1;rw[OC]at hc;obtain⟨j3,m',cl,na⟩:=G.cls C (of_decide_eq_true (hc C hC));rw[G.gk.mg,m']at m;cases m;exact⟨a,Ca,dx,gs,v,rfl,z,cl,na f hf,l,ff.ok rh rv⟩
 . exact ff.elim
def ZpX(G:Gd T Γ X Y E k)(hc:(Cs.all λC=>Wt (C∈Γ.kl.cs))=Wr)(hf:f∈Γ.kl.ats)(rh:RH Y H B h)(rd:RD Y H B d x)(re:RD Y H B e y)(ff:Fin Y (RD Y) H B (Zhs Cs f d e h) Q E):
 ∃a C dx fs,x=.ref a/\H a=J (.ins C dx fs)/\Cls X.K C/\Za9 X.K C f/\fs.length<1000/\Q .non (upd H a (.ins C dx (ZbC f y fs))):=by
 unfold Zhs at ff;split at ff
 . rename_i i;split at ff
   . rename_i C fs hi;obtain⟨⟨hC,hl⟩,ff⟩:=ff.iff;obtain⟨i',a,Ca,dx,gs,e1,rfl,q,cW,z,m,s⟩:=ZiY rh rd (show Za1 (.ref i) h=J (C,fs) by simp[Za1,hi]);cases e1;rw[OC]at hc;obtain⟨j3,m',cl,na⟩:=G.cls C (of_decide_eq_true (hc C hC));have m0:=m;rw[G.gk.mg,m']at m;cases m;refine⟨a,Ca,dx,gs,rfl,z,cl,na f hf,by rw[<-s.length];exact hl,ff.at (Gr.write (O1 q) (by rw[z];trivial)) (rh.write q ?_ (by rw[z];trivial)) .non⟩;exact⟨Ca,dx,_,Zi,m0,(RKs.putAF re s).mono rh (Gr.write (O1 q) (by rw[z];trivial))⟩
   . exact ff.elim
 . exact ff.elim
def ZsL(G:Gd T Γ X Y E k)(h2:C∈Γ.kl.is)(h3:glb Γ C=Wr)(h4:chks Γ es ys=Wr)(ha:PA X ys (ZlF T Y E es)):PE X (.Call (.Name C p) ys [] pos) (Zat T Y E (.mk C es)):=by
 obtain⟨a,f,fd,ps,m,ky,F,B_⟩:=G.mks _ h2;obtain⟨g1,g2⟩:=G.gl h3;have key:∀(ds:List D) (R:Hd) (xs:List V) (H1:Hp) (μ1:List Yi) (Q:VK),RH Y H1 μ1 R->RDs Y H1 μ1 ds xs->Fin Y (RD Y) H1 μ1 (ZhJ T.C C ds R) Q E->∀x dx,H1 x=M->H1 dx=M->dx≠x ->
  Zed T Y (mnm C (O "__init__")) (.ref x::(xs++[])) (upd (upd H1 dx (.own x)) x (.ins a dx [])) (λv H2=>v=.non/\Q (.ref x) H2) E:=by
  intro ds R xs H1 μ1 Q ah bS f1 x dx hx hd ne;obtain⟨ar,g2⟩:=Zoi (C:=C) (Ca:=a) ah hx hd ne (by rw[G.gk.mg];exact m);have px:(μ1++[x])[R.length]?=J x:=by rw[ah.len];simp
  refine⟨.ref R.length::ds,R++[.ins C []],μ1++[x],ar,.cons (.ref px) (by rw[Yr];exact bS.mono ah g2),?_⟩;refine Fin.bind (Fin.mono g2 f1) λd h3 v H3 μ3 _ g3 bb fK f3=>?_;cases d with
  |non=>cases fK;exact⟨rfl,f3.ok bb (.ref (g3.pre _ _ px))⟩
  |_=>exact f3.elim
 cases ys with
 |nil=>
  cases es with
  |nil=>
   exact(Zl4 ky F G.room1 g1 m B_ .nil G.pass g2).imp λZ H Q s=>by
    cases s with
    |mk S h B rh rs f=>exact key [] h [] H B Q rh .nil f
  |cons e r=>exact ff h4
 |cons y ys=>exact(ZnQ ky F G.room1 g1 m B_ .nil G.pass ha g2 (ZcP X.env h4).1 ((ZcP X.env h4).2 _)).imp λZ H Q s=>Sm.bind s λS ds R xs H1 μ1 ah _ bS f1=>key ds R xs H1 μ1 Q ah bS f1
def ZqL(G:Gd T Γ X Y E k)(h5:(C,n)∈Γ.kl.ms)(h3:ZaB xo=Wr)(h4:chks Γ es ys=Wr)(h6:ys.length<29)(h7:(ap.endLine==cp.line)=Wr)(ho:PE X xo (Zat T Y E o))(ha:PA X ys (ZlF T Y E es)):
 PE X (.Call (.Attribute xo n ap) ys [] cp) (Zat T Y E (.mcl C n o es)):=by
 obtain⟨a,f,fd,ps,mm,c,hm,F,B_⟩:=G.mts _ h5;have bF:methodCallForm (ys.length+([]:List Keyword).length) (YR cp (Yy ys X.env)) (backToKw cp (YX [] X.env))=Wr:=by
  unfold methodCallForm;rw[(Zc8 Γ X.env es ys h4 _).2];have gx:Wt (ys.length+([]:List Keyword).length+(if (backToKw cp (YX [] X.env)).isEmpty then 0 else 1)<30)=Wr:=by
   rw[decide_eq_true_eq];show ys.length+0+0<30
   lia
  rw[gx];rfl
 have ht:=ZkZ (o:=xo) (name:=n) (apos:=ap) (pos:=cp) (args:=ys) (env:=X.env) (ZcA h3) bF h7;have key:∀(d:D) (R:Hd) (x:V) (H1:Hp) (μ1:List Yi) (S:Ev) (Z:L2.St) (Q:VK),RH Y H1 μ1 R->RS Y H1 μ1 S Z->RD Y H1 μ1 d x->Fin Y (RD Y) H1 μ1 (match Za1 d R with
  |some (C',fs)=>if C'=C/\fs.lookup n=M then(evs T es S R).bind λxs h2=>T.C (mnm C n) (d::xs) h2 else .bad
  |none=>.bad) Q E->∃b dx fs,x=.ref b/\H1 b=J (.ins a dx fs)/\fs.lookup n=M/\ZlF T Y E es Z H1 λvs H2=>Zed T Y (mnm C n) (x::(vs++[])) H2 Q E:=by
  intro d R x H1 μ1 S Z Q ah al rd f1;split at f1
  . rename_i C' fs e;obtain⟨⟨e1,e2⟩,f1⟩:=f1.iff;subst e1;obtain⟨i,b,Ca,dx,gs,rfl,rfl,q,hi,z,m',s⟩:=ZiY ah rd e;rw[G.gk.mg,mm]at m';cases m';refine⟨b,dx,gs,rfl,z,(s.look (f:=n)).2 e2,S,R,μ1,ah,al,f1.bind λds h2 vs H2 μ2 _ g2 ar bS f2=>⟨_,h2,μ2,ar,.cons (rd.mono ah g2) (by rw[Yr];exact bS),f2⟩⟩
  . exact f1.elim
 cases ys with
 |nil=>
  cases es with
  |nil=>
   exact(Zl3 ho c hm F G.room B_ .nil G.pass ht).imp λZ H Q s=>Sm.bind s λS d R x H1 μ1 ah al rd f1=>by
    obtain⟨b,dx,fs,e1,e2,e3,s⟩:=key d R x H1 μ1 S Z Q ah al rd f1;cases s with
    |mk ρ' h' μ' rh' bn f'=>exact⟨b,dx,fs,e1,e2,e3,f'.ok rh' .nil⟩
  |cons e r=>exact ff h4
 |cons y ys=>exact(ZnO ho c hm F G.room B_ .nil G.pass ha (ZcP X.env h4).1 ((ZcP X.env h4).2 _) ht).imp λZ H Q s=>Sm.bind s λS d R x H1 μ1 ah al rd f1=>key d R x H1 μ1 S Z Q ah al rd f1
end
section
variable {X:Cx}{Y:Yx}{E:XK}{H:Hp}{B:List Yi}{h:Hd}
theorem ZgA:∀{xs:List D}{vs:List V}{ss:List Str},RDs Y H B xs vs->strsOf xs=J ss->vs=ss.map .str
 |[],vs,ss,r,e=>by cases r;cases e;rfl
 |d::ds,vs,ss,r,e=>by
  cases r with
  |cons r1 r2=>
   cases r1 with
   |str x ok=>rw[strsOf]at e;obtain⟨t,e1,rfl⟩:=Oo.mp e;rw[ZgA r2 e1];rfl
   |_=>cases e
def ZpQ(hY:Y.K=X.K)(ea:V.ref a=.ref b)(t:SqT Y.K H b vs)(s:RDs Y H B xs vs)(rh:RH Y H B h)(ry:RD Y H B y v)
 (f:Fin Y (RD Y) H B (Zlb (.tup xs) y h) Q E):ZiC X.K (.ref a) [v] H Q:=by
 cases ry with
 |str z ok=>
  unfold Zlb at f;simp only at f;split at f
  . rename_i ss e;obtain⟨d,e1,f⟩:=f.ofO;obtain⟨j,e2,rfl⟩:=Oo.mp e1;have ev:=ZgA s e;subst ev;exact⟨b,ss,z,j,ea,rfl,hY▸t,e2,f.ok rh (.int _)⟩
  . exact f.elim
 |_=>exact f.elim
def Zoo(hY:Y.K=X.K)(rh:RH Y H B h)(rd:RD Y H B d x)(il:ZcJ d h=Wr):∃a vs,x=.ref a/\SqL X.K H a vs:=by
 unfold ZcJ at il;split at il
 . split at il
   . rename_i i xs e;obtain⟨a,vs,rfl,hl,rv⟩:=rd.lstOf rh (xs:=xs) (by simp only[lstOf,e]);exact⟨a,vs,rfl,hY▸hl⟩
   . cases il
 . cases il
def ZqU(hY:Y.K=X.K)(rh:RH Y H B h)(rd:RD Y H B d x)(ry:RD Y H B y v)(f:Fin Y (RD Y) H B (ZmU d y h) Q E):ZgE X.K x [v] H Q:=by
 unfold ZmU at f;split at f
 . rename_i xs z e;obtain⟨a,vs,rfl,hl,rv⟩:=rd.lstOf rh e;cases ry;split at f
   . rename_i ss e3;obtain⟨d,e1,f⟩:=f.ofO;obtain⟨j,e2,rfl⟩:=Oo.mp e1;have ev:=ZgA rv e3;subst ev;exact⟨a,ss,z,j,rfl,rfl,hY▸hl,e2,f.ok rh (.int _)⟩
   . exact f.elim
 . exact f.elim
end
def ZjJ{q:Prop}(X:Cx)(hx:Zsu scope x=Wr):Loc (relabel scope X.env) x/\(q\/(relabel scope X.env).names.lookup x=J .local):=by
 have:(relabel scope X.env).names.lookup x=J .local:=by rw[ZaX,of_decide_eq_true hx];rfl
 exact⟨.inl this,.inr this⟩
def Zlg(e:Zf2 (.ref i) h=J w):∃xs,h[i]?=J (.lst xs)/\w=⟨J (i,xs),xs⟩:=by
 unfold Zf2 at e;simp only at e;split at e
 . cases e;exact⟨_,by assumption,rfl⟩
 . cases e
def ZrR{X:Cx}{R:Hd}(K:Y.K=X.K)(rh:RH Y H1 μ1 R)(r:RD Y H1 μ1 d v)(il:ZcJ d R=Wr):tyV X.K "list" v H1:=by
 cases r with
 |ref q=>
  rename_i i a;have:∃xs,R[i]?=J (.lst xs):=by
   unfold ZcJ at il;simp only at il;split at il
   . exact⟨_,by assumption⟩
   . cases il
  obtain⟨xs,hx⟩:=this;obtain⟨vs,hl,_⟩:=rh.ob i _ a hx q;exact .inl ⟨rfl,vs,.of hl⟩
 |_=>cases il
def Zof(G:Gd T Γ X Y E k)(ho:PE X xo (Zat T Y E o))(h3:ZaB xo=Wr)(h4:chks Γ es ys=Wr)(h5:ys.length<29)(h6:(ap.endLine==cp.line)=Wr)(ha:PA X ys (ZlF T Y E es)):
 PE X (.Call (.Attribute xo (Zmg m) ap) ys [] cp) (Zat T Y E (.meth m o es)):=by
 obtain⟨sl,ty⟩:=ZsK m;cases ys with
 |nil=>
  cases es with
  |nil=>exact(Zqv PySem.F.plainAttrs_list sl ty (ZjM (Y:=Y) (E:=E) G.gk.K m) ho (ZcA h3) h6).imp λZ H Q s=>Sm.bind s λS d R x H1 μ1 ah al rd f1=>⟨ZrR G.gk.K ah rd f1.iff.1,d,[],R,μ1,ah,rd,.nil,f1.iff.2⟩
  |cons e r=>exact ff h4
 |cons y ys=>
  refine(Zss PySem.F.plainAttrs_list sl ty (ZjM (Y:=Y) (E:=E) G.gk.K m) ho ha (ZcA h3) ?_ h6 (ZcP X.env h4).1 ((ZcP X.env h4).2 _)).imp λZ H Q s=>Sm.bind s λS d R x H1 μ1 ah al rd f1=>⟨ZrR G.gk.K ah rd f1.iff.1,S,R,μ1,ah,al,f1.iff.2.bind λds h2 xs H2 μ2 _ g2 ar bS f2=>⟨d,ds,h2,μ2,ar,rd.mono ah g2,bS,f2⟩⟩
  rw[(Zc8 Γ X.env es (y::ys) h4 _).2];have gx:Wt ((y::ys).length+([]:List Keyword).length+(if ([]:List Keyword).isEmpty then 0 else 1)<30)=Wr:=by rw[decide_eq_true_eq];exact Nat.lt_succ_of_lt h5
  rw[gx];rfl
def Zuv(hb:∀d h',e=.ok d h'->∃c,d=.bl c)(f:Fin Y eqR H B (e.bind λx R=>kz.ofO (ZdA GD x R) R) Q E):Fin Y (RD Y) H B e (λv H'=>∃c,v=.bl c/\Q c H') E:=
 f.bind λd R x H1 μ1 er g ah rd f1=>by obtain⟨c,rfl⟩:=hb d R er;cases rd;exact⟨c,rfl,Fin.ok (show Fin Y eqR H1 μ1 (.ok c R) Q E from f1) ah rfl⟩
def Zuw{f:D->D->Hd->kz D}(hf:∀x y h d h',f x y h=.ok d h'->∃c,d=.bl c)(s:Sm Y E eqR (λS h=>((ev T a S h).bind λx R=>(ev T b S R).bind λy h2=>f x y h2).bind λx R=>kz.ofO (ZdA T.GD x R) R) Z H Q):
 Zat T Y E a Z H λx H1=>Zat T Y E b Z H1 λy H2=>rB Y E f x y H2 λv H3=>∃c,v=.bl c/\Q c H3:=by
 cases s with
 |mk S h B rh rs q=>refine Znq ⟨S,h,B,rh,rs,Zuv (λd h' er=>?_) q⟩;obtain⟨_,_,_,er⟩:=kz.bind_eq er;obtain⟨_,_,_,er⟩:=kz.bind_eq er;exact hf _ _ _ _ _ er
def ZoM(G:Gd T Γ X Y E k)(ha:PE X l (Zat T Y E a))(hb:PE X r (Zat T Y E b))(hm:ZcU r=Wr):PT X (.Compare l [op] [r] pos) (ZkF T Y E (.ex (.cmp op a b))):=(ZnD (Zl8 (E:=E) G.room G.h60 G.gk op) ha hb (ZjN hm)).imp λ_ _ _ s=>Zuw (f:=opC T.GD op) (λ_ _ _ _ _=>ZqF) s
def ZkM(G:Gd T Γ X Y E k)(he:PE X x (Zat T Y E e))(R:ZiE x=Wr):PT X x (ZkF T Y E (.ex e)):=
 (ZlS he ((kdE x).tr R _)).imp λZ H Q s=>Sm.bind s λS d R x H1 μ1 ah al rd f1=>by obtain⟨b,eb,f1⟩:=f1.ofO;exact⟨b,Zni G.gk.K ah rd eb,f1.ok ah rfl⟩
def Zjl(T:Tb)(Y:Yx)(E:XK):Exs->List (TE×TE)
 |.nil=>[]
 |.cons k r=>match r with
  |.nil=>[]
  |.cons v r'=>(Zat T Y E k,Zat T Y E v)::Zjl T Y E r'
section
variable {Y:Yx}{H:Hp}{B:List Yi}{Dd:Yi}{ys zs:List (Key×V)}
def ZkC{K:Yk}(hD:H Dd=J (.dK ys))(t:SqT K H a vs):SqT K (upd H Dd (.dK zs)) a vs:=by
 rcases t with t|t
 . rcases t with t|⟨o,t⟩
   . exact .inl (.inl (by rw[Zq (λz=>by rw[z,hD]at t;cases t)];exact t))
   . exact .inl (.inr ⟨o,by rw[Zq (λz=>by rw[z,hD]at t;cases t)];exact t⟩)
 . exact .inr t
def Zk6{K:Yk}(hD:H Dd=J (.dK ys))(t:FzL K H a vs):FzL K (upd H Dd (.dK zs)) a vs:=by
 rcases t with⟨o,t⟩|t
 . exact .inl ⟨o,by rw[Zq (λz=>by rw[z,hD]at t;cases t)];exact t⟩
 . exact .inr t
def Tr.swapD(hD:H Dd=J (.dK ys)):Tr Y H B (upd H Dd (.dK zs)) B:=⟨ZkC hD,Zk6 hD,id⟩
end
inductive RPs(Y:Yx)(H:Hp)(B:List Yi):List D->List (V×V)->Prop
 |nil:RPs Y H B [] []
 |cons {k v:D}{r:List D}{x y:V}{ps:List (V×V)}:RD Y H B k x->RD Y H B v y->RPs Y H B r ps->RPs Y H B (k::v::r) ((x,y)::ps)
theorem RPs.pairs:∀{ds:List D}{ps:List (V×V)}{kvs:List (Key×D)},RPs Y H B ds ps->Zb2 ds=J kvs->∃ai:List (Key×V),ps=ai.map (λkv=>(kV kv.1,kv.2))/\RKs Y H B kvs ai
 |_,_,_,.nil,e=>by cases e;exact⟨[],rfl,.nil⟩
 |_,_,_,.cons a b s,e=>by
  rw[Zb2]at e;split at e
  . rename_i k r e1 e2;cases e;obtain⟨ai,rfl,rk⟩:=s.pairs e2;have:=Zcw a e1;subst this;exact⟨(k,_)::ai,rfl,.cons b rk⟩
  . cases e
theorem RPs.keysOk:∀{ds:List D}{ps:List (V×V)}{kvs:List (Key×D)},RPs Y H B ds ps->Zb2 ds=J kvs->ZbO kvs
 |_,_,_,.nil,e=>by cases e;intro p hp;cases hp
 |_,_,_,.cons a b s,e=>by
  rw[Zb2]at e;split at e
  . rename_i k r e1 e2;cases e;intro p hp x z;rcases O2.mp hp with rfl|hp
    . exact Zmv a e1 x z
    . exact s.keysOk e2 p hp x z
  . cases e
theorem Zdd:∀{more kvs:List (Key×D)},ZbO more->ZbO kvs->ZbO (ZcV kvs more)
 |[],kvs,_,h=>h
 |(k,d)::r,kvs,hm,h=>Zdd (more:=r) (kvs:=putD kvs k d) (λp hp=>hm p (Oh _ hp)) (Ze7 h (λx e=>hm (k,d) Oi x e))
theorem RKs.merge:∀{more:List (Key×D)}{cg:List (Key×V)}{kvs:List (Key×D)}{ai:List (Key×V)},RKs Y H B more cg->RKs Y H B kvs ai->RKs Y H B (ZcV kvs more) (ZdH ai cg)
 |_,_,_,_,.nil,s=>s
 |_,_,_,_,.cons (k:=k) a r,s=>by have z:=RKs.merge r (s.put k a);exact z
def Zl7:∀(n:Nat) (ps:Exs) {K:List D->Hd->kz D}{H:Hp}{B:List Yi}{h:Hd}{Q1:List (V×V)->Hp->Prop}{Γ:Gm}{ks:List (Option Expr)}{vs:List Expr},ks.length<=n->chkp Γ ps ks vs=Wr ->
 Gr H0 μ0 H B->RH Y H B h->RS Y H B S Z->Fin Y (RD Y) H0 μ0 ((evs T ps S h).bind K) Q E ->
 (∀ds R qs H1 μ1,Gr H B H1 μ1->RH Y H1 μ1 R->RPs Y H1 μ1 ds qs->Fin Y (RD Y) H0 μ0 (K ds R) Q E->Q1 qs H1)->Zgz (Zjl T Y E ps) Z H Q1:=by
 intro n;induction n with
 |zero=>
  intro ps K H B h Q1 Γ ks vs hl hc g0 rh rs f hq;cases ps with
  |nil=>exact hq [] h [] H B Gr.refl rh .nil f
  |cons k r=>
   cases r with
   |nil=>unfold chkp at hc;cases hc
   |cons v r'=>
    unfold chkp at hc;simp only at hc;split at hc
    . simp at hl
    . cases hc
 |succ n ih=>
  intro ps K H B h Q1 Γ ks vs hl hc g0 rh rs f hq;cases ps with
  |nil=>exact hq [] h [] H B Gr.refl rh .nil f
  |cons k r=>
   cases r with
   |nil=>unfold chkp at hc;cases hc
   |cons v r'=>
    unfold chkp at hc;simp only at hc;split at hc
    . rw[Oa]at hc;have f1:Fin Y (RD Y) H0 μ0 ((ev T k S h).bind λx R=>(ev T v S R).bind λy h2=>(evs T r' S h2).bind λxs h3=>K (x::y::xs) h3) Q E:=by
       have e:(evs T (.cons k (.cons v r')) S h).bind K=(ev T k S h).bind λx R=>(ev T v S R).bind λy h2=>(evs T r' S h2).bind λxs h3=>K (x::y::xs) h3:=by show((ev T k S h).bind λx R=>((ev T v S R).bind λy h2=>(evs T r' S h2).bind λxs h3=>kz.ok (y::xs) h3).bind λxs h2=>kz.ok (x::xs) h2).bind K=_;simp only[kz.bind_assoc,kz.bind_ok]
       rw[<-e];exact f
      refine⟨S,h,B,rh,rs,Fin.bindB g0 f1 λd R x H1 μ1 _ g1 ah rd f2=>?_⟩;refine⟨S,R,μ1,ah,rs.mono rh g1,Fin.bindB (g0.trans g1) f2 λe h2 y H2 μ2 _ g2 ar re f3=>?_⟩;refine ih r' (by simpa using hl) (bR hc.2) ((g0.trans g1).trans g2) ar ((rs.mono rh g1).mono ah g2) f3 λds h3 qs H3 μ3 g3 bb rp f4=>?_;exact hq (d::e::ds) h3 ((x,y)::qs) H3 μ3 ((g1.trans g2).trans g3) bb (.cons ((rd.mono ah g2).mono ar g3) (re.mono ar g3) rp) f4
    . cases hc
def ZoI(ps:Exs)(G:Gd T Γ X Y E k)(gy:ks.length<=15)(hc:chkp Γ ps ks vs=Wr)(hp:PPs X pos ks vs (Zjl T Y E ps))(bJ:ks.all (·.isSome)=Wr)(hl:ks.length=vs.length):PE X (.Dict ks vs pos) (Zat T Y E (.dictl ps)):=by
 by_cases h0:ks=[]
 . subst h0;cases vs with
   |cons a b=>cases hl
   |nil=>
    cases ps with
    |cons k r=>
     cases r with
     |nil=>unfold chkp at hc;cases hc
     |cons v r'=>unfold chkp at hc;cases hc
    |nil=>refine Zl6.imp λZ H Q ⟨S,h,B,rh,rs,f⟩ p hp=>?_;have f:Fin Y (RD Y) H B (ZaS (.dic []) h) Q E:=f;exact f.new rh hp ⟨[],Zi,.nil⟩ (λp hp=>by cases hp)
 . refine(ZnS hp bJ hl h0 gy).imp λZ H Q ⟨S,h,B,rh,rs,f⟩ p hp=>?_;have np:=rh.fr hp;refine Zl7 ks.length ps (Oq _) hc (Gr.lay0 hp) (rh.lay0 hp) (rs.mono rh (Gr.lay0 hp)) f λds R qs H1 μ1 g1 ah rp f1=>?_;obtain⟨fc,nD⟩:=g1.out (Zi (H:=H)) np;have jP:Gr H B H1 μ1:=(Gr.lay0 hp).trans g1;split at f1
   . rename_i kvs ek;obtain⟨hz,f1⟩:=f1.iff;obtain⟨ai,rfl,rk⟩:=rp.pairs ek;refine⟨fc,ai,rfl,by rw[<-rk.length];exact hz,?_⟩;have f2:Fin Y (RD Y) H B (.ok (.ref R.length) (R++[.dic (ZcV [] kvs)])) Q E:=f1;exact f2.at ((jP.put hp).add hp) ((ah.tr (.swapD fc) λ_ ha=>Zq λz=>nD (z▸ha)).add nD ⟨_,Zi,((rk.merge .nil).tr (.swapD fc)).tr .more⟩ (show ZbO (ZcV [] kvs)from Zdd (rp.keysOk ek) (λp hp=>by cases hp))) (.ref (by rw[ah.len];simp))
   . exact f1.elim
mutual
theorem Zs(e:Ex){Γ:Gm}{X:Cx}{E:XK}{k:Nat}{x:Expr}(G:Gd T Γ X Y E k)(h:chk Γ e x=Wr):PE X x (Zat T Y E e):=match e,h with
 |.var i,h=>ZsI h λx q h=>(Zqk (by rw [G.N];exact of_decide_eq_true (bL h)) (G.vis _ (bL (bR h))) (by simpa using bL (bR (bR h))) (by simpa using bR (bR (bR h)))).imp λZ H Q s=>by
   cases s with
   |mk S h B rh rs f =>
     obtain⟨d,e,f⟩:=Fin.ofO (show Fin Y (RD Y) H B (kz.ofO (S[i]?).join h) Q E from f);obtain⟨v,e1,rd⟩:=rs.var e;exact⟨v,e1,f.ok rh rd⟩
 |.cst d,h=>ZmL G h
 |.glo y,h=>Zm5 h λq h aa s Z H Q I sm=>by
   cases sm with
   |mk S h' B rh rs f =>
     obtain⟨d,e,f⟩:=Fin.ofO (show Fin Y (RD Y) H B (kz.ofO (T.G y) h') Q E from f);obtain⟨v,u,hm,rv,rd⟩:=G.gk.g y d e;exact ZnR (G.gl h).1 hm rv (G.gl h).2 aa s Z H Q I (f.ok rh (rd H B))
 |.bin op a b,h=>Ztk h λl r q h=>(Zsq (ZqG G.gk.K op) (Zs a G (bL h)) (Zs b G (bR h))).imp λ_ _ _ s=>Znq s
 |.cmp op a b,h=>Zpy h λl r q h=>(ZnU (Zl8 G.room G.h60 G.gk op) (Zs a G (bL h)) (Zs b G (bL (bR h))) (ZjN (bR (bR h)))).imp λ_ _ _ s=>Znq s
 |.cmp2 o1 o2 a b c,h=>ff h
 |.neg a,h=>ZpK h λx q h=>(Zso ZpJ (Zs a G h)).imp λZ H Q s=>Sm.bind s λS d R x H1 μ1 ah al rd f1=>by
   cases rd with
   |int i=>exact⟨i,rfl,Fin.ok f1 ah (.int _)⟩
   |_=>exact f1.elim
 |.nt a,h=>ZpK h λx q h=>(Zqo (Zs a G h)).imp λZ H Q s=>Sm.bind s λS d R x H1 μ1 ah al rd f1=>by
   cases rd with
   |bl i=>exact⟨i,rfl,Fin.ok f1 ah (.bl _)⟩
   |_=>exact f1.elim
 |.ands es,h=>Zod h λxs q h=>and_ok es G h
 |.ors es,h=>Zod h λxs q h=>or_ok es G h
 |.ite c a b,h=>Zug h λt x y q h=>(Zl5 (tst_ok c G (bL h)) (Zs a G (bL (bR h))) (Zs b G (bR (bR h)))).imp λZ H Q s=>Sm.bind s λS d R v H1 μ1 ah al rd f1=>by
   cases rd;cases d with
   |true=>exact ZiU ⟨S,R,μ1,ah,al,f1⟩
   |false=>exact ZiV ⟨S,R,μ1,ah,al,f1⟩
 |.tupl es,h=>Zhq h λxs j q h=>(Zql (evs_ok es G h)).imp λZ H Q s=>Sm.bind s λS d R x H1 μ1 ah al rd f1=>⟨by rw [<-rd.length];exact f1.iff.1,λp hp=>f1.iff.2.tup ah hp rd⟩
 |.lstl es,h=>ZsP h λxs q h=>(Zqq (evs_ok es G h)).imp λZ H Q s=>Sm.bind s λS d R x H1 μ1 ah al rd f1=>⟨by rw [<-rd.length];exact f1.iff.1,λp hp=>f1.iff.2.new ah hp ⟨_,Zi,rd.mono ah (Gr.lay hp)⟩⟩
 |.ix a i,h=>ZpY h λx y q h=>(Zsr (Zn5 G.gk) (Zs a G (bL h)) (Zs i G (bL (bR h))) (ZlB (bR (bR h)))).imp λ_ _ _ s=>Znq s
 |.sl a lo hi,h=>Zr9 h λx l u q r h=>(Zl1 (Zn3 (E:=E) G.gk.K) (Zs a G (bL h)) (evo_ok lo G (bL (bR h))) (evo_ok hi G (bR (bR h)))).imp λZ H Q s=>Sm.bind s λS d R x H1 μ1 ah al rd f1 =>
   ⟨S,R,μ1,ah,al,Fin.bind f1 λl h2 l' H2 μ2 _ g2 ar rl f2=>⟨S,h2,μ2,ar,al.mono ah g2,Fin.bind f2 λu h3 u' H3 μ3 _ g3 bb ru f3=>by
     cases rl;cases ru;exact⟨d,h3,μ3,bb,(rd.mono ah g2).mono ar g3,f3⟩⟩⟩
 |.blt f es,h=>Zdl h λp ys q h=>Zpx (bL (bR h)) (bR (bR h)) λy r hs=>(Zrv G f (bL (bL h)) (G.gl (bR (bL h))).1 (evs_ok es G hs) (ZcP X.env hs).1 ((ZcP X.env hs).2 _)).imp λZ H Q s=>Sm.bind s λS d R x H1 μ1 ah al rd f1=>⟨d,R,μ1,ah,rd,f1⟩
 |.call f es,h=>Zdl h λp ys q h=>Zpx (bL (bR (bR h))) (bR (bR (bR h))) λy r hs=>by
   obtain⟨ps,hd⟩:=G.defs _ (of_decide_eq_true (bL h));exact(Zqu hd G.room (G.gl (bL (bR h))).1 G.pass (evs_ok es G hs) (G.gl (bL (bR h))).2 (ZcP X.env hs).1 ((ZcP X.env hs).2 _)).imp λZ H Q s=>Sm.bind s λS d R x H1 μ1 ah al rd f1=>⟨d,R,μ1,ah,rd,f1⟩
 |.meth m o es,h=>Zkh h λxo ap ys cp h=>Zof G (Zs o G (bL h)) (bL (bR h)) (bL (bR (bR h))) (of_decide_eq_true (bL (bR (bR (bR h))))) (bR (bR (bR (bR h)))) (evs_ok es G (bL (bR (bR h))))
 |.comp NC js it g c e,h=>Zpn h λaG tg iter aY scope q h=>by
   have S_:=Zh3 (bL (bR h));rw [<-G.N,<-G.sc (bL h)] at S_;have h:=bR (bR h);have Gc:=λC s3 H3 fp=>G.comp NC scope C s3 H3 fp S_.nd;refine(ZnT (g:=tgR X.K g) (tc:=Sm Y E0 eqR (tsto T c)) (te:=Zat T Y E0 e) S_ rfl G.calm (evi_ok it G (bL h)) (λC s3 H3 fp=>⟨ZjG rfl S_.nd rfl (λx hx=>ZjJ (scope:=scope) X hx) (bL (bR (bR h))),ifs_ok c (Gc C s3 H3 fp) (bL (bR (bR (bR (bR h))))),Zs e (Gc C s3 H3 fp) (bR (bR (bR (bR (bR h)))))⟩) (ZrW X.K g) (λj hj=>of_decide_eq_true (OC.mp (bL (bR (bR (bR h)))) j (List.mem_range.mpr hj))) (Zix X.env (bL (bR h)))).imp
     λZ H Q s=>Sm.bind s λS w R ku H1 μ1 ah al wj f1 D hD=>Zka G.gk.K (λ_ _ _ z=>z) ah al wj f1 hD
 |.sorts e,h=>ff h
 |.trev e,h=>Zdl h λp ys q h=>Za0 h λz h=>Zdl h λp' ys q' h=>Za0 h λy h =>
   (ZkP G.calm (G.gl (bL h)).1 (G.blt _ (by decide)) (G.gl (bL (bR h))).1 (G.blt _ (by decide)) (ZaR (Zs e G (bL (bR (bR h)))) Zb3 (Zl X.env (bR (bR (bR h))))) (Zl X.env (bR (bR (bR h))))).imp λZ H Q s=>Sm.bind s λS d R x H1 μ1 ah al rd f1=>by
     cases d with
     |tup xs =>
       cases xs with
       |nil=>exact f1.elim
       |cons y ys =>
         obtain⟨a,vs,rfl,t,s⟩:=rd.tup_inv;exact⟨a,vs,rfl,G.gk.K▸t,(λz=>by have:=s.length;rw [z] at this;cases this),λp hp=>f1.tup ah hp s.reverse⟩
     |_=>exact f1.elim
 |.lrv e,h=>ff h
 |.tix o e,h=>Zkh h λxo ap ys cp h=>Za0 h λy h=>by
   have st:=bL (bR (bR (bR h)));refine(Zqm G.gk.bare (Zs o G (bL h)) (ZaR (Zs e G (bL (bR (bR h)))) Zb3 (Zl X.env st)) (ZcA (bL (bR h))) ?_ (bR (bR (bR (bR h)))) (Zl X.env st)).imp λZ H Q s=>Sm.bind s λS d R x H1 μ1 ah al rd f1=>?_
   . rw [Zl X.env st];rfl
   . obtain⟨il,f1⟩:=f1.iff;cases d with
     |tup xs =>
       obtain⟨a,vs,rfl,t,s⟩:=rd.tup_inv;refine⟨⟨a,vs,rfl,G.gk.K▸t⟩,S,R,μ1,ah,al,f1.bind λy h2 v H2 μ2 _ g2 ar ry f2=>?_⟩;obtain⟨a2,gC,ea,t2,s2⟩:=(rd.mono ah g2).tup_inv;exact ZpQ G.gk.K ea t2 s2 ar ry f2
     |_=>cases il
 |.lix o e,h=>Zkh h λxo ap ys cp h=>Za0 h λy h=>by
   have st:=bL (bR (bR (bR h)));refine(Zqr (Zs o G (bL h)) (ZaR (Zs e G (bL (bR (bR h)))) Zb3 (Zl X.env st)) (ZcA (bL (bR h))) ?_ (bR (bR (bR (bR h)))) (Zl X.env st)).imp λZ H Q s=>Sm.bind s λS d R x H1 μ1 ah al rd f1=>?_
   . rw [Zl X.env st];rfl
   . obtain⟨il,f1⟩:=f1.iff;obtain⟨a,vs,rfl,hq⟩:=Zoo G.gk.K ah rd il;exact⟨⟨a,vs,rfl,hq⟩,S,R,μ1,ah,al,f1.bind λy h2 v H2 μ2 _ g2 ar ry f2=>ZqU G.gk.K ar (rd.mono ah g2) ry f2⟩
 |.lin a b,h=>ff h
 |.rpn a b,h=>ff h
 |.any,h=>λaa s Z H Q I sm=>by
   cases sm with
   |mk S h B rh rs f=>exact f.elim
 |.att Cs o f,h=>Zrz h λx q h=>(Zqt (Zs o G (bL h)) (ZcA (bL (bR h)))).imp λZ H Q s=>Sm.bind s λS d R x H1 μ1 ah al rd f1=>Zry G (bL (bR (bR h))) (of_decide_eq_true (bR (bR (bR h)))) ah rd f1
 |.mk C es,h=>Zdl h λp ys q h=>ZsL G (of_decide_eq_true (bL h)) (bL (bR h)) (bR (bR h)) (evs_ok es G (bR (bR h)))
 |.mcl C m o es,h=>Zkh h λxo ap ys cp h=>ZqL G (of_decide_eq_true (bL (bR (bR (bR h))))) (bL (bR h)) (bL (bR (bR h))) (of_decide_eq_true (bL (bR (bR (bR (bR h)))))) (bR (bR (bR (bR (bR h))))) (Zs o G (bL h)) (evs_ok es G (bL (bR (bR h))))
 |.maxd a d,h=>Ztg h λp ys z r q h=>Za0 h λy h=>(ZnP (G.gl (bL h)).1 (G.blt _ (by decide)) G.calm (Zs a G (bL (bR h))) (Zs d G (bR (bR (bR h)))) (Zl X.env (bL (bR (bR h))))).imp λZ H Q s=>Sm.bind s λS x R v H1 μ1 ah al rx f1 =>
   ⟨S,R,μ1,ah,al,Fin.bind f1 λy h2 u H2 μ2 _ g2 ar ry f2=>by
     cases ry with
     |int d =>
       obtain⟨r,er,f2⟩:=Fin.ofO (show Fin Y (RD Y) H2 μ2 (kz.ofO (((lstOf x h2).bind intsOf).map λns=>.int (Zb5 ns d)) h2) Q E from f2);obtain⟨ns,e2,rfl⟩:=Oo.mp er;obtain⟨zs,e3,e4⟩:=Option.bind_eq_some_iff.mp e2;obtain⟨a,vs,rfl,hl,rv⟩:=(rx.mono ah g2).lstOf ar e3;rw [Zfa rv e4] at hl;exact⟨a,ns,d,rfl,rfl,G.gk.K▸hl,f2.ok ar (.int _)⟩
     |_=>exact f2.elim⟩
 |.dictl ps,h=>Zuo h λks vs q h=>ZoI ps G (of_decide_eq_true (bL h)) (bR h) (pairs_ok ps G (bR h)).1 (pairs_ok (pos:=q) ps G (bR h)).2.1 (pairs_ok (pos:=q) ps G (bR h)).2.2
theorem evs_ok(e:Exs){Γ:Gm}{X:Cx}{E:XK}{k:Nat}{x:List Expr}(G:Gd T Γ X Y E k)(h:chks Γ e x=Wr):PA X x (ZlF T Y E e):=match e,x,h with
 |.nil,[],h=>Zb3.imp λZ H Q s=>by
  cases s with
  |mk S h B rh rs f=>exact Fin.ok (show Fin Y (RDs Y) H B (.ok [] h) Q E from f) rh .nil
 |.nil,_::_,h=>ff h
 |.cons e r,[],h=>ff h
 |.cons e r,y::ys,h=>(ZaR (Zs e G (bL h)) (evs_ok r G (bR (bR h))) (Zl X.env (bL (bR h)))).imp λZ H Q s=>Sm.bind s λS d R x H1 μ1 ah al rd f1=>⟨S,R,μ1,ah,al,f1.bind λds h2 xs H2 μ2 _ g2 ar bS f2=>f2.ok ar (.cons (rd.mono ah g2) bS)⟩
theorem and_ok(e:Exs){Γ:Gm}{X:Cx}{E:XK}{k:Nat}{x:List Expr}{pos:Pos}(G:Gd T Γ X Y E k)(h:chks Γ e x=Wr):PE X (.BoolOp .And x pos) (Zat T Y E (.ands e)):=match e,x,h with
 |.nil,x,h=>λaa s Z H Q I sm=>by
  cases sm with
  |mk S h B rh rs f=>exact f.elim
 |.cons e r,[],h=>ff h
 |.cons e .nil,[y],h=>(Zl2 (Zs e G (bL h))).imp λZ H Q q=>q
 |.cons e .nil,y::z::zs,h=>ff (bR (bR h))
 |.cons e (.cons e' r'),[y],h=>ff (bR (bR h))
 |.cons e (.cons e' r'),y::z::zs,h=>(Zqw (Zs e G (bL h)) (and_ok (.cons e' r') G (bR (bR h)))).imp λZ H Q s=>Sm.bind s λS d R x H1 μ1 ah al rd f1=>by
  cases rd with
  |bl c=>
   refine⟨c,rfl,?_⟩;cases c with
   |true=>exact ZiU ⟨S,R,μ1,ah,al,f1⟩
   |false=>exact ZiV (Fin.ok f1 ah (.bl _))
  |_=>exact f1.elim
theorem or_ok(e:Exs){Γ:Gm}{X:Cx}{E:XK}{k:Nat}{x:List Expr}{pos:Pos}(G:Gd T Γ X Y E k)(h:chks Γ e x=Wr):PE X (.BoolOp .Or x pos) (Zat T Y E (.ors e)):=match e,x,h with
 |.nil,x,h=>λaa s Z H Q I sm=>by
  cases sm with
  |mk S h B rh rs f=>exact f.elim
 |.cons e r,[],h=>ff h
 |.cons e .nil,[y],h=>(Zl2 (Zs e G (bL h))).imp λZ H Q q=>q
 |.cons e .nil,y::z::zs,h=>ff (bR (bR h))
 |.cons e (.cons e' r'),[y],h=>ff (bR (bR h))
 |.cons e (.cons e' r'),y::z::zs,h=>(Zsp (Zs e G (bL h)) (or_ok (.cons e' r') G (bR (bR h)))).imp λZ H Q s=>Sm.bind s λS d R x H1 μ1 ah al rd f1=>by
  cases rd with
  |bl c=>
   refine⟨c,rfl,?_⟩;cases c with
   |true=>exact ZiU (Fin.ok f1 ah (.bl _))
   |false=>exact ZiV ⟨S,R,μ1,ah,al,f1⟩
  |_=>exact f1.elim
theorem evo_ok(e:Option Ex){Γ:Gm}{X:Cx}{E:XK}{k:Nat}{x:Option Expr}(G:Gd T Γ X Y E k)(h:chko Γ e x=Wr):PO X x (ZtS T Y E e):=match e,x,h with
 |none,M,h=>ZnJ.imp λZ H Q s=>by
  cases s with
  |mk S h B rh rs f=>exact Fin.ok (show Fin Y _ H B (.ok M h) Q E from f) rh rfl
 |none,J _,h=>ff h
 |some e,M,h=>ff h
 |some e,J a,h=>(ZnI (Zs e G h)).imp λZ H Q s=>Sm.bind s λS d R x H1 μ1 ah al rd f1=>by
  cases rd with
  |int i=>exact⟨i,rfl,Fin.ok f1 ah rfl⟩
  |_=>exact f1.elim
theorem tst_ok(e:Tx){Γ:Gm}{X:Cx}{E:XK}{k:Nat}{x:Expr}(G:Gd T Γ X Y E k)(h:chkt Γ e x=Wr):PT X x (ZkF T Y E e):=match e,h with
 |.ex e,h=>bO h (λh=>ZkM G (Zs e G (bR h)) (bL h)) λh=>by
  cases e with
  |cmp op a b=>exact Zpy h λl r q h=>ZoM G (Zs a G (bL h)) (Zs b G (bL (bR h))) (bR (bR h))
  |_=>exact ff h
 |.ands ts,h=>Zod h λxs q h=>(tand_ok ts G h).pt
 |.ors ts,h=>Zod h λxs q h=>(tor_ok ts G h).pt
 |.nt t,h=>ZpK h λy q h=>(Zqa (tst_ok t G h)).imp λZ H Q s=>Sm.bind s λS d R x H1 μ1 ah al rd f1=>by cases rd;exact Fin.ok f1 ah rfl
theorem tand_ok(e:Txs){Γ:Gm}{X:Cx}{E:XK}{k:Nat}{x:List Expr}{pos:Pos}(G:Gd T Γ X Y E k)(h:chkts Γ e x=Wr):PW X (.BoolOp .And x pos) (ZkF T Y E (.ands e)):=match e,x,h with
 |.one t,x,h=>Za0 h λy h=>(ZnA (tst_ok t G h)).imp λZ H Q q=>q
 |.cons t ts,[],h=>ff h
 |.cons t ts,[_],h=>ff (bL (bR h))
 |.cons t ts,x::y::r,h=>(Zp8 (tst_ok t G (bL h)) (tand_ok ts G (bR (bR h)))).imp λZ H Q s=>Sm.bind s λS d R x H1 μ1 ah al rd f1=>by
  cases rd;cases d with
  |true=>exact ZiU ⟨S,R,μ1,ah,al,f1⟩
  |false=>exact ZiV (Fin.ok f1 ah rfl)
theorem tor_ok(e:Txs){Γ:Gm}{X:Cx}{E:XK}{k:Nat}{x:List Expr}{pos:Pos}(G:Gd T Γ X Y E k)(h:chkts Γ e x=Wr):PW X (.BoolOp .Or x pos) (ZkF T Y E (.ors e)):=match e,x,h with
 |.one t,x,h=>Za0 h λy h=>(Zp7 (tst_ok t G h)).imp λZ H Q q=>q
 |.cons t ts,[],h=>ff h
 |.cons t ts,[_],h=>ff (bL (bR h))
 |.cons t ts,x::y::r,h=>(Zsm (tst_ok t G (bL h)) (tor_ok ts G (bR (bR h)))).imp λZ H Q s=>Sm.bind s λS d R x H1 μ1 ah al rd f1=>by
  cases rd;cases d with
  |true=>exact ZiU (Fin.ok f1 ah rfl)
  |false=>exact ZiV ⟨S,R,μ1,ah,al,f1⟩
theorem ifs_ok(c:Option Tx){Γ:Gm}{X:Cx}{E:XK}{k:Nat}{x:List Expr}(G:Gd T Γ X Y E k)(h:chkf Γ c x=Wr):PIf X x (Sm Y E eqR (tsto T c)):=match c,x,h with
 |none,[],h=>λaa s Z H Q I sm=>by
  cases sm with
  |mk S h B rh rs f=>exact ZnL aa s Z H Q I (Fin.ok (show Fin Y eqR H B (.ok Wr h) Q E from f) rh rfl)
 |none,_::_,h=>ff h
 |some t,x,h=>Za0 h λy h=>ZnK (tst_ok t G h)
theorem evi_ok(e:Ix){Γ:Gm}{X:Cx}{E:XK}{k:Nat}{x tg:Expr}(G:Gd T Γ X Y E k)(h:chki Γ e tg x=Wr):PI X tg x (ZtT T Y E e):=match e,h with
 |.pl e,h=>(Zqi (Zs e G h)).imp λZ H Q s=>Sm.bind s λS d R x H1 μ1 ah al rd f1=>by obtain⟨w,ew,f1⟩:=f1.ofO;exact Zna G.gk.K ah rd ew λku wj=>f1.ok ah wj
 |.rng e,h=>Zdl h λp ys q h=>Za0 h λy h=>(ZkO (G.gl (bL h)).1 (G.blt _ (by decide)) (ZaR (Zs e G (bL (bR h))) Zb3 (Zl X.env (bR (bR h)))) (Zl X.env (bR (bR h)))).imp λZ H Q s=>Sm.bind s λS d R x H1 μ1 ah al rd f1=>by
  cases rd with
  |int j=>obtain⟨hz,f1⟩:=Fin.iff (show Fin Y (WJ Y) H1 μ1 (if ZaQ j=Wr then .ok ⟨M,ZW 0 j.toNat⟩ R else .bad) Q E from f1);exact⟨j,rfl,of_decide_eq_true (bL hz),of_decide_eq_true (bR hz),f1.ok ah ZpF⟩
  |_=>exact f1.elim
 |.rng2 a b,h=>ff h
 |.enu e,h=>Zdl h λp ys q h=>Za0 h λy h=>Zmw (bR (bR (bR h))) λts j r=>(ZnN (G.gl (bL h)).1 (G.blt _ (by decide)) (ZaR (Zs e G (bL (bR h))) Zb3 (Zl X.env (bL (bR (bR h))))) (Zl X.env (bL (bR (bR h))))).imp λZ H Q s=>Sm.bind s λS d R x H1 μ1 ah al rd f1=>by
  obtain⟨w,ew,f1⟩:=f1.ofO;obtain⟨w0,dr,rfl⟩:=Oo.mp ew;cases d with
  |ro xs=>
   cases dr;cases rd with
   |ro t s=>exact⟨_,rfl,⟨_,G.gk.K▸t.sq⟩,f1.ok ah (Zjj (Zpd G.gk.K ah t s) λH2 μ2 h2 g2 ar st=>⟨_,G.gk.K▸(g2.rdF ah t).sq,s.mono ah g2⟩)⟩
  |ref i=>obtain⟨xs,hi,rfl⟩:=Zlg dr;obtain⟨a,vs,rfl,hm,hl,s⟩:=rd.lst ah hi;refine⟨a,rfl,⟨vs,.of hl⟩,f1.ok ah (Zjj (Zlh hm) λH2 μ2 h2 g2 ar st=>?_)⟩;obtain⟨gC,bm,s2⟩:=ar.ob i _ a (ZeN st) (g2.pre i a hm);exact⟨gC,.of bm,s2⟩
  |_=>cases dr
 |.rev e,h=>Zdl h λp ys q h=>Za0 h λy h=>(ZnM (G.gl (bL h)).1 (G.blt _ (by decide)) (ZaR (Zs e G (bL (bR h))) Zb3 (Zl X.env (bR (bR h)))) (Zl X.env (bR (bR h)))).imp λZ H Q s=>Sm.bind s λS d R x H1 μ1 ah al rd f1=>by
  obtain⟨w,ew,f1⟩:=f1.ofO;obtain⟨w0,dr,rfl⟩:=Oo.mp ew;cases d with
  |tup xs=>cases dr;obtain⟨a,vs,rfl,t,s⟩:=rd.tup_inv;exact⟨a,vs,rfl,.inl ⟨G.gk.K▸t,f1.ok ah (ZpG G.gk.K ah t s)⟩⟩
  |ref i=>obtain⟨xs,hi,rfl⟩:=Zlg (show Zf2 (.ref i) R=J w0 from dr);obtain⟨a,vs,rfl,hm,hl,s⟩:=rd.lst ah hi;exact⟨a,vs,rfl,.inr ⟨.of hl,by rw[<-s.length];exact f1.ok ah (Zm6 hm)⟩⟩
  |_=>cases dr
 |.en1 e,h=>ff h
 |.zp a b,h=>Zdl h λp ys q h=>Zpq h λy z h=>Zmw (bR (bR (bR (bR (bR h))))) λts j r=>by
  have h5:=bL (bR (bR (bR h)));have h6:=bL (bR (bR (bR (bR h))));refine(Zqh (G.gl (bL h)).1 (G.blt _ (by decide)) (ZaR (Zs a G (bL (bR h))) (ZaR (Zs b G (bL (bR (bR h)))) Zb3 (Zl X.env h6)) (Zl X.env h5)) (by rw[Zl X.env h5,Zl X.env h6];rfl) (Zl X.env h6)).imp λZ H Q s=>Sm.bind s λS d R x H1 μ1 ah al rd f1=>⟨S,R,μ1,ah,al,f1.bind λe h2 y H2 μ2 kq g2 ar re f2=>?_⟩
  have cJ:=rd.mono ah g2;cases cJ with
  |tup t s=>
   cases re with
   |tup t' s'=>obtain⟨hl,f2⟩:=Fin.iff f2;exact⟨_,_,rfl,⟨_,G.gk.K▸t⟩,⟨_,G.gk.K▸t'⟩,f2.ok ar (ZpD G.gk.K ar t s t' s' hl)⟩
   |_=>exact f2.elim
  |_=>exact f2.elim
 |.en0 e,h=>ff h
 |.dk e,h=>ff h
theorem pairs_ok(ps:Exs){Γ:Gm}{X:Cx}{E:XK}{k:Nat}{ks:List (Option Expr)}{vs:List Expr}{pos:Pos}(G:Gd T Γ X Y E k)(h:chkp Γ ps ks vs=Wr):PPs X pos ks vs (Zjl T Y E ps)/\ks.all (·.isSome)=Wr/\ks.length=vs.length:=match ps,ks,vs,h with
 |.nil,[],[],h=>⟨ZnH,rfl,rfl⟩
 |.nil,[],_::_,h=>ff h
 |.nil,_::_,_,h=>ff h
 |.cons e .nil,ks,vs,h=>ff h
 |.cons e (.cons v r'),[],vs,h=>ff h
 |.cons e (.cons v r'),M::_,vs,h=>ff h
 |.cons e (.cons v r'),J _::_,[],h=>ff h
 |.cons e (.cons v r'),J kx::ks,vx::vs,h=>
  let z:=pairs_ok r' (pos:=pos) G (bR (bR h))
  ⟨ZlY (Zs e G (bL h)) (Zs v G (bL (bR h))) z.1,z.2.1,congrArg (·+1) z.2.2⟩
end
def Zcu(e:Expr):Bool:=Wt (tgE e≠13)&&Wt (tgE e≠19)
def ZiI(e:Expr):Bool:=Wt (tgE e≠8)
structure PsS where
 a:Expr:=default
 b:Expr:=default
 o:Option Expr:=M
 c:Option Expr:=M
 ts:List Expr:=[]
 xs:List Stmt:=[]
 ys:List Stmt:=[]
 zs:List Stmt:=[]
 hs:List ExceptHandler:=[]
 op:Operator:=.Add
 p:Pos:=default
 s:Stmt:=default
noncomputable def tgS:Stmt->Nat
 |.Return _ _=>1|.Assign _ _ _=>2|.AugAssign _ _ _ _=>3|.Expr _ _=>4|.If _ _ _ _=>5|.While _ _ _ _=>6|.For _ _ _ _ _=>7|.Pass _=>8|.Break _=>9|.Continue _=>10|.Raise _ _ _=>11|.Try _ _ _ _ _=>12|_=>0
noncomputable def prS(s:Stmt):PsS:=match s with
 |.Return o p=>{o:=o,p:=p}
 |.Assign ts a p=>{ts:=ts,a:=a,p:=p}
 |.AugAssign a op b p=>{a:=a,op:=op,b:=b,p:=p}
 |.Expr a p=>{a:=a,p:=p}
 |.If a xs ys p=>{a:=a,xs:=xs,ys:=ys,p:=p}
 |.While a xs ys p=>{a:=a,xs:=xs,ys:=ys,p:=p}
 |.For a b xs ys p=>{a:=a,b:=b,xs:=xs,ys:=ys,p:=p}
 |.Pass p=>{p:=p}
 |.Break p=>{p:=p}
 |.Continue p=>{p:=p}
 |.Raise o c p=>{o:=o,c:=c,p:=p}
 |.Try xs hs ys zs p=>{xs:=xs,hs:=hs,ys:=ys,zs:=zs,p:=p}
 |_=>{s:=s}
noncomputable def mkS(n:Nat)(p:PsS):Stmt:=match n with
 |1=>.Return p.o p.p|2=>.Assign p.ts p.a p.p|3=>.AugAssign p.a p.op p.b p.p|4=>.Expr p.a p.p|5=>.If p.a p.xs p.ys p.p|6=>.While p.a p.xs p.ys p.p|7=>.For p.a p.b p.xs p.ys p.p
 |8=>.Pass p.p|9=>.Break p.p|10=>.Continue p.p|11=>.Raise p.o p.c p.p|12=>.Try p.xs p.hs p.ys p.zs p.p|_=>p.s
def rbS(s:Stmt):mkS (tgS s) (prS s)=s:=by cases s<;>rfl
@[irreducible] def anS(n:Nat)(s:Stmt)(f:PsS->Bool):Bool:=Wt (tgS s=n)&&f (prS s)
section
variable {P:Stmt->Prop}{s:Stmt}
def Zbo(h:anS n s f=Wr)(k:∀p,f p=Wr->P (mkS n p)):P s:=by unfold anS at h;exact rbS s▸dS (P:=λm=>P (mkS m (prS s))) (bL h) (k _ (bR h))
noncomputable def oSm{α:Type}(o:Option α)(f:α->Bool):Bool:=match o with
 |some x=>f x
 |none=>Ws
def ZqH{α:Type}{P:Option α->Prop}{o:Option α}{f:α->Bool}(h:oSm o f=Wr)(k:∀x,f x=Wr->P (J x)):P o:=by
 cases o with
 |none=>exact ff h
 |some x=>exact k x h
@[irreducible] def aAs(s:Stmt)(f:Expr->Expr->Bool):Bool:=anS 2 s λp=>l1 p.ts λg=>f g p.a
def ZmX(h:aAs s f=Wr)(k:∀g x q,f g x=Wr->P (.Assign [g] x q)):P s:=by unfold aAs at h;exact Zbo h λp h=>Za0 (P:=λts=>P (.Assign ts p.a p.p)) h λ_ h=>k _ _ _ h
end
noncomputable def ZsW:Ex->Bool
 |.comp _ _ _ _ _ _|.any=>Wr
 |_=>Ws
mutual
def Zth(Γ:Gm):Sx->Stmt->Bool
 |.ret e,s=>anS 1 s λp=>oSm p.o λx=>chk Γ e x
 |.set g e,s=>aAs s λtg x=>ZoN Γ.N (ownD Γ.sc) g tg&&(chk Γ e x&&((Zcu x&&(!isTup tg||ZiI x))||(Wt (tgE tg=6)&&ZsW e)))
 |.put o i e,s=>aAs s λtg x=>aS tg λxo xi=>chk Γ o xo&&(chk Γ i xi&&(chk Γ e x&&(Ze1 xi&&Zcu x)))
 |.aug i op e,s=>anS 3 s λp=>ZkW Γ.N (ownD Γ.sc) i p.a&&(Wt (p.op=.Add)&&(Wt (op=.Add)&&chk Γ e p.b))
 |.drp e,s=>anS 4 s λp=>chk Γ e p.a&&Zcu p.a
 |.iff c a b,s=>anS 5 s λp=>chkt Γ c p.a&&(chkSs Γ a p.xs&&chkSs Γ b p.ys)
 |.whl c b,s=>anS 6 s λp=>l0 p.ys (chkt Γ c p.a&&chkSs Γ b p.xs)
 |.forr g it b,s=>anS 7 s λp=>l0 p.ys (chki Γ it p.a p.b&&(ZcU p.b&&(ZoN Γ.N (ownD Γ.sc) g p.a&&chkSs Γ b p.xs)))
 |.pas,s=>anS 8 s λ_=>Wr
 |.brk,s=>anS 9 s λ_=>Wr
 |.cnt,s=>anS 10 s λ_=>Wr
 |.seta Cs o f e,s=>aAs s λtg x=>aA f tg λxo _=>chk Γ o xo&&(chk Γ e x&&(Zcu x&&((Cs.all λC=>Wt (C∈Γ.kl.cs))&&Wt (f∈Γ.kl.ats))))
 |.auga _ _ _ _,_=>Ws
 |.any,_=>Wr
 |.rai _ _,_=>Ws
 |.trs _ _ _ _,_=>Ws
 |.trw _ _ _ _ _ _ _,_=>Ws
 |.unl _ _ _,_=>Ws
def chkSs(Γ:Gm):Sxs->List Stmt->Bool
 |.nil,ss=>ss.isEmpty
 |.cons s r,ss=>match ss with
  |x::xs=>Zth Γ s x&&chkSs Γ r xs
  |[]=>Ws
end
def ZQ(Y:Yx)(H:Hp)(B:List Yi)(r:kz (Fl×Ev))(D:Ends)(E:XK):Prop:=match r with
 |.bad=>False
 |.ok p h'=>∀H' μ',Gr H B H' μ'->RH Y H' μ' h'->match p.1 with
  |.nx=>∀σ',RS Y H' μ' p.2 σ'->D.nx σ' H'
  |.bk=>∀σ',RS Y H' μ' p.2 σ'->D.bk σ' H'
  |.ct=>∀σ',RS Y H' μ' p.2 σ'->D.ct σ' H'
  |.rt d=>∀v,RD Y H' μ' d v->D.rt v H'
 |.exc c h'=>∀H' μ' C,Gr H B H' μ'->RH Y H' μ' h'->Y.mg c=J (.ref C)->E (.ref C) M H'
section
variable {Y:Yx}{α β:Type}{am:Hp->List Yi->α->β->Prop}{H H1:Hp}{B μ1:List Yi}{E:XK}{D:Ends}
def ZQ.mono(g:Gr H B H1 μ1)(f:ZQ Y H B r D E):ZQ Y H1 μ1 r D E:=by
 cases r with
 |bad=>exact f
 |ok a h=>exact λH' μ' g'=>f H' μ' (g.trans g')
 |exc c h=>exact λH' μ' C g'=>f H' μ' C (g.trans g')
theorem ZQ.bind(f:ZQ Y H B (r.bind k) D E)
 (hk:∀a R b H1 μ1,r=.ok a R->Gr H B H1 μ1->RH Y H1 μ1 R->am H1 μ1 a b->ZQ Y H1 μ1 (k a R) D E->Q1 b H1):Fin Y am H B r Q1 E:=by
 cases r with
 |bad=>exact f
 |ok a h=>exact λb H' μ' g' rh rl=>hk a h b H' μ' rfl g' rh rl (ZQ.mono g' f)
 |exc c h=>exact f
theorem ZQ.ofO(f:ZQ Y H B ((kz.ofO o h).bind k) D E):∃a,o=J a/\ZQ Y H B (k a h) D E:=by
 cases o with
 |none=>exact f.elim
 |some a=>exact⟨a,rfl,f⟩
theorem ZQ.nx(f:ZQ Y H B (.ok (.nx,S) h) D E)(rh:RH Y H B h)(rs:RS Y H B S Z):D.nx Z H:=f H B Gr.refl rh Z rs
def ZQ.part(f:ZQ Y H B (r.bind k) D E)
 (hk:∀p R H1 μ1,r=.ok p R->Gr H B H1 μ1->RH Y H1 μ1 R->ZQ Y H1 μ1 (k p R) D E->match p.1 with
  |.nx=>∀σ',RS Y H1 μ1 p.2 σ'->D1.nx σ' H1
  |.bk=>∀σ',RS Y H1 μ1 p.2 σ'->D1.bk σ' H1
  |.ct=>∀σ',RS Y H1 μ1 p.2 σ'->D1.ct σ' H1
  |.rt d=>∀v,RD Y H1 μ1 d v->D1.rt v H1):ZQ Y H B r D1 E:=by
 cases r with
 |bad=>exact f
 |ok p h=>exact λH' μ' g' rh=>hk p h H' μ' rfl g' rh (ZQ.mono g' f)
 |exc c h=>exact f
end
inductive SmS(Y:Yx)(E:XK)(m:Ev->Hd->kz (Fl×Ev))(D:Ends)(Z:L2.St)(H:Hp):Prop
 |mk (S:Ev) (h:Hd) (B:List Yi) (rh:RH Y H B h) (rs:RS Y H B S Z) (f:ZQ Y H B (m S h) D E):SmS Y E m D Z H
def Znp(T:Tb)(Y:Yx)(E:XK)(s:Sx):TS:=SmS Y E (xs1 T s)
def Zju(T:Tb)(Y:Yx)(E:XK)(s:Sxs):TS:=SmS Y E (xs2 T s)
theorem SmS.bind{D:Ends}{γ δ:Type}{am:Hp->List Yi->γ->δ->Prop}{m:Ev->Hd->kz γ}{k:Ev->γ->Hd->kz (Fl×Ev)}{Q1:δ->Hp->Prop}(s:SmS Y E (λS h=>(m S h).bind (k S)) D Z H)
 (hk:∀S d R v H1 μ1,RH Y H1 μ1 R->RS Y H1 μ1 S Z->am H1 μ1 d v->ZQ Y H1 μ1 (k S d R) D E->Q1 v H1):Sm Y E am m Z H Q1:=by
 cases s with
 |mk S h B rh rs f=>exact⟨S,h,B,rh,rs,f.bind λd R x H1 μ1 _ g ah rd f1=>hk S d R x H1 μ1 ah (rs.mono rh g) rd f1⟩
def Sm.at{α β:Type}{am:Hp->List Yi->α->β->Prop}{m:Ev->Hd->kz α}{Q1:β->Hp->Prop}{Q:Prop}(s:Sm Y E am m Z H Q1)(hk:∀S h B,RH Y H B h->RS Y H B S Z->Fin Y am H B (m S h) Q1 E->Q):Q:=by
 cases s with
 |mk S h B rh rs f=>exact hk S h B rh rs f
def SmS.at{D:Ends}{Q:Prop}(s:SmS Y E m D Z H)(hk:∀S h B,RH Y H B h->RS Y H B S Z->ZQ Y H B (m S h) D E->Q):Q:=by
 cases s with
 |mk S h B rh rs f=>exact hk S h B rh rs f
def _root_.L2.PS.imp(h:PS X s t)(i:∀D Z H,t' D Z H->t D Z H):PS X s t':=λaa s Z H D I q=>h aa s Z H D I (i D Z H q)
def _root_.L2.PSs.imp(h:PSs X s t)(i:∀D Z H,t' D Z H->t D Z H):PSs X s t':=λaa s Z H D I q=>h aa s Z H D I (i D Z H q)
structure XOk(K:Yk)(a:Yi):Prop extends ExcN K a where
 own:PySem.W.excIn K a [.type "ValueError",.type "Exception",.type "BaseException",.type "object"] "ValueError.__new__"=Wr
 sub:PySem.W.subIn K (.ref a) (.ref a)=J Wr
structure GdS(T:Tb)(Γ:Gm)(X:Cx)(Y:Yx)(E:XK)(k:Nat):Prop extends Gd T Γ X Y E k where
 top:Γ.top=Wr
 fnt:∀x,X.fn x=Wr
 own:PassesOwn (model X.prog X.w) X.A X.env X.xe
 bk:X.env.blockKind=.function
 rz:Zku X E
 stk:X.stack=X.env::X.outer
 frm:X.env.frame=J X.env.locals
 xcs:∀C∈Γ.kl.xs,∃a,X.mg C=J (.ref a)/\XOk X.K a
 xas:∀p∈Γ.kl.xa,∃a b,X.mg p.1=J (.ref a)/\X.mg p.2=J (.ref b)/\XAs X.K a b
theorem GdS.ownD(G:GdS T Γ X Y E k):∀x,ownD Γ.sc x=Wr->Loc X.env.scope x/\(X.fn x=Wr\/X.env.scope.names.lookup x=J .local):=by intro x h;refine⟨?_,.inl (G.fnt x)⟩;unfold IV.ownD at h;rw[G.sc G.top];rw[Wo]at h;exact h.imp of_decide_eq_true of_decide_eq_true
def Zc7(h:Zcu x=Wr):swapsWith x t n env=pure Ws:=(kdE x).sw (of_decide_eq_true (bL h)) (of_decide_eq_true (bR h)) _ _ _
def ZlE(G:GdS T Γ X Y E k)(hi:Γ.N[i]?=J y)(ho:ownD Γ.sc y=Wr)(hx:ZsW e=Wr)(h:chk Γ e x=Wr):PS X (.Assign [.Name y py] x spos) (Ziu (Zat T Y E e) (ZbQ i)):=by
 obtain⟨o1,o2⟩:=G.ownD y ho;have hy:X.N[i]?=J y:=by rw[G.N];exact hi
 cases e with
 |comp NC js it g c e=>
  refine Zpn h (λaG tg iter aY scope q h pe=>?_) (Zs _ G.toGd h);cases sw:(X.env.blockKind==.function&&X.env.kindOf y==J .local&&py.line==q.line&&!(scope.names.any λ(n,k)=>n==y&&(k==.local||k==.cell)))with
  |true=>
   have S_:=Zh3 (bL (bR h));rw[<-G.N,<-G.sc (bL h)]at S_;have Gc:=λC s3 H3 fp=>G.toGd.comp NC scope C s3 H3 fp S_.nd;have h':=bR (bR h);exact(ZiD (g:=tgR X.K g) (tc:=Sm Y E0 eqR (tsto T c)) (te:=Zat T Y E0 e) G.nd hy o1 o2 S_ rfl G.calm (evi_ok it G.toGd (bL h')) (λC s3 H3 fp=>⟨ZjG rfl S_.nd rfl (λx hx=>ZjJ (scope:=scope) X hx) (bL (bR (bR h'))),ifs_ok c (Gc C s3 H3 fp) (bL (bR (bR (bR (bR h'))))),Zs e (Gc C s3 H3 fp) (bR (bR (bR (bR (bR h')))))⟩) (ZrW X.K g) (λj hj=>of_decide_eq_true (OC.mp (bL (bR (bR (bR h')))) j (List.mem_range.mpr hj))) (Zix X.env (bL (bR h'))) (congrArg pure sw)).imp
    λD Z H s=>Sm.bind s λS w R ku H1 μ1 ah al wj f1 D hD=>Zka G.gk.K (λ_ _ _ z=>z) ah al wj f1 hD
  |false=>exact ZlV G.nd hy o1 pe (congrArg pure sw) o2
 |any=>exact λaa s Z H D I s=>Sm.at s λ_ _ _ _ _ f=>f.elim
 |_=>exact ff hx
def Zjt(ht:isTup tg=Wr)(pg:PG X tg g)(he:PE X x te)(h3:(Zcu x&&(!isTup tg||ZiI x))=Wr):PS X (.Assign [tg] x pos) (Ziu te g):=Zmw (P:=λtg=>PG X tg g->(!isTup tg||ZiI x)=Wr->PS X (.Assign [tg] x pos) (Ziu te g)) ht (λ_ _ _ pg h3=>ZlX he pg (by unfold swapsWithSole;exact Zc7 (bL ‹_›)) ((kdE x).st (of_decide_eq_true h3) _ _ _ _) rfl) pg (bR h3)
def ZjI{D D1:Ends}{k:Ev->Hd->kz (Fl×Ev)}(f:ZQ Y H B (r.bind λp h2=>match p with
 |(.nx,ρ2)=>k ρ2 h2
 |(.ct,ρ2)=>k ρ2 h2
 |(.bk,ρ2)=>.ok (.nx,ρ2) h2
 |(.rt d,ρ2)=>.ok (.rt d,ρ2) h2) D E) (hn:∀ρ2 h2 H2 μ2 σ',Gr H B H2 μ2->RH Y H2 μ2 h2->RS Y H2 μ2 ρ2 σ'->ZQ Y H2 μ2 (k ρ2 h2) D E->D1.nx σ' H2) (hc:D1.ct=D1.nx) (hb:D1.bk=D.nx) (hr:D1.rt=D.rt):ZQ Y H B r D1 E:=
 ZQ.part f λp h2 H2 μ2 _ g2 ar f2=>by
  obtain⟨fl,ρ2⟩:=p;cases fl with
  |nx=>exact λσ' bn=>hn ρ2 h2 H2 μ2 σ' g2 ar bn f2
  |ct=>rw[hc];exact λσ' bn=>hn ρ2 h2 H2 μ2 σ' g2 ar bn f2
  |bk=>rw[hb];exact λσ' bn=>ZQ.nx f2 ar bn
  |rt d=>rw[hr];exact λv rv=>f2 H2 μ2 Gr.refl ar v rv
def ZpH{D:Ends}(s:Znp T Y E (.whl c b) D Z H):Zlw (ZkF T Y E c) (Zju T Y E b) D Z H:=by
 refine⟨λm=>SmS Y E (Z9 (tst T c) (xs2 T b) m) D,⟨T.L,s⟩,λm Z H s=>?_⟩;cases m with
 |zero=>exact SmS.at s λ_ _ _ _ _ f=>f.elim
 |succ m=>
  refine SmS.bind s λS t R v H1 μ1 ah al rd f1=>?_;cases rd;cases t with
  |false=>exact ZiV (ZQ.nx f1 ah al)
  |true=>exact ZiU ⟨SmS Y E (Z9 (tst T c) (xs2 T b) m) D,λσ' H' q=>⟨m,OH m,q⟩,S,R,μ1,ah,al,ZjI f1 (λρ2 h2 H2 μ2 σ' _ ar fI f2=>⟨ρ2,h2,μ2,ar,fI,f2⟩) rfl rfl rfl⟩
inductive FwS(Y:Yx)(E:XK)(H1:Hp)(μ1:List Yi)(n i:Nat)(F:Ev->Hd->kz (Fl×Ev))(D:Ends)(m:Nat)(Z:L2.St)(H:Hp):Prop
 |mk (S:Ev) (h:Hd) (B:List Yi) (hi:i<=n) (hm:m=n-i) (g:Gr H1 μ1 H B) (rh:RH Y H B h) (rs:RS Y H B S Z) (f:ZQ Y H B (F S h) D E):FwS Y E H1 μ1 n i F D m Z H
def Zrb{K:Yk}{g:Tg}{D:Ends}(hY:Y.K=K)(ah:RH Y H1 μ1 R)(al:RS Y H1 μ1 S Z)(wj:WJ Y H1 μ1 w ku)(f1:ZQ Y H1 μ1 (ZP w.src g (xs2 T b) w.xs S R) D E):∃W:Nat->Nat->L2.St->Hp->Prop,(∃m,W 0 m Z H1)/\∀i m Z H,W i m Z H ->
 (ku.stop i H/\D.nx Z H)\/(ku.go i H/\∃B_:L2.St->Hp->Prop,(∀σ' H',B_ σ' H'->∃m',m'<m/\W (i+1) m' σ' H')/\∀x H',ku.yld i H x H'->tgR K g x Z H' λσ' j2=>Zju T Y E b {D with nx:=B_,ct:=B_,bk:=D.nx} σ' j2):=by
 refine⟨λi=>FwS Y E H1 μ1 w.xs.length i (λS=>ZP w.src g (xs2 T b) (w.xs.drop i) S) D,⟨w.xs.length,S,R,μ1,Yv _,(Nat.sub_zero _).symm,Gr.refl,ah,al,f1⟩,λi m Z H s=>?_⟩;cases s with
 |mk S h B hi hm g0 rh rs f=>
  subst hm;by_cases hs:Wk.stays w.src h=Wr
  . by_cases av:i<w.xs.length
    . have hd:=Og av;rw[List.drop_eq_getElem_cons av,ZP,if_pos hs]at f;obtain⟨go,yl⟩:=(wj H B h g0 rh hs).1 i _ hd;refine .inr ⟨go,FwS Y E H1 μ1 w.xs.length (i+1) (λS=>ZP w.src g (xs2 T b) (w.xs.drop (i+1)) S) D (w.xs.length-(i+1)),λσ' H' q=>⟨_,Nat.sub_lt_sub_left av (OH i),q⟩,λx H' hy=>?_⟩;obtain⟨g2,ar,rx⟩:=yl x H' hy;split at f
      . exact f.elim
      . rename_i ρ1 hb;exact Zhd hY rx (rs.mono rh g2) hb λσ1 al=>⟨ρ1,h,B,ar,al,ZjI (ZQ.mono g2 f) (λρ2 h3 H3 μ3 σ' g3 bb iB f3=>⟨ρ2,h3,μ3,av,rfl,(g0.trans g2).trans g3,bb,iB,f3⟩) rfl rfl rfl⟩
    . have he:i=w.xs.length:=Nat.le_antisymm hi (Nat.le_of_not_lt av);subst he;rw[List.drop_eq_nil_of_le (Oq _),ZP,if_pos hs]at f;exact .inl ⟨(wj H B h g0 rh hs).2,ZQ.nx f rh rs⟩
  . cases e:w.xs.drop i with
    |nil=>rw[e,ZP,if_neg hs]at f;exact f.elim
    |cons _ _=>rw[e,ZP,if_neg hs]at f;exact f.elim
mutual
theorem Zr8(s:Sx){Γ:Gm}{X:Cx}{E:XK}{k:Nat}{x:Stmt}(G:GdS T Γ X Y E k)(h:Zth Γ s x=Wr):PS X x (Znp T Y E s):=match s,h with
 |.ret e,h=>Zbo (P:=λx=>PS X x _) h λp h=>ZqH (P:=λo=>PS X (.Return o p.p) _) h λy h=>(Zqb (Zs e G.toGd h)).imp λD Z H s=>SmS.bind s λS d R v H1 μ1 ah al rd f1=>f1 H1 μ1 Gr.refl ah v rd
 |.set g e,h=>ZmX (P:=λx=>PS X x _) h λtg xe pos h=>by
  have fin:∀{D:Ends}{Z:L2.St}{H:Hp},Znp T Y E (.set g e) D Z H->Ziu (Zat T Y E e) (tgR X.K g) D Z H:=λ{D Z H} s=>SmS.bind s λS d R v H1 μ1 ah al rd f1=>by obtain⟨ρ1,eb,f1⟩:=f1.ofO;exact Zhd G.gk.K rd al eb λσ1 fI=>f1.nx ah fI
  have pg:=ZjG (X:=X) G.N G.nd G.calm G.ownD (bL h);refine bO (bR (bR h)) (λh3=>?_) λh3=>?_
  . cases g with
    |nm i=>exact Zba (P:=λt=>PS X (.Assign [t] _ _) _) (bL h) λy py e1 e2=>(ZlV G.nd (by rw[G.N];exact e1) (G.ownD y e2).1 (Zs e G.toGd (bL (bR h))) (Zc7 (bL h3)) (G.ownD y e2).2).imp λD Z H q=>fin q
    |two i j=>exact(Zjt (Zhq (P:=λt=>isTup t=Wr) (show Zkg Γ.N (ownD Γ.sc) i j tg=Wr from bL h) λ_ _ _ _=>rfl) pg (Zs e G.toGd (bL (bR h))) h3).imp λD Z H q=>fin q
    |many is=>exact(Zjt (Zhq (P:=λt=>isTup t=Wr) (show Zkf Γ.N (ownD Γ.sc) is tg=Wr from bL h) λ_ _ _ _=>rfl) pg (Zs e G.toGd (bL (bR h))) h3).imp λD Z H q=>fin q
  . cases g with
    |nm i=>exact Zba (P:=λt=>PS X (.Assign [t] _ _) _) (bL h) λy py e1 e2=>(ZlE G e1 e2 (bR h3) (bL (bR h))).imp λD Z H q=>fin q
    |two i j=>exact ff (Zhq (P:=λt=>Wt (tgE t=6)=Wr->Ws=Wr) (show Zkg Γ.N (ownD Γ.sc) i j tg=Wr from bL h) (λ_ _ _ _ z=>z) (bL h3))
    |many is=>exact ff (Zhq (P:=λt=>Wt (tgE t=6)=Wr->Ws=Wr) (show Zkf Γ.N (ownD Γ.sc) is tg=Wr from bL h) (λ_ _ _ _ z=>z) (bL h3))
 |.put o i e,h=>ZmX (P:=λx=>PS X x _) h λtg xe p2 h=>ZpY (P:=λt=>PS X (.Assign [t] _ _) _) h λxo xi p1 h=>
  (ZlX (pos:=p2) (Zs e G.toGd (bL (bR (bR h)))) (Zqj (pos:=p1) (Zs o G.toGd (bL h)) (Zs i G.toGd (bL (bR h))) (Zp9 (Y:=Y) (E:=E)) ((kdE xi).put (of_decide_eq_true (bL (bR (bR (bR h))))) _ _ _)) (by unfold swapsWithSole;exact Zc7 (bR (bR (bR (bR h))))) rfl rfl).imp λD Z H s=>SmS.bind s λS d R v H1 μ1 ah al rd f1=>
   ⟨S,R,μ1,ah,al,f1.bind λd2 h2 v2 H2 μ2 _ g2 ar cJ f2=>⟨S,h2,μ2,ar,al.mono ah g2,f2.bind λd3 h3 v3 H3 μ3 _ g3 bb fK f3=>⟨d2,d3,d,h3,μ3,bb,cJ.mono ar g3,fK,(rd.mono ah g2).mono ar g3,f3.bind λ_ h4 _ H4 μ4 _ g4 fJ _ f4=>f4.nx fJ (((al.mono ah g2).mono ar g3).mono bb g4)⟩⟩⟩
 |.aug i op e,h=>Zbo (P:=λx=>PS X x _) h λp h=>Zba (P:=λa=>PS X (.AugAssign a _ _ _) _) (bL h) λy py e1 e2=>dS (P:=λo=>PS X (.AugAssign _ o _ _) _) (bL (bR h)) <| dS (P:=λo=>PS X _ (Znp T Y E (.aug i o e))) (bL (bR (bR h))) <|
  (Zqe G.nd (by rw[G.N];exact e1) (G.ownD _ e2).1 (Zs e G.toGd (bR (bR (bR h)))) Zq6 (G.ownD _ e2).2).imp λD Z H s=>SmS.at s λS h B rh rs f=>by
   obtain⟨d,ed,f⟩:=ZQ.ofO f;obtain⟨v,ev,rd⟩:=rs.var ed;refine⟨v,ev,S,h,B,rh,rs,ZQ.bind f λd2 h2 v2 H2 μ2 _ g2 ar cJ f2=>?_⟩;cases rd with
   |int a=>
    cases cJ with
    |int b=>exact⟨a,b,rfl,rfl,ZQ.nx f2 ar ((rs.mono rh g2).set (.int _))⟩
    |_=>exact f2.elim
   |_=>exact f2.elim
 |.drp e,h=>Zbo (P:=λx=>PS X x _) h λp h=>(ZnG (Zs e G.toGd (bL h)) (Zc7 (bR h))).imp λD Z H s=>SmS.bind s λS d R v H1 μ1 ah al rd f1=>f1.nx ah al
 |.iff c a b,h=>Zbo (P:=λx=>PS X x _) h λp h=>(Zsn (tst_ok c G.toGd (bL h)) (sts_ok a G (bL (bR h))) (sts_ok b G (bR (bR h)))).imp λD Z H s=>SmS.bind s λS t R v H1 μ1 ah al rd f1=>by
  cases rd;cases t with
  |true=>exact ZiU ⟨S,R,μ1,ah,al,f1⟩
  |false=>exact ZiV ⟨S,R,μ1,ah,al,f1⟩
 |.whl c b,h=>Zbo (P:=λx=>PS X x _) h λp h=>ZjS (P:=λys=>PS X (.While _ _ ys _) _) h λh=>(ZlU G.own (tst_ok c G.toGd (bL h)) (sts_ok b G (bR h))).imp λD Z H s=>ZpH s
 |.forr g it b,h=>Zbo (P:=λx=>PS X x _) h λp h=>ZjS (P:=λys=>PS X (.For _ _ _ ys _) _) h λh=>(Zqc G.own G.calm (evi_ok it G.toGd (bL h)) (ZjG (X:=X) G.N G.nd G.calm G.ownD (bL (bR (bR h)))) (sts_ok b G (bR (bR (bR h)))) (Zix X.env (bL (bR h)))).imp λD Z H s=>SmS.bind s λS w R ku H1 μ1 ah al wj f1=>Zrb G.gk.K ah al wj f1
 |.pas,h=>Zbo (P:=λx=>PS X x _) h λp h=>ZnF.imp λD Z H s=>SmS.at s λS h B rh rs f=>ZQ.nx f rh rs
 |.brk,h=>Zbo (P:=λx=>PS X x _) h λp h=>ZlW.imp λD Z H s=>SmS.at s λS h B rh rs f=>f H B Gr.refl rh Z rs
 |.cnt,h=>Zbo (P:=λx=>PS X x _) h λp h=>ZhB.imp λD Z H s=>SmS.at s λS h B rh rs f=>f H B Gr.refl rh Z rs
 |.any,h=>λaa s Z H D I s=>SmS.at s λS h B rh rs f=>f.elim
 |.rai C e,h=>ff h
 |.trs i f es C,h=>ff h
 |.trw i n f es C W w,h=>ff h
 |.seta Cs o f e,h=>ZmX (P:=λx=>PS X x _) h λtg xe pos h=>Zrz (P:=λt=>PS X (.Assign [t] _ _) _) h λxo q h=>(Zqd (Zs o G.toGd (bL h)) (Zs e G.toGd (bL (bR h))) (Zc7 (bL (bR (bR h))))).imp λD Z H s=>SmS.bind s λS d R v H1 μ1 ah al rd f1=>⟨S,R,μ1,ah,al,ZQ.bind f1 λd2 h2 v2 H2 μ2 _ g2 ar cJ f2=>ZpX (Q:=λ_ H'=>D.nx Z H') G.toGd (bL (bR (bR (bR h)))) (of_decide_eq_true (bR (bR (bR (bR h))))) ar cJ (rd.mono ah g2) (ZQ.bind f2 λ_ h3 _ H3 μ3 _ g3 bb _ f3=>f3.nx bb ((al.mono ah g2).mono ar g3))⟩
 |.auga Cs o f e,h=>ff h
 |.unl i j e,h=>ff h
theorem sts_ok(s:Sxs){Γ:Gm}{X:Cx}{E:XK}{k:Nat}{x:List Stmt}(G:GdS T Γ X Y E k)(h:chkSs Γ s x=Wr):PSs X x (Zju T Y E s):=match s,x,h with
 |.nil,[],h=>ZnE.imp λD Z H s=>SmS.at s λS h B rh rs f=>ZQ.nx f rh rs
 |.nil,_::_,h=>ff h
 |.cons s r,[],h=>ff h
 |.cons s r,x::xs,h=>(ZlT (Zr8 s G (bL h)) (sts_ok r G (bR h))).imp λD Z H s=>SmS.at s λS h B rh rs f=>⟨S,h,B,rh,rs,ZQ.part f λp R H1 μ1 _ g1 ah f1=>by
     obtain⟨fl,ρ1⟩:=p;cases fl with
     |nx=>exact λσ' bn=>⟨ρ1,R,μ1,ah,bn,f1⟩
     |bk=>exact λσ' bn=>f1 H1 μ1 Gr.refl ah σ' bn
     |ct=>exact λσ' bn=>f1 H1 μ1 Gr.refl ah σ' bn
     |rt d=>exact λv rv=>f1 H1 μ1 Gr.refl ah v rv⟩
end
set_option tactic.hygienic false
structure BodyOk(K:Yk)(kl:Kl)(fs:List Str)(x q:Str)(fd:Fd)(st:Stmt)(f:Yi)(aq:FuncData):Prop where
 fn:Fun K x q st f aq
 sc:FnScope fd.N fd.ps (ZN st)
 hb:∀(kV aL pm:Yj) (an:Option Yi) (aJ ct:Yj) (us:List Yj),us.length=fd.ps.length->bindArgs (PySem.W.fnOf x q (Zcz st) (Zbc st) (ZN st) .none kV aL pm an aJ ct) ⟨us,[]⟩=pure (fd.ps.zip us)
 ck:chkSs ⟨fd.N,ZN st,fs,Wr,kl⟩ fd.body (Zbc st)=Wr
structure DefOk(K:Yk)(mg:Str->Option Yj)(kl:Kl)(fs:List Str)(x:Str)(fd:Fd)(st:Stmt)(f:Yi)(aq:FuncData):Prop where
 bd:BodyOk K kl fs x x fd st f aq
 mg:mg x=J (.ref f)
structure Md(Pr:Yh)(w:Yg)(K:Yk)(mg:Str->Option Yj)(P:Pg)(kl:Kl):Prop where
 bare:Zbp K=Wr
 gd:∀x kvs,P.GD x=J kvs->∃a ai,mg x=J (.ref a)/\DkK Pr w K a ai/\∀H B,RKs ⟨K,mg⟩ H B kvs ai
 g:∀x d,P.G x=J d->∃v u,mg x=J u/\RelV v u/\∀H B,RD ⟨K,mg⟩ H B d v
 blt:∀x∈Zkl,mg x=M
 defs:∀x fd,P.tb.lookup x=J fd->∃st f aq,DefOk K mg kl (P.tb.map (·.1)) x fd st f aq
 cls:∀C∈kl.cs,∃a,mg C=J (.ref a)/\Cls K a/\∀f∈kl.ats,Za9 K a f
 mts:∀p∈kl.ms,∃a f aq fd st q,mg p.1=J (.ref a)/\Cls K a/\Meth K a p.2 f/\P.look (mnm p.1 p.2)=J fd/\BodyOk K kl (P.tb.map (·.1)) p.2 q fd st f aq
 mks:∀C∈kl.is,∃a f aq fd st q,mg C=J (.ref a)/\Mk K a f/\P.look (mnm C (O "__init__"))=J fd/\BodyOk K kl (P.tb.map (·.1)) (O "__init__") q fd st f aq
 xcs:∀C∈kl.xs,∃a,mg C=J (.ref a)/\XOk K a
 xas:∀p∈kl.xa,∃a b,mg p.1=J (.ref a)/\mg p.2=J (.ref b)/\XAs K a b
def Zly(r:RDs Y H B ds vs):RS Y H B (ZL N ds) (L2.start N vs):=by
 refine⟨by simp[ZL,L2.start,r.length],λi d e=>?_⟩;unfold ZL at e;unfold L2.start;by_cases hi:i<ds.length
 . rw[Oe (by simpa using hi),On]at e;rw[Oe (by simpa[<-r.length]using hi),On];obtain⟨d',e1,e2⟩:=Oo.mp e;cases e2;obtain⟨v,R,h2⟩:=r.get e1;exact⟨v,by rw[R];rfl,h2⟩
 . rw[Om (by simpa using hi)]at e;have:=O1 e;rw[List.mem_replicate]at this;cases this.2
def Znr(f:Fin Y (RD Y) H B (Zd r) Q E):ZQ Y H B r {nx:=λ_ H'=>Q .non H',rt:=Q} E:=by
 cases r with
 |bad=>exact f.elim
 |exc c h=>exact f
 |ok p h=>
  obtain⟨fl,S⟩:=p;cases fl with
  |nx=>exact λH' μ' g rh σ' _=>f .non H' μ' g rh .non
  |bk=>exact f.elim
  |ct=>exact f.elim
  |rt d=>exact λH' μ' g rh v rv=>f v H' μ' g rh rv
section
variable {Pr:Yh}{w:Yg}{K:Yk}{mg:Str->Option Yj}{base:YF}{P:Pg}{kl:Kl}
def ZgL(h:P.tb.lookup x=J fd):P.look x=J fd:=by unfold Pg.look;rw[h]
def ZlA(hl:P.look x=J fd)(h:Zed (P.tbl n) ⟨K,mg⟩ x vs H Q E):vs.length=fd.ps.length:=by
 obtain⟨ds,h,B,rh,rs,f⟩:=h;cases n with
 |zero=>exact f.elim
 |succ n=>have f:Fin ⟨K,mg⟩ (RD ⟨K,mg⟩) H B (run P (n+1) x ds h) Q E:=f;rw[run,hl]at f;obtain⟨hz,_⟩:=f.iff;rw[<-rs.length];exact hz
structure Lev(Pr:Yh)(w:Yg)(K:Yk)(mg:Str->Option Yj)(base:YF)(P:Pg)(kl:Kl)(n:Nat):Prop where
 defs:∀y∈P.tb.map (·.1),∃ps,Def Pr w K mg base (2*n+61) y ps (Zed (P.tbl n) ⟨K,mg⟩ y)
 mts:∀p∈kl.ms,∃a f fd ps,mg p.1=J (.ref a)/\Cls K a/\Meth K a p.2 f/\FnOk Pr w K mg base (CXF Pr w) (2*n+61) f fd ps (Zed (P.tbl n) ⟨K,mg⟩ (mnm p.1 p.2))/\Binds K fd ps []
 mks:∀C∈kl.is,∃a f fd ps,mg C=J (.ref a)/\Mk K a f/\FnOk Pr w K mg base (CXF Pr w) (2*n+61) f fd ps (Zed (P.tbl n) ⟨K,mg⟩ (mnm C (O "__init__")))/\Binds K fd ps []
def Zg0(ky:Md Pr w K mg P kl){x nm q:Str}{fd:Fd}{st:Stmt}{f:Yi}{aq:FuncData}(hl:P.look x=J fd)(o:BodyOk K kl (P.tb.map (·.1)) nm q fd st f aq):
 ∀n,Lev Pr w K mg base P kl n->FnOk Pr w K mg base (CXF Pr w) (2*(n+1)+61) f aq fd.ps (Zed (P.tbl (n+1)) ⟨K,mg⟩ x):=by
 intro n ih;obtain⟨oc,od,kV,aL,pm,an,aJ,ct,bx,rfl,lk,bQ⟩:=o.fn.ex;have S_:=o.sc;rw[show 2*(n+1)+61=(2*n+61+1)+1 by lia];refine Zs3 lk bQ S_ (λvs H Q E h=>ZlA hl h) λA outer s H vs Q E hr br=>?_;refine ZoP (t:=Zju (P.tbl n) ⟨K,mg⟩ E fd.body) (sts_ok fd.body (k:=2*n+61) (Γ:=⟨fd.N,ZN st,P.tb.map (·.1),Wr,kl⟩) ⟨⟨⟨rfl,rfl,ky.gd,ky.g,ky.bare⟩,rfl,λ_=>rfl,λy hy=>?_,λy hy=>hy,S_.nd,rfl,hr.mono (by lia),by lia,ZnX λ_ _ z=>z,ih.defs,ky.blt,hr,ky.cls,ih.mts,ih.mks⟩,rfl,λ_=>rfl,PassesOwn.leaving,?_,ZlH,rfl,rfl,ky.xcs,ky.xas⟩ o.ck) ?_
 . unfold Znc at hy;rw[Wo,Wo]at hy;rcases hy with (hy|hy)|hy
   . exact .inl (of_decide_eq_true hy)
   . exact .inr (.inl (of_decide_eq_true hy))
   . exact .inr (.inr (of_decide_eq_true hy))
 . show(if (ZN st).kind.isAnnotationScope then ScopeKind.function else(ZN st).kind)=.function;rw[S_.kind];rfl
 . obtain⟨ds,h,B,rh,rs,f⟩:=br;have f:Fin ⟨K,mg⟩ (RD ⟨K,mg⟩) H B (run P (n+1) x ds h) Q E:=f;rw[run,hl]at f;obtain⟨hz,f⟩:=f.iff;exact⟨ZL fd.N ds,h,B,rh,Zly rs,Znr f⟩
def mem_lookup{α:Type}{l:List (Str×α)}{x:Str}(h:x∈l.map (·.1)):∃a,l.lookup x=J a:=by
 induction l with
 |nil=>simp at h
 |cons p r ih=>
  rw[OF];by_cases e:x=p.1
  . have:(x==p.1)=Wr:=by simpa using e
    rw[this];exact⟨_,rfl⟩
  . have:(x==p.1)=Ws:=by simpa using e
    rw[this];exact ih (by simpa[e]using h)
def ZgW{x:Str}{fd:Fd}{f:Yi}{aq:FuncData}(hl:P.look x=J fd):FnOk Pr w K mg base (CXF Pr w) (2*0+61) f aq fd.ps (Zed (P.tbl 0) ⟨K,mg⟩ x):=⟨λvs H Q E h=>ZlA hl h,λA outer s H args us vs Q E _ _ _ _ h=>by obtain⟨ds,h,B,rh,rs,f⟩:=h;exact f.elim⟩
def Zm2(ky:Md Pr w K mg P kl):∀n,Lev Pr w K mg base P kl n:=by
 intro n;induction n with
 |zero=>
  refine⟨λy hy=>?_,λp hp=>?_,λC hC=>?_⟩
  . obtain⟨fd,hl⟩:=mem_lookup hy;obtain⟨st,f,aq,o⟩:=ky.defs y fd hl;exact⟨fd.ps,f,aq,o.mg,o.bd.fn.kp,o.bd.fn.binds o.bd.hb,ZgW (ZgL hl)⟩
  . obtain⟨a,f,aq,fd,st,q,m,c,me,hl,o⟩:=ky.mts p hp;exact⟨a,f,aq,fd.ps,m,c,me,ZgW hl,o.fn.binds o.hb⟩
  . obtain⟨a,f,aq,fd,st,q,m,me,hl,o⟩:=ky.mks C hC;exact⟨a,f,aq,fd.ps,m,me,ZgW hl,o.fn.binds o.hb⟩
 |succ n ih=>
  refine⟨λy hy=>?_,λp hp=>?_,λC hC=>?_⟩
  . obtain⟨fd,hl⟩:=mem_lookup hy;obtain⟨st,f,aq,o⟩:=ky.defs y fd hl;exact⟨fd.ps,f,aq,o.mg,o.bd.fn.kp,o.bd.fn.binds o.bd.hb,Zg0 ky (ZgL hl) o.bd n ih⟩
  . obtain⟨a,f,aq,fd,st,q,m,c,me,hl,o⟩:=ky.mts p hp;exact⟨a,f,aq,fd.ps,m,c,me,Zg0 ky hl o n ih,o.fn.binds o.hb⟩
  . obtain⟨a,f,aq,fd,st,q,m,me,hl,o⟩:=ky.mks C hC;exact⟨a,f,aq,fd.ps,m,me,Zg0 ky hl o n ih,o.fn.binds o.hb⟩
def ZqV(ky:Md Pr w K mg P kl){x:Str}{a:Str}{fd:Fd}{fa:Yi}(n:Nat)(hl:P.tb.lookup x=J fd)(dZ:fd.ps=[a])(hm:mg x=J (.ref fa)):
 ∃aq:FuncData,(∀(s:Yb) (v:Yj),BindsTo s aq ⟨[v],[]⟩ [(a,v)])/\∀base:YF,FnOk Pr w K mg base (CXF Pr w) (2*(n+1)+61) fa aq [a] (Zed (P.tbl (n+1)) ⟨K,mg⟩ x):=by
 obtain⟨st,f,aq,o⟩:=ky.defs x fd hl;have e:=hm.symm.trans o.mg;cases e;refine⟨aq,λs v=>?_,λbase=>dZ▸Zg0 ky (ZgL hl) o.bd n (Zm2 ky n)⟩;obtain⟨oc,od,kV,aL,pm,an,aJ,ct,bx,rfl,lk,bQ⟩:=o.bd.fn.ex;have:=o.bd.hb kV aL pm an aJ ct [v] (by rw[dZ];rfl);rw[dZ]at this;exact BindsTo.of_eq this
end
def ZrQ{α:Type}{us:List α}(h:us.length=0):us=[]:=List.length_eq_zero_iff.mp h
def Zkw{α:Type}{us:List α}{n:Nat}(h:us.length=n+1):∃a r,us=a::r/\r.length=n:=by
 cases us with
 |nil=>cases h
 |cons a r=>exact⟨a,r,rfl,Nat.succ.inj h⟩
def ZrP{α:Type}{us:List α}(h:us.length=1):∃a0,us=[a0]:=by obtain⟨a0,r,rfl,h2⟩:=Zkw h;exact⟨a0,by rw[ZrQ h2]⟩
def ZrO{α:Type}{us:List α}(h:us.length=2):∃a0 a1,us=[a0,a1]:=by obtain⟨a0,r,rfl,h2⟩:=Zkw h;obtain⟨a1,rfl⟩:=ZrP h2;exact⟨a0,a1,rfl⟩
def ZrN{α:Type}{us:List α}(h:us.length=3):∃a0 a1 a2,us=[a0,a1,a2]:=by obtain⟨a0,r,rfl,h2⟩:=Zkw h;obtain⟨a1,a2,rfl⟩:=ZrO h2;exact⟨a0,a1,a2,rfl⟩
def ZrM{α:Type}{us:List α}(h:us.length=4):∃a0 a1 a2 a3,us=[a0,a1,a2,a3]:=by obtain⟨a0,r,rfl,h2⟩:=Zkw h;obtain⟨a1,a2,a3,rfl⟩:=ZrN h2;exact⟨a0,a1,a2,a3,rfl⟩
def ZrL{α:Type}{us:List α}(h:us.length=5):∃a0 a1 a2 a3 a4,us=[a0,a1,a2,a3,a4]:=by obtain⟨a0,r,rfl,h2⟩:=Zkw h;obtain⟨a1,a2,a3,a4,rfl⟩:=ZrM h2;exact⟨a0,a1,a2,a3,a4,rfl⟩
def Zty{α:Type}{us:List α}(h:us.length=6):∃a0 a1 a2 a3 a4 a5,us=[a0,a1,a2,a3,a4,a5]:=by obtain⟨a0,r,rfl,h2⟩:=Zkw h;obtain⟨a1,a2,a3,a4,a5,rfl⟩:=ZrL h2;exact⟨a0,a1,a2,a3,a4,a5,rfl⟩
set_option tactic.hygienic true
def All(p:α->Prop):List α->Prop
 |[]=>True
 |a::l=>p a/\All p l
theorem All.mem:∀{l:List α},All p l->∀a∈l,p a
 |[],_,a,h=>by simp at h
 |b::l,⟨R,h2⟩,a,h=>by
  rcases O2.mp h with rfl|h
  . exact R
  . exact All.mem h2 a h
def lookup_mem{α:Type}{l:List (Str×α)}{a:α}(h:l.lookup x=J a):(x,a)∈l:=by
 induction l with
 |nil=>cases h
 |cons p r ih=>
  rw[OF]at h;by_cases e:x=p.1
  . have:(x==p.1)=Wr:=by simpa using e
    rw[this]at h;cases h;subst e;exact Oi
  . have:(x==p.1)=Ws:=by simpa using e
    rw[this]at h;exact Oh _ (ih h)
noncomputable def spL(K:Yk):Sp:=λvs H Q _=>∃(a:Yi) (ns:List Int),vs=[.ref a]/\SqL K H a (ns.map V.int)/\ns.length<=63/\Zpb H/\∀H',Q (.bl Wr) H'
theorem ZjX:∀ns:List Int,RDs Y H B (ns.map D.int) (ns.map V.int)
 |[]=>.nil
 |n::r=>.cons (.int n) (ZjX r)
def ZrK{l:PySem.W.OpenLaw}{q:Yh}{aZ:List Str}{XP:(Str->Option Yj)->YF->Prop}{YP:Yg->YF->Prop}{d:DefRec}{K:Params->Yk}{P:Pg}{kl:Kl}{fd:Fd}(n:Nat)(hn:l.most=J 63)(ez:d.params.defaults=[])(hd:d.name=O "law")(hr:Room (2*(n+1)+61) callerA)
 (hY:∀(w:Yg) (h:YF),YP w h->(K w.params).In h) (hl:P.tb.lookup (O "law")=J fd) (dZ:fd.ps=[O "_law_script"])
 (fX:∀ns:List Int,ns.length<=63->∃h',run P (n+1) (O "law") [.ro (ns.map .int)] []=.ok (.bl Wr) h')
 (ky:∀(w:Yg) (mg:Str->Option Yj) (h:YF),(K w.params).In h->h.Ns Yd mg->Md l.prog w (K w.params) mg P kl) :
 PySem.W.WalkO q aZ XP YP l.row.toRowW d [] (λf vs=>PySem.call f vs):=by
 refine L2.Znb (n:=63) (k:=2*(n+1)+61) (x := "_law_script") (CX:=λw=>CXF l.prog w) (sp:=λw=>spL (K w.params)) hn (by decide) ez hr hY (λw mg fa h KX G dA=>?_) (λ_ _ a ns hl hO hS=>⟨a,ns,rfl,hS,hl,hO,λ_=>rfl⟩) λ_ _ _ _ _ z=>by obtain⟨_,_,_,_,_,_,_,_,_,_,_,_,_,z⟩:=z;exact z
 rw[hd]at dA;obtain⟨aq,hb,F⟩:=ZqV (ky w mg h KX G) n hl dZ dA;refine⟨aq,hb,λbase _ _=>(F base).imp λvs H Q E br=>?_⟩;obtain⟨a,ns,rfl,hS,hz,hO,hq⟩:=br;obtain⟨h',e⟩:=fX ns hz;refine⟨[.ro (ns.map .int)],[],[],⟨rfl,.nil,λi o a e=>by simp at e,λi o e=>by simp at e⟩,.cons (.ro ?_ (ZjX ns)) .nil,?_⟩
 . rcases hS with hS|hS
   . rcases hS with hS|hS
     . rcases hO a with z|⟨o,xs,z⟩<;>(rw[z]at hS;cases hS)
     . exact .inl hS
   . exact .inr hS
 . show Fin _ _ H [] (run P (n+1) (O "law") [.ro (ns.map .int)] []) Q E;rw[e];exact λb H' μ' _ _ r=>by cases r;exact hq H'
def Zpi{K:Yk}(h:K.lookup a=J ⟨.type "tuple",od,.seq its n,sl⟩)(hz:its.size<=sizeLine)(r:Zn vs its.toList):SqT K H a vs:=
 .inr ⟨_,its,n,h,rfl,rfl,hz,r⟩
end IV
namespace IV
open PySem L2 PyProof.Rows
section
structure Chk(kl:Kl)(fs:List Str)(x q:Str)(fd:Fd)(st:Stmt):Prop where
 sc:FnScope fd.N fd.ps (ZN st)
 hb:∀(kV aL pm:Yj) (an:Option Yi) (aJ ct:Yj) (us:List Yj),us.length=fd.ps.length->bindArgs (PySem.W.fnOf x q (Zcz st) (Zbc st) (ZN st) .none kV aL pm an aJ ct) ⟨us,[]⟩=pure (fd.ps.zip us)
 ck:chkSs ⟨fd.N,ZN st,fs,Wr,kl⟩ fd.body (Zbc st)=Wr
variable {K:Yk}{h:YF}{mg:Str->Option Yj}{kl:Kl}{fs:List Str}{x q C:Str}{fd:Fd}{st:Stmt}{ca:Yi}{P:Pg}
def Chk.bd(c:Chk kl fs x q fd st)(F:Fun K x q st f aq):BodyOk K kl fs x q fd st f aq:=⟨F,c.sc,c.hb,c.ck⟩
def ZrC(K:Yk)(x:Str)(st:Stmt):Prop:=∃f aq,Yl K Yd x=J (J (.ref f))/\Fun K x x st f aq
def Zjh(K:Yk)(ca:Yi)(x q:Str)(st:Stmt):Prop:=∃f aq,YI K (.ref ca) x=J (J (.ref f))/\PySem.W.isFn K (.ref f)=Wr/\Wa K (.ref f)=Wr/\Fun K x q st f aq
def ZoJ(X:K.In h)(G:h.Ns Yd mg)(d:ZrC K x st)(c:Chk kl fs x x fd st):∃st f aq,DefOk K mg kl fs x fd st f aq:=by obtain⟨f,aq,a,F⟩:=d;exact⟨st,f,aq,c.bd F,YN X G a⟩
def Zog(X:K.In h)(G:h.Ns Yd mg)(y:Yl K Yd C=J (J (.ref ca)))(cl:Cls K ca)(d:Zjh K ca x q st)(c:Chk kl (P.tb.map (·.1)) x q fd st)(e:P.look (mnm C x)=J fd):∃a f aq fd st q,mg C=J (.ref a)/\Cls K a/\Meth K a x f/\P.look (mnm C x)=J fd/\BodyOk K kl (P.tb.map (·.1)) x q fd st f aq:=by obtain⟨f,aq,u1,u2,u3,F⟩:=d;exact⟨ca,f,aq,fd,st,q,YN X G y,cl,⟨u1,u2,u3⟩,e,c.bd F⟩
def Zmh(X:K.In h)(G:h.Ns Yd mg)(y:Yl K Yd C=J (J (.ref ca)))(m:PySem.W.makesIn K ca=Wr)(k:Wa K (.ref ca)=Wr)(d:Zjh K ca (O "__init__") q st)(c:Chk kl (P.tb.map (·.1)) (O "__init__") q fd st)(e:P.look (mnm C (O "__init__"))=J fd):∃a f aq fd st q,mg C=J (.ref a)/\Mk K a f/\P.look (mnm C (O "__init__"))=J fd/\BodyOk K kl (P.tb.map (·.1)) (O "__init__") q fd st f aq:=by obtain⟨f,aq,u1,u2,u3,F⟩:=d;exact⟨ca,f,aq,fd,st,q,YN X G y,⟨m,u1,u2,k⟩,e,c.bd F⟩
end
section
noncomputable abbrev Ml:=Str×Str×Fd×Nat×Nat
variable {K:Yk}{h:YF}{mg:Str->Option Yj}{kl:Kl}{fs:List Str}{C:Str}{ca:Yi}{P:Pg}
theorem All.app{α:Type}{p:α->Prop}{b:List α}:∀{a:List α},All p a->All p b->All p (a++b)
 |[],_,hb=>hb
 |_::_,ha,hb=>⟨ha.1,ha.2.app hb⟩
theorem Zj7(X:K.In h)(G:h.Ns Yd mg){top:Nat->Stmt}:∀{l:List (Str×Fd×Nat)},All (λp=>ZrC K p.1 (top p.2.2)) l->All (λp=>Chk kl fs p.1 p.1 p.2.1 (top p.2.2)) l->All (λp:Str×Fd=>∃st f aq,DefOk K mg kl fs p.1 p.2 st f aq) (l.map λp=>(p.1,p.2.1))
 |[],_,_=>trivial
 |_::_,d,c=>⟨ZoJ X G d.1 c.1,Zj7 X G d.2 c.2⟩
theorem ZgK(X:K.In h)(G:h.Ns Yd mg)(y:Yl K Yd C=J (J (.ref ca)))(cl:Cls K ca){mt:Nat->Nat->Stmt}:∀{l:List Ml},All (λp=>Zjh K ca p.1 p.2.1 (mt p.2.2.2.1 p.2.2.2.2)) l->All (λp=>Chk kl (P.tb.map (·.1)) p.1 p.2.1 p.2.2.1 (mt p.2.2.2.1 p.2.2.2.2)) l->All (λp=>P.look (mnm C p.1)=J p.2.2.1) l->All (λp:Str×Str=>∃a f aq fd st q,mg p.1=J (.ref a)/\Cls K a/\Meth K a p.2 f/\P.look (mnm p.1 p.2)=J fd/\BodyOk K kl (P.tb.map (·.1)) p.2 q fd st f aq) (l.map λp=>(C,p.1))
 |[],_,_,_=>trivial
 |_::_,d,c,e=>⟨Zog X G y cl d.1 c.1 e.1,ZgK X G y cl d.2 c.2 e.2⟩
theorem ZhH(X:K.In h)(G:h.Ns Yd mg):∀{l:List Str},All (λx=>Yl K Yd x=J M) l->All (λx=>mg x=M) l
 |[],_=>trivial
 |_::_,d=>⟨PySem.W.mg_none_of X G d.1,ZhH X G d.2⟩
end
end IV
namespace IV
open PySem L2
set_option tactic.hygienic false
def ZgI(h:Str.ofString a=Str.ofString b):a=b:=by
 have e:∀s:String,(Str.ofString s).cps.toList=s.toList.map Char.toNat:=λs=>by show(cpsOfBytes 0 0 s.toByteArray.data.toList).toArray.toList=_;rw[cpsOfBytes_string]
 have R:=congrArg (λs:Str=>s.cps.toList) h;simp only[e]at R;have h2:a.toList=b.toList:=by
  have inj:∀{x y:Char},x.toNat=y.toNat->x=y:=λ{x y} q=>by have:x.val=y.val:=UInt32.toNat_inj.mp q;exact Char.ext this
  exact(List.map_inj_right λx y q=>inj q).mp R
 exact String.toList_inj.mp h2
@[simp]def ofString_eq(a b:String):(Str.ofString a=Str.ofString b)↔a=b:=⟨ZgI,λh=>h▸rfl⟩
def Un(k:γ):Type:=Unit
noncomputable def un:Un k:=()
def kz.bnd(r:kz α)(k:α->Hd->kz β)(u:Un k:=un):kz β:=r.bind k
@[simp]def Zr:kz.bnd (.ok a h) k u=k a h:=rfl
@[simp]def Ztw:kz.bnd (kz.bad:kz α) k u=.bad:=rfl
section
variable {T:Tb}{S:Ev}{h:Hd}
@[simp]def bind_ok:(kz.ok a h).bind k=k a h:=rfl
@[simp]def bind_bad:(kz.bad:kz α).bind k=.bad:=rfl
@[simp]def ofO_some:kz.ofO (J a) h=.ok a h:=rfl
@[simp]def ZkN:(kz.ok a h).plain=.ok a h:=rfl
@[simp]def ZmG{i}:ev T (.var i) S h=kz.ofO (S[i]?).join h:=rfl
@[simp]def Zri{d}:ev T (.cst d) S h=.ok d h:=rfl
@[simp]def Zi5{x}:ev T (.glo x) S h=kz.ofO (T.G x) h:=rfl
@[simp]def ZmH{op a b}:ev T (.bin op a b) S h=(ev T a S h).bnd λx R=>(ev T b S R).bnd λy h2=>opB op x y h2:=rfl
@[simp]def Zrj{op a b}:ev T (.cmp op a b) S h=(ev T a S h).bnd λx R=>(ev T b S R).bnd λy h2=>opC T.GD op x y h2:=rfl
@[simp] theorem Zun{a}:ev T (.neg a) S h=(ev T a S h).bnd λx R=>match x with
 |.int i=>.ok (.int (-i)) R
 |_=>.bad:=rfl
@[simp] theorem ZuC{a}:ev T (.nt a) S h=(ev T a S h).bnd λx R=>match x with
 |.bl b=>.ok (.bl (!b)) R
 |_=>.bad:=rfl
@[simp]def Zj6{es}:ev T (.ands es) S h=evAnd T es S h:=rfl
@[simp]def Zum{es}:ev T (.ors es) S h=evOr T es S h:=rfl
@[simp]def ZrG{e}:evAnd T (.cons e .nil) S h=ev T e S h:=rfl
@[simp] theorem ZdN{e e' r}:evAnd T (.cons e (.cons e' r)) S h=(ev T e S h).bnd λx R=>match x with
 |.bl Wr=>evAnd T (.cons e' r) S R
 |.bl Ws=>.ok (.bl Ws) R
 |_=>.bad:=rfl
@[simp]def Ztb{e}:evOr T (.cons e .nil) S h=ev T e S h:=rfl
@[simp] theorem Zta{e e' r}:evOr T (.cons e (.cons e' r)) S h=(ev T e S h).bnd λx R=>match x with
 |.bl Wr=>.ok (.bl Wr) R
 |.bl Ws=>evOr T (.cons e' r) S R
 |_=>.bad:=rfl
@[simp]def Zrh{c a b}:ev T (.ite c a b) S h=(tst T c S h).bnd λc R=>if c then ev T a S R else ev T b S R:=rfl
@[simp]def ZoE{es}:ev T (.tupl es) S h=(evs T es S h).bnd λxs R=>if xs.length<=sizeLine then .ok (.tup xs) R else .bad:=rfl
@[simp]def Zj4{es}:ev T (.lstl es) S h=(evs T es S h).bnd λxs R=>if xs.length<=sizeLine then ZaS (.lst xs) R else .bad:=rfl
@[simp]def Zj5{a i}:ev T (.ix a i) S h=(ev T a S h).bnd λx R=>(ev T i S R).bnd λy h2=>Zau T.GD x y h2:=rfl
@[simp]def Zpt{a lo hi}:ev T (.sl a lo hi) S h=(ev T a S h).bnd λx R=>(evo T lo S R).bnd λl h2=>(evo T hi S h2).bnd λu h3=>ZfM x l u h3:=rfl
@[simp]def Zrl{f es}:ev T (.blt f es) S h=(evs T es S h).bnd λxs R=>ZaJ T.GD f xs R:=rfl
@[simp]def ZgZ{f es}:ev T (.call f es) S h=(evs T es S h).bnd λxs R=>T.C f xs R:=rfl
@[simp]def ZoG{m o es}:ev T (.meth m o es) S h=(ev T o S h).bnd λx R=>if ZcJ x R then(evs T es S R).bnd λxs h2=>ZaP m x xs h2 else .bad:=rfl
@[simp]def ZoH{NC js it g c e}:ev T (.comp NC js it g c e) S h=(evi T it S h).bnd λw R=>(Zz w.src g (tsto T c) (ev T e) w.xs (Zbx js S) [] R).bnd λxs h2=>ZaS (.lst xs) h2:=rfl
@[simp]def Ztv{e d}:ev T (.maxd e d) S h=(ev T e S h).bnd λx R=>(ev T d S R).bnd λy h2=>Zkt x y h2:=rfl
@[simp] theorem Zs9{ps}:ev T (.dictl ps) S h=(evs T ps S h).bnd λxs R=>match Zb2 xs with
 |some kvs=>if kvs.length<=15 then ZaS (.dic (ZcV [] kvs)) R else .bad
 |none=>.bad:=rfl
@[simp]def Zrm{Cs o f}:ev T (.att Cs o f) S h=(ev T o S h).bnd λx R=>Zi0 Cs f x R:=rfl
@[simp]def Zs7{C es}:ev T (.mk C es) S h=(evs T es S h).bnd λxs R=>ZhJ T.C C xs R:=rfl
@[simp] theorem Zrf{C m o es}:ev T (.mcl C m o es) S h=(ev T o S h).bnd λx R=>match Za1 x R with
 |some (C',fs)=>if C'=C/\fs.lookup m=M then(evs T es S R).bnd λxs h2=>T.C (mnm C m) (x::xs) h2 else .bad
 |none=>.bad:=rfl
@[simp]def ZoF{e}:ev T (.trev e) S h=(ev T e S h).bnd λx R=>ZmS x R:=rfl
@[simp]def Zre{o e}:ev T (.tix o e) S h=(ev T o S h).bnd λx R=>if ZsV x then(ev T e S R).bnd λy h2=>Zlb x y h2 else .bad:=rfl
@[simp]def Zrg{o e}:ev T (.lix o e) S h=(ev T o S h).bnd λx R=>if ZcJ x R then(ev T e S R).bnd λy h2=>ZmU x y h2 else .bad:=rfl
@[simp]def ZrI{Cs o f e}:xs1 T (.seta Cs o f e) S h=(ev T e S h).bnd λd R=>(ev T o S R).bnd λx h2=>(Zhs Cs f x d h2).bnd λ_ h3=>.ok (.nx,S) h3:=rfl
@[simp] theorem ZrJ{Cs o f e}:xs1 T (.auga Cs o f e) S h=(ev T o S h).bnd λx R=>(Zi0 Cs f x R).bnd λv h2=>(ev T e S h2).bnd λy h3=>match v,y with
 |.int a,.int b=>if (Za1 x R).map (·.1)=(Za1 x h3).map (·.1)then(Zhs Cs f x (.int (a+b)) h3).bnd λ_ h4=>.ok (.nx,S) h4 else .bad
 |_,_=>.bad:=rfl
@[simp]def Zj2:evs T .nil S h=.ok [] h:=rfl
@[simp]def Zfm{e es}:evs T (.cons e es) S h=(ev T e S h).bnd λx R=>(evs T es S R).bnd λxs h2=>.ok (x::xs) h2:=rfl
@[simp]def Zs6:evo T M S h=.ok M h:=rfl
@[simp] theorem ZmF{e}:evo T (J e) S h=(ev T e S h).bnd λx R=>match x with
 |.int i=>.ok (J i) R
 |_=>.bad:=rfl
@[simp]def Zls{e}:tst T (.ex e) S h=(ev T e S h).bnd λx R=>kz.ofO (ZdA T.GD x R) R:=rfl
@[simp]def Zhn{ts}:tst T (.ands ts) S h=tstAnd T ts S h:=rfl
@[simp]def Zez{ts}:tst T (.ors ts) S h=tstOr T ts S h:=rfl
@[simp]def Zit{a}:tst T (.nt a) S h=(tst T a S h).bnd λc R=>.ok (!c) R:=rfl
@[simp]def ZpN{t}:tstAnd T (.one t) S h=tst T t S h:=rfl
@[simp]def ZdV{t ts}:tstAnd T (.cons t ts) S h=(tst T t S h).bnd λc R=>if c then tstAnd T ts S R else .ok Ws R:=rfl
@[simp]def ZrF{t}:tstOr T (.one t) S h=tst T t S h:=rfl
@[simp]def Zaa{t ts}:tstOr T (.cons t ts) S h=(tst T t S h).bnd λc R=>if c then .ok Wr R else tstOr T ts S R:=rfl
@[simp]def ZkA:tsto T M S h=.ok Wr h:=rfl
@[simp]def ZrE{t}:tsto T (J t) S h=tst T t S h:=rfl
@[simp]def ZgY{e}:evi T (.pl e) S h=(ev T e S h).bnd λx R=>kz.ofO (ZV x R) R:=rfl
@[simp] theorem ZoB{e}:evi T (.rng e) S h=(ev T e S h).bnd λx R=>match x with
 |.int j=>if ZaQ j then .ok ⟨M,ZW 0 j.toNat⟩ R else .bad
 |_=>.bad:=rfl
@[simp]def Zul{a b}:ev T (.rpn a b) S h=(ev T a S h).bnd λx R=>(shD x R).bnd λp R=>(ev T b S R).bnd λy h2=>(shD y h2).bnd λq h3=>.ok (.bl (!Wt (p=q))) h3:=rfl
@[simp]def ZoD{e}:evi T (.enu e) S h=(ev T e S h).bnd λx R=>kz.ofO ((Zf2 x R).map λw=>⟨w.src,Zcc w.xs⟩) R:=rfl
@[simp]def ZoC{e}:evi T (.rev e) S h=(ev T e S h).bnd λx R=>kz.ofO ((Zlj x R).map λw=>⟨w.src,w.xs.reverse⟩) R:=rfl
@[simp]def Zm3{e}:xs1 T (.ret e) S h=(ev T e S h).bnd λx R=>.ok (.rt x,S) R:=rfl
@[simp]def Zgv{g e}:xs1 T (.set g e) S h=(ev T e S h).bnd λx R=>(kz.ofO (Zbd g x S) R).bnd λρ1 h2=>.ok (.nx,ρ1) h2:=rfl
@[simp]def Zgw{o i e}:xs1 T (.put o i e) S h=(ev T e S h).bnd λx R=>(ev T o S R).bnd λy h2=>(ev T i S h2).bnd λz h3=>(Zak y z x h3).bnd λ_ h4=>.ok (.nx,S) h4:=rfl
@[simp]def Zm4{e}:xs1 T (.drp e) S h=(ev T e S h).bnd λ_ R=>.ok (.nx,S) R:=rfl
@[simp]def Zji{c a b}:xs1 T (.iff c a b) S h=(tst T c S h).bnd λt R=>if t then xs2 T a S R else xs2 T b S R:=rfl
@[simp]def Ztr{c b}:xs1 T (.whl c b) S h=Z9 (tst T c) (xs2 T b) T.L S h:=rfl
@[simp]def Zle{g it b}:xs1 T (.forr g it b) S h=(evi T it S h).bnd λw R=>ZP w.src g (xs2 T b) w.xs S R:=rfl
@[simp]def Ztq:xs2 T .nil S h=.ok (.nx,S) h:=rfl
@[simp] theorem ZeI{s r}:xs2 T (.cons s r) S h=(xs1 T s S h).bnd λp R=>match p with
 |(.nx,ρ1)=>xs2 T r ρ1 R
 |p=>.ok p R:=rfl
def Za(e:xs1 T s S h=.ok (.nx,ρ1) R):xs2 T (.cons s r) S h=xs2 T r ρ1 R:=by rw[ZeI,e];rfl
def Zc(e:xs1 T s S h=.ok (.rt d,ρ1) R):xs2 T (.cons s r) S h=.ok (.rt d,ρ1) R:=by rw[ZeI,e];rfl
@[simp]def Ztx{i d}:Zbd (.nm i) d S=J (S.set i (J d)):=rfl
@[simp]def ZmR{i j a b}:Zbd (.two i j) (.tup [a,b]) S=J ((S.set i (J a)).set j (J b)):=rfl
@[simp]def ZtV:Zd (.ok (.rt d,S) h)=.ok d h:=rfl
@[simp]def ZtW:Zd (.ok (.nx,S) h)=.ok .non h:=rfl
end
@[simp]def ZkE:seqOf (.tup xs) h=J xs:=rfl
@[simp]def ZsB:ZgG f (.int i) (.int j) h=.ok (.bl (f i j)) h:=rfl
section
variable {GD:Str->Option (List (Key×D))}{h:Hd}
@[simp]def ZdG{x y}:opC GD .Eq x y h=Zbu Ws x y h:=rfl
@[simp]def ZcT{x y}:opC GD .NotEq x y h=Zbu Wr x y h:=rfl
@[simp]def Zt9{i j}:opC GD .Lt (.int i) (.int j) h=.ok (.bl (Wt (i<j))) h:=rfl
@[simp]def Zua{i j}:opC GD .LtE (.int i) (.int j) h=.ok (.bl (Wt (i<=j))) h:=rfl
@[simp]def Zuc{i j}:opC GD .Gt (.int i) (.int j) h=.ok (.bl (Wt (j<i))) h:=rfl
@[simp]def Zud{i j}:opC GD .GtE (.int i) (.int j) h=.ok (.bl (Wt (j<=i))) h:=rfl
@[simp]def Zub{x}:opC GD .Is x .non h=.ok (.bl (Wt (x=.non))) h:=rfl
@[simp]def ZsD{x}:opC GD .IsNot x .non h=.ok (.bl (!Wt (x=.non))) h:=rfl
@[simp] theorem ZgH{s n}:opC GD .NotIn (.str s) (.kd n) h=match GD n with
 |some kvs=>.ok (.bl (!(ZU kvs (.inr s)).isSome)) h
 |none=>.bad:=by
 show ZbP GD Wr (.str s) (.kd n) h=_;unfold ZbP;simp only[seqOf,lstOf,dicOf,keyOf];cases GD n<;>rfl
def Ziq(ss:List Str):(ss.map D.str).all D.flat=Wr:=by rw[OC];intro x hx;obtain⟨s,_,rfl⟩:=List.mem_map.mp hx;rfl
def any_words(ss:List Str)(x:Str):((ss.map D.str).any λz=>eqF z (.str x))=Wt (x∈ss):=by
 induction ss with
 |nil=>rfl
 |cons s r ih=>
  rw[Op,YZ,ih];show((s==x)||Wt (x∈r))=_;by_cases e:s=x
  . subst e;simp
  . have:(s==x)=Ws:=by simpa using e
    rw[this];have e':¬ x=s:=λq=>e q.symm;simp[e']
def Zda{ss:List Str}{x:Str}:opC GD .In (.str x) (.tup (ss.map .str)) h=.ok (.bl (Wt (x∈ss))) h:=by show ZbP GD Ws (.str x) (.tup (ss.map .str)) h=_;unfold ZbP;rw[ZkE];simp only[Ziq,any_words];rfl
@[simp]def ZsA{xs i}:Zau GD (.tup xs) (.int i) h=kz.ofO (atI xs i) h:=rfl
@[simp]def Ztt{xs i}:Zau GD (.ro xs) (.int i) h=kz.ofO (atI xs i) h:=rfl
@[simp] theorem Zn6{n s}:Zau GD (.kd n) (.str s) h=match GD n with
 |some kvs=>kz.ofO (ZU kvs (.inr s)) h
 |none=>.bad:=rfl
def ZG{i k xs}(e:h[i]?=J (.lst xs)):Zau GD (.ref i) (.int k) h=kz.ofO (atI xs k) h:=by unfold Zau;simp only[seqOf,lstOf,e]
@[simp]def ZpA{α:Type}{x:α}{l:List α}:atI (x::l) 0=J x:=by simp[atI,ixN]
def Zas{α:Type}{l:List α}{k:Nat}:atI l (k:Int)=l[k]? := by
 unfold atI ixN;by_cases hk:k<l.length
 . simp[hk]
 . simp[hk]
@[simp]def ZuF{α:Type}{x y:α}{l:List α}:atI (x::y::l) 1=J y:=Zas (k:=1)
@[simp]def ZuE{α:Type}{x y z:α}{l:List α}:atI (x::y::z::l) 2=J z:=Zas (k:=2)
@[simp]def ZuD{α:Type}{x y z w:α}{l:List α}:atI (x::y::z::w::l) 3=J w:=Zas (k:=3)
def ZmW{α:Type}{l:List α}{x:α}:atI (l++[x]) (-1)=J x:=by
 unfold atI ixN;rw[if_neg (by decide),if_pos (by simp;lia)];have:(-1+((l++[x]).length:Int)).toNat=l.length:=by simp;lia
 simp only[Yw,this];simp
@[simp]def Zsz{xs l u}:ZfM (.tup xs) l u h=.ok (.tup (cutD xs l u)) h:=rfl
@[simp]def Zts{b}:ZdA GD (.bl b) h=J b:=rfl
@[simp]def ZrV{i}:ZdA GD (.int i) h=J (i != 0):=rfl
@[simp]def ZrT{xs}:ZdA GD (.tup xs) h=J (!xs.isEmpty):=rfl
@[simp]def ZrU:ZdA GD .non h=J Ws:=rfl
@[simp]def ZZ{i j}:opB .Add (.int i) (.int j) h=.ok (.int (i+j)) h:=rfl
@[simp]def Ztu{i j}:opB .Sub (.int i) (.int j) h=.ok (.int (i-j)) h:=rfl
def ZT(hj:0<j):opB .Mod (.int i) (.int j) h=.ok (.int (i%j)) h:=if_pos hj
def ZbD(hj:0<j/\j<1073741824):opB .FloorDiv (.int i) (.int j) h=.ok (.int (i/j)) h:=if_pos hj
def ZeF(hj:i.natAbs<2^2000/\j.natAbs<2^2000):opB .Mult (.int i) (.int j) h=.ok (.int (i*j)) h:=if_pos hj
def Zoa(hl:xs.length+ys.length<=sizeLine):opB .Add (.tup xs) (.tup ys) h=.ok (.tup (xs++ys)) h:=if_pos hl
@[simp]def Ze0:Zbu n (.str x) (.str y) h=.ok (.bl (if n then !Wt (x=y)else Wt (x=y))) h:=by
 have e:YO (.str x) (.str y)=Wt (x=y):=by show(x==y)=_;rw[Bool.beq_eq_decide_eq]
 have q:Zbu n (.str x) (.str y) h=if min (PyData.str x).depth (PyData.str y).depth<=1100 then .ok (.bl (if n then !YO (.str x) (.str y)else YO (.str x) (.str y))) h else .bad:=rfl;rw[q,if_pos (by simp[PyData.depth]),e]
@[simp]def Zbt:Zbu n (.int x) (.int y) h=.ok (.bl (if n then !Wt (x=y)else Wt (x=y))) h:=by
 have e:YO (.int x) (.int y)=Wt (x=y):=by show(x==y)=_;rw[Bool.beq_eq_decide_eq]
 have q:Zbu n (.int x) (.int y) h=if min (PyData.int x).depth (PyData.int y).depth<=1100 then .ok (.bl (if n then !YO (.int x) (.int y)else YO (.int x) (.int y))) h else .bad:=rfl;rw[q,if_pos (by simp[PyData.depth]),e]
end
def Zh(e:P.tb.lookup f=J fd)(hl:ds.length=fd.ps.length):run P (n+1) f ds h=Zd (xs2 ⟨P.G,P.GD,run P n,P.L⟩ fd.body (ZL fd.N ds) h):=by rw[run,show P.look f=J fd by unfold Pg.look;rw[e]];simp only;rw[if_pos hl]
def Zbh(hn:P.tb.lookup f=M)(e:P.ms.lookup f=J fd)(hl:ds.length=fd.ps.length):run P (n+1) f ds h=Zd (xs2 ⟨P.G,P.GD,run P n,P.L⟩ fd.body (ZL fd.N ds) h):=by rw[run,show P.look f=J fd by unfold Pg.look;rw[hn];exact e];simp only;rw[if_pos hl]
section
variable {h:Hd}{x:DO}{r:List DO}
@[simp]def ZaN:(h++x::r)[h.length]?=J x:=by simp
@[simp]def ZjD:(h++x::r).set h.length o=h++o::r:=by simp
end
@[simp]def Zoe:ZaS o h=.ok (.ref h.length) (h++[o]):=rfl
section
variable {h:Hd}
def Zdc(e:h[i]?=J (.lst ys))(hz:ys.length<sizeLine):ZaP .app (.ref i) [d] h=.ok .non (h.set i (.lst (ys++[d]))):=by simp only[ZaP,e,Zef,Zmk];rw[if_pos hz]
def Ze2(e:h[i]?=J (.lst (ys++[d]))):ZaP .pop (.ref i) [] h=.ok d (h.set i (.lst ys)):=by simp only[ZaP,e,Zef,ZqM];simp
def Zgg(e:h[i]?=J (.lst ys)):ZcJ (.ref i) h=Wr:=by simp[ZcJ,e]
def Znh(e:h[i]?=J (.lst ys)):ZdA GD (.ref i) h=J (!ys.isEmpty):=by simp[ZdA,e]
@[simp]def Zs2:ZP M g body [] S h=.ok (.nx,S) h:=rfl
def Zgi:ZP M g body (d::ds) S h=match Zbd g d S with
 |none=>.bad
 |some ρ1=>(body ρ1 h).bnd λp h2=>match p with
  |(.nx,ρ2)=>ZP M g body ds ρ2 h2
  |(.ct,ρ2)=>ZP M g body ds ρ2 h2
  |(.bk,ρ2)=>.ok (.nx,ρ2) h2
  |(.rt d,ρ2)=>.ok (.rt d,ρ2) h2:=rfl
def ZC:Zz src g test aG (d::ds) S ag h=if Wk.stays src h/\ag.length<sizeLine then match Zbd g d S with
 |none=>.bad
 |some ρ1=>(test ρ1 h).plain.bnd λb R=>if b then(aG ρ1 R).plain.bnd λx h2=>Zz src g test aG ds S (ag++[x]) h2 else Zz src g test aG ds S ag R
 else .bad:=rfl
def ZdU:Z9 test body (n+1) S h=(test S h).bnd λb R=>if b then(body S R).bnd λp h2=>match p with
 |(.nx,ρ2)=>Z9 test body n ρ2 h2
 |(.ct,ρ2)=>Z9 test body n ρ2 h2
 |(.bk,ρ2)=>.ok (.nx,ρ2) h2
 |(.rt d,ρ2)=>.ok (.rt d,ρ2) h2
 else .ok (.nx,S) R:=rfl
end
inductive Wd where
 |add|sub|mul|lt
 deriving DecidableEq
noncomputable def Wd.s:Wd->Str
 |.add=>O "+"
 |.sub=>O "-"
 |.mul=>O "*"
 |.lt=>O "<"
inductive T where
 |num (n:Int)|name (x:Str)|fn (x:Str) (e:T)|rcc (f x:Str) (e:T)|call (f a:T)|iff (c t e:T)|op (w:Wd) (a b:T)
noncomputable def T.d:T->D
 |.num n=>.tup [.str (O "num"),.int n]
 |.name x=>.tup [.str (O "name"),.str x]
 |.fn x e=>.tup [.str (O "fn"),.str x,e.d]
 |.rcc f x e=>.tup [.str (O "rec"),.str f,.str x,e.d]
 |.call f a=>.tup [.str (O "call"),f.d,a.d]
 |.iff c t e=>.tup [.str (O "if"),c.d,t.d,e.d]
 |.op w a b=>.tup [.str w.s,a.d,b.d]
noncomputable def T.parts:T->List T
 |.num _|.name _=>[]
 |.fn _ e|.rcc _ _ e=>[e]
 |.call f a=>[f,a]
 |.iff c t e=>[c,t,e]
 |.op _ a b=>[a,b]
noncomputable def T.places:T->List T
 |.num n=>[.num n]
 |.name x=>[.name x]
 |.fn x e=>.fn x e::e.places
 |.rcc f x e=>.rcc f x e::e.places
 |.call f a=>.call f a::(f.places++a.places)
 |.iff c t e=>.iff c t e::(c.places++(t.places++e.places))
 |.op w a b=>.op w a b::(a.places++b.places)
noncomputable def T.size(t:T):Nat:=t.places.length
def T.places_parts(t:T):t.places=t::t.parts.flatMap T.places:=by cases t<;>simp[T.places,T.parts]
set_option tactic.hygienic true
section
variable {U:Tb}{S:Ev}{h R:Hd}{f:Str}{as:List D}{r:kz D}
noncomputable abbrev Tb.say(U:Tb)(r:kz D):Tb:=⟨U.G,U.GD,λ_ _ _=>r,U.L⟩
def Zap(e:U.C f as R=r)(q:xs1 U s S h=xs1 (U.say (U.C f as R)) s S h)(z:xs1 (U.say r) s S h=y):xs1 U s S h=y:=by rw[q,e,z]
def Zdo(e:U.C f as R=r)(q:tst U s S h=tst (U.say (U.C f as R)) s S h)(z:tst (U.say r) s S h=y):tst U s S h=y:=by rw[q,e,z]
def Zt(e:tst U c S h=.ok Wr R):xs1 U (.iff c a b) S h=xs2 U a S R:=by rw[Zji,e];rfl
def Zg(e:tst U c S h=.ok Ws R):xs1 U (.iff c a b) S h=xs2 U b S R:=by rw[Zji,e];rfl
def ZA(q:ev U e S h=.ok d R):xs1 U (.ret e) S h=.ok (.rt d,S) R:=by rw[Zm3,q];rfl
def Zo(q:ev U e S h=.ok d R):xs1 U (.set (.nm i) e) S h=.ok (.nx,S.set i (J d)) R:=by rw[Zgv,q];rfl
def Zfe(q:evi U it S h=.ok w R):xs1 U (.forr g it b) S h=ZP w.src g (xs2 U b) w.xs S R:=by rw[Zle,q];rfl
def Ze(p:ev U a S h=.ok x R)(q:ev U b S R=.ok y h2):ev U (.bin op a b) S h=opB op x y h2:=by rw[ZmH,p];simp only[Zr,q]
def Zv(p:ev U a S h=.ok x R)(q:ev U b S R=.ok y h2):ev U (.cmp op a b) S h=opC U.GD op x y h2:=by rw[Zrj,p];simp only[Zr,q]
def ZaH(q:ev U e S h=.ok (.bl b) R):tst U (.ex e) S h=.ok b R:=by rw[Zls,q];rfl
def Zk{b c:Bool}{y:kz Bool}(q:y=.ok b R)(e:b=c):y=.ok c R:=e▸q
noncomputable def hdS:Sxs->Sx
 |.cons s _=>s
 |.nil=>.pas
noncomputable def tlS:Sxs->Sxs
 |.cons _ r=>r
 |.nil=>.nil
def rt1(e:xs1 U (hdS ss) S h=.ok (.rt d,ρ1) h2)(hs:ss=.cons (hdS ss) (tlS ss)):Zd (xs2 U ss S h)=.ok d h2:=by rw[hs,Zc e];rfl
def nx1(e:xs1 U (hdS ss) S h=.ok (.nx,ρ1) h2)(hs:ss=.cons (hdS ss) (tlS ss)):xs2 U ss S h=xs2 U (tlS ss) ρ1 h2:=by rw[hs,Za e];rfl
def Zb(p:ev U a S h=.ok x R)(q:evs U es S R=.ok xs h2):evs U (.cons a es) S h=.ok (x::xs) h2:=by rw[Zfm,p,Zr,q];rfl
def Zrk(p:evs U es S h=.ok xs R):ev U (.call g es) S h=U.C g xs R:=by rw[ZgZ,p];rfl
def Zgn(a:atI xs z=J d)(p:evs U es S h=.ok xs h)(q:ev U e S (h++[.lst xs])=.ok (.int z) (h++[.lst xs]))(hz:xs.length<=1000):ev U (.ix (.lstl es) e) S h=.ok d (h++[.lst xs]):=by rw[Zj5,Zj4,p,Zr,if_pos (OE hz (by decide)),Zoe,Zr,q,Zr,ZG (xs:=xs) (by simp),a];rfl
def Zw(e:U.C g xs R=y)(p:evs U es S h=.ok xs R):ev U (.call g es) S h=y:=(Zrk p).trans e
def ZX(p:evs U es S h=.ok xs R)(hz:xs.length<=1000):ev U (.tupl es) S h=.ok (.tup xs) R:=by rw[ZoE,p,Zr,if_pos (OE hz (by decide))]
def ZR(p:ev U a S h=.ok (.str x) R)(q:ev U b S R=.ok (.str y) h2):tst U (.ex (.cmp .Eq a b)) S h=.ok (Wt (x=y)) h2:=ZaH ((Zv p q).trans (by rw[ZdG,Ze0];rfl))
def ZdO(p:ev U a S h=.ok (.int x) R)(q:ev U b S R=.ok (.int y) h2):tst U (.ex (.cmp .Eq a b)) S h=.ok (Wt (x=y)) h2:=ZaH ((Zv p q).trans (by rw[ZdG,Zbt];rfl))
def ZF(p:ev U a S h=.ok x R)(q:ev U b S R=.ok y h2):ev U (.ix a b) S h=Zau U.GD x y h2:=by rw[Zj5,p,Zr,q,Zr]
def ZpB(p:tst U a S h=.ok Wr R)(q:tst U b S R=.ok c h2):tst U (.ands (.cons a (.one b))) S h=.ok c h2:=by rw[Zhn,ZdV,p];exact q
def Ztm(p:tst U a S h=.ok Ws R):tst U (.ands (.cons a (.one b))) S h=.ok Ws R:=by rw[Zhn,ZdV,p];rfl
def Zqx(p:tst U a S h=.ok Wr R):tst U (.ors (.cons a (.one b))) S h=.ok Wr R:=by rw[Zez,Zaa,p];rfl
def ZeZ(p:tst U a S h=.ok Ws R)(q:tst U b S R=.ok c h2):tst U (.ors (.cons a (.one b))) S h=.ok c h2:=by rw[Zez,Zaa,p];exact q
end
end IV
namespace Gn
open PySem L2 IV
set_option tactic.hygienic false
def Zab:Sxs:=.w (.iff (.x .NotIn (.ix V0 K0) (.glo (O "FORMS"))) (.o (.ret (.tupl .n))) .n) (.ret (.sl V0 (J (.bin .Add K1 (.ix (.ix (.glo (O "FORMS")) (.ix V0 K0)) K0))) M))
def ZbI:Fd:=fd_ 1 ["E"] Zab
def Zeb:Sxs:=.z (.s 2 (.bin .Add (.bin .Pow K10 K30) (.ci 57))) (.s 3 (.bin .Mult (.bin .Mod V0 V2) (.ci 271828182845904523536028747135))) (.s 3 (.bin .Add V3 (.bin .Mult (.bin .Mult V1 V1) (.ci 314159265358979323846264338327)))) (.ret (.bin .Mod (.bin .Add V3 (.ci 577215664901532860606512090082)) V2))
def Zb9:Fd:=fd_ 2 ["_law_cell","_law_k","_law_big","_law_number_here"] Zeb
def ZcX:Sxs:=.z (.s 1 (.ix V0 K1)) (.put V0 K1 (.bin .Add V1 K1)) (.iff (.x .Lt V1 (.blt .len (.o (.ix V0 K0)))) (.o (.ret (.ix (.ix V0 K0) V1))) .n) (.ret (.f "_law_mixed" (.w V1 K7)))
def Zfj:Fd:=fd_ 1 ["_law_state","_law_at"] ZcX
def Zea:Sxs:=.c (.s 1 (.Ci_ "abcdefghijklmnopqrstuvwxyz")) (.c (.s 2 (.bin .Add K1 (.bin .Mod V0 K8))) (.c (.s 3 (.bin .Mod (.bin .FloorDiv V0 K8) V2)) (.c (.s 4 (.bin .FloorDiv V0 (.ci 64))) (.y (.s 5 (.Ci_ "")) (.forr (.nm 6) (.rng K8) (.w (.s 5 (.bin .Add V5 (.ix V1 (.bin .Mod V4 K26)))) (.s 4 (.bin .FloorDiv V4 K26)))) (.s 7 (.lstl .n)) (.forr (.nm 6) (.rng K5) (.y (.s 8 (.ix V1 (.bin .Mod (.bin .Add V4 (.bin .Mult K5 V6)) K26))) (.s 9 (.bin .Add (.bin .Add (.sl V5 M (J V3)) V8) (.sl V5 (J (.bin .Add V3 K1)) (J V2)))) (.iff (.q (.bin .Mod (.bin .FloorDiv V4 K26) K4) K1) (.o (.s 9 (.sl V5 M (J (.bin .Sub K8 V6))))) .n) (.iff (.x .In V9 (.tupl (.z (.Ci_ "fn") (.Ci_ "rec") (.Ci_ "call") (.Ci_ "if")))) (.o (.s 9 (.bin .Mult (.Ci_ "q") (.blt .len (.o V9))))) .n) (.drp (.meth .app V7 (.o V9))))) (.ret V7)))))
def Zb8:Fd:=fd_ 1 ["_law_number_here","_law_letters","_law_long","_law_place","_law_rest","_law_base","_law_k","_law_found","_law_sign","_law_word"] Zea
def Zd9:Sxs:=.u (.s 2 (.dictl .n)) (.forr (.two 3 4) (.pl V0) (.o (.put V2 V3 V4))) (.ret (.comp [O "_law_name",O "_law_wish",O "_law_known"] [M,J 1,J 2] (.pl (.blt .srt (.o V2))) (.nm 0) (J (.q (.ix V2 V0) V1)) V0))
def Zb7:Fd:=fd_ 2 ["_law_scope","_law_wish","_law_known","_law_name","_law_held"] Zd9
def Zae:Sxs:=.u (.iff (.q V0 (.Ci_ "n")) (.o (.ret (.tupl (.w (.Ci_ "num") (.ix (.lstl (.z K0 K1 K2 (.bin .Mod (.bin .FloorDiv V1 K7) (.ci 1000000)))) (.bin .Mod V1 K4)))))) .n) (.iff (.q V0 (.Ci_ "f")) (.o (.ret (.tupl (.u (.Ci_ "fn") (.Ci_ "w") (.tupl (.u (.Ci_ "-") (.tupl (.w (.Ci_ "name") (.Ci_ "w"))) (.tupl (.w (.Ci_ "num") (.bin .Mod V1 K3))))))))) .n) (.ret (.tupl (.u (.Ci_ "fn") (.Ci_ "w") (.tupl (.u (.Ci_ "call") (.tupl (.w (.Ci_ "name") (.Ci_ "w"))) (.tupl (.w (.Ci_ "num") (.bin .Mod V1 K5))))))))
def Zd3:Fd:=fd_ 2 ["_law_wish","_law_number_here"] Zae
def ZaA:Sx:=.s 6 (.ix V4 (.bin .Mod V1 K5))
def Z4:Sx:=.iff (.q V0 (.Ci_ "g")) (.o (.ret (.tupl (.u (.Ci_ "fn") V6 (.f "_law_any" (.y (.Ci_ "n") (.bin .Add V2 (.lstl (.o (.tupl (.w V6 (.Ci_ "f")))))) V3 V4 V5)))))) .n
def Z3:Sx:=.iff (.q (.bin .Mod (.bin .FloorDiv V1 K5) K3) K0) (.o (.ret (.tupl (.u (.Ci_ "fn") V6 (.f "_law_any" (.y (.Ci_ "n") (.bin .Add V2 (.lstl (.o (.tupl (.w V6 (.Ci_ "n")))))) V3 V4 V5)))))) .n
def Zaz:Sx:=.s 7 (.ix V4 (.bin .Mod (.bin .Add (.bin .Add (.bin .Mod V1 K5) K1) (.bin .Mod (.bin .FloorDiv V1 K15) K4)) K5))
def Zay:Sx:=.s 8 (.bin .Add V2 (.lstl (.w (.tupl (.w V7 (.Ci_ "f"))) (.tupl (.w V6 (.Ci_ "n"))))))
def Zax:Sx:=.s 9 (.tupl (.u (.Ci_ "call") (.tupl (.w (.Ci_ "name") V7)) (.tupl (.u (.Ci_ "-") (.tupl (.w (.Ci_ "name") V6)) (.tupl (.w (.Ci_ "num") K1))))))
def Z2:Sx:=.iff (.q (.bin .Mod (.bin .FloorDiv V1 (.ci 60)) K3) K0) (.o (.s 9 (.f "_law_any" (.y (.Ci_ "n") V8 V3 V4 V5)))) (.o (.iff (.q (.bin .Mod (.bin .FloorDiv V1 (.ci 60)) K3) K1) (.o (.s 9 (.tupl (.u (.ix (.lstl (.w (.Ci_ "+") (.Ci_ "*"))) (.bin .Mod (.bin .FloorDiv V1 (.ci 180)) K2)) (.f "_law_any" (.y (.Ci_ "n") V8 V3 V4 (.bin .Sub V5 K1))) V9)))) .n))
def Z1:Sx:=.ret (.tupl (.z (.Ci_ "rec") V7 V6 (.tupl (.z (.Ci_ "if") (.tupl (.w (.Ci_ "name") V6)) V9 (.f "_law_any" (.y (.Ci_ "n") V8 V3 V4 (.bin .Sub V5 K1)))))))
def Zcl:Sxs:=.c ZaA (.c Z4 (.c Z3 (.y Zaz Zay Zax Z2 Z1)))
def ZM:Fd:=fd_ 6 ["_law_wish","_law_rest","_law_scope","_law_state","_law_names_here","_law_room","_law_x","_law_f","_law_inner","_law_again"] Zcl
def Zci:Sx:=.s 5 (.bin .Mod V0 K6)
def Za5:Sx:=.iff (.q V5 K0) (.o (.ret (.f "_law_plain" (.w (.Ci_ "n") (.bin .FloorDiv V0 K6))))) .n
def Za4:Sx:=.iff (.x .Lt V5 K3) (.w (.s 6 (.f "_law_any" (.y (.Ci_ "n") V1 V2 V3 V4))) (.ret (.tupl (.u (.ix (.lstl (.z (.Ci_ "+") (.Ci_ "-") (.Ci_ "*") (.Ci_ "<"))) (.bin .Mod (.bin .FloorDiv V0 K6) K4)) V6 (.f "_law_any" (.y (.Ci_ "n") V1 V2 V3 V4)))))) .n
def Zch:Sx:=.s 7 (.ix (.lstl (.u (.Ci_ "f") (.Ci_ "f") (.Ci_ "g"))) (.bin .Sub V5 K3))
def Zcg:Sx:=.s 8 (.f "_law_any" (.y V7 V1 V2 V3 V4))
def Zcf:Sx:=.ret (.tupl (.u (.Ci_ "call") V8 (.f "_law_any" (.y (.ix (.dictl (.z (.Ci_ "f") (.Ci_ "n") (.Ci_ "g") (.Ci_ "f"))) V7) V1 V2 V3 V4))))
def ZbK:Sxs:=.c Zci (.y Za5 Za4 Zch Zcg Zcf)
def Zdg:Fd:=fd_ 5 ["_law_rest","_law_scope","_law_state","_law_names_here","_law_room","_law_way","_law_one","_law_wish","_law_fun"] ZbK
def ZaG:Sx:=.put V2 K2 (.bin .Sub (.ix V2 K2) K1)
def Zbg:Sx:=.s 5 (.f "_law_next" (.o V2))
def ZaF:Sx:=.iff (.q (.bin .Mod V5 K29) K0) (.o (.s 0 (.ix (.lstl (.u (.Ci_ "n") (.Ci_ "f") (.Ci_ "g"))) (.bin .Mod (.bin .FloorDiv V5 K29) K3)))) .n
def Zbf:Sx:=.s 6 (.bin .FloorDiv V5 (.ci 87))
def ZaE:Sx:=.s 7 (.f "_law_there" (.w V1 V0))
def ZaD:Sx:=.iff (.ands (.c (.nq V7 (.lstl .n)) (.one (.q (.bin .Mod V6 K3) K0)))) (.o (.ret (.tupl (.w (.Ci_ "name") (.ix V7 (.bin .Mod (.bin .FloorDiv V6 K3) (.blt .len (.o V7)))))))) .n
def Zaf:Sx:=.iff (.ors (.c (.x .Lt V4 K1) (.one (.x .Lt (.ix V2 K2) K0)))) (.o (.ret (.f "_law_plain" (.w V0 (.bin .FloorDiv V6 K3))))) .n
def Zbe:Sx:=.s 6 (.bin .FloorDiv V6 K30)
def ZaC:Sx:=.iff (.q (.bin .Mod V6 K8) K0) (.u (.s 8 (.f "_law_any" (.y (.Ci_ "n") V1 V2 V3 (.bin .Sub V4 K1)))) (.s 9 (.f "_law_any" (.y V0 V1 V2 V3 (.bin .Sub V4 K1)))) (.ret (.tupl (.z (.Ci_ "if") V8 V9 (.f "_law_any" (.y V0 V1 V2 V3 (.bin .Sub V4 K1))))))) .n
def Zar:Sx:=.iff (.q V0 (.Ci_ "n")) (.o (.ret (.f "_law_number" (.y (.bin .FloorDiv V6 K8) V1 V2 V3 (.bin .Sub V4 K1))))) .n
def ZaW:Sx:=.ret (.f "_law_function" (.c V0 (.y (.bin .FloorDiv V6 K8) V1 V2 V3 (.bin .Sub V4 K1))))
def Zla:Sxs:=.c ZaG (.c Zbg (.c ZaF (.c Zbf (.c ZaE (.c ZaD (.y Zaf Zbe ZaC Zar ZaW))))))
def Zcy:Fd:=fd_ 5 ["_law_wish","_law_scope","_law_state","_law_names_here","_law_room","_law_number_here","_law_rest","_law_there_here","_law_asked_of","_law_first"] Zla
def Zce:Sxs:=.o (.ret (.bin .Add K1 (.blt .sum (.o (.comp [O "_law_part"] [M] (.pl V0) (.nm 0) (J (.ex (.blt .isi (.w V0 (.cst (.ty "tuple")))))) (.f "_law_width" (.o V0)))))))
def Zbb:Fd:=fd_ 1 ["_law_told"] Zce
def Zc1:Sxs:=.o (.ret (.maxd (.comp [O "_law_part"] [M] (.pl V0) (.nm 0) (J (.ex (.blt .isi (.w V0 (.cst (.ty "tuple")))))) (.bin .Add K1 (.f "_law_deep" (.o V0)))) K0))
def ZbJ:Fd:=fd_ 1 ["_law_told"] Zc1
def Z8:Sx:=.s 2 (.comp [O "_law_k",O "_law_cell"] [M,M] (.enu (.sl V0 (J V1) M)) (.two 0 1) M (.f "_law_mixed" (.w V1 (.bin .Add V0 K2))))
def ZbV:Sx:=.s 3 (.lstl (.u V2 K0 K26))
def ZbU:Sx:=.s 4 (.f "_law_names" (.o (.f "_law_next" (.o V3))))
def ZbT:Sx:=.s 5 (.f "_law_any" (.y (.Ci_ "n") (.lstl .n) V3 V4 K7))
def ZaL:Sx:=.forr (.nm 6) (.rng K2) (.o (.iff (.x .Lt (.f "_law_width" (.o V5)) (.ci 50)) (.w (.put V3 K2 K12) (.s 5 (.tupl (.u (.Ci_ "+") V5 (.f "_law_any" (.y (.Ci_ "n") (.lstl .n) V3 V4 K6)))))) .n))
def ZaK:Sx:=.iff (.ors (.c (.x .Gt (.f "_law_width" (.o V5)) (.ci 100)) (.one (.x .Gt (.f "_law_deep" (.o V5)) K20)))) (.o (.s 5 (.f "_law_plain" (.w (.Ci_ "n") (.f "_law_next" (.o V3)))))) .n
def ZbS:Sx:=.ret V5
def ZfW:Sxs:=.c Z8 (.c ZbV (.y ZbU ZbT ZaL ZaK ZbS))
def ZcM:Fd:=fd_ 2 ["_law_script","_law_start","_law_cells","_law_state","_law_names_here","_law_told","_law_k"] ZfW
noncomputable def ZcK:List (Key×D):=[(.inr (O "fn"),.tup [.int 1,.int 1]),(.inr (O "rec"),.tup [.int 2,.int 1]),(.inr (O "call"),.tup [.int 0,.int 2]),(.inr (O "if"),.tup [.int 0,.int 3]),(.inr (O "+"),.tup [.int 0,.int 2]),(.inr (O "-"),.tup [.int 0,.int 2]),(.inr (O "*"),.tup [.int 0,.int 2]),(.inr (O "<"),.tup [.int 0,.int 2])]
structure Tre(P:Pg):Prop where
 parts:P.tb.lookup (O "parts_of")=J ZbI
 g:P.G (O "FORMS")=J (.kd (O "FORMS"))
 gd:P.GD (O "FORMS")=J ZcK
 big:1000000<=P.L
def ZeG(H:Tre P)(hU:U.G=P.G/\U.GD=P.GD)(q:ev U e S h=.ok (.str w) h)(f:ZU ZcK (.inr w)=x):tst U (.ex (.cmp .NotIn e (.glo (O "FORMS")))) S h=.ok (!x.isSome) h:=by
 have g:ev U (.glo (O "FORMS")) S h=.ok (.kd (O "FORMS")) h:=by rw[Zi5,hU.1,H.g];rfl
 refine ZaH ((Zv q g).trans ?_);rw[ZgH,hU.2,H.gd];simp only[f]
def Zoz(H:Tre P)(hU:U.G=P.G/\U.GD=P.GD)(q:ev U e S h=.ok (.str w) h)(f:ZU ZcK (.inr w)=J x):ev U (.ix (.glo (O "FORMS")) e) S h=.ok x h:=by
 have g:ev U (.glo (O "FORMS")) S h=.ok (.kd (O "FORMS")) h:=by rw[Zi5,hU.1,H.g];rfl
 rw[Zj5,g,Zr,q,Zr,Zn6,hU.2,H.gd];simp only[f];rfl
def ZhS:ev U (.ix (.var 0) (.ci 0)) (J (.tup (.str w::ds))::S) h=.ok (.str w) h:=by show kz.ofO (atI (D.str w::ds) 0) h=_;rw[ZpA];rfl
def ZmD(H:Tre P)(hU:U.G=P.G/\U.GD=P.GD)(e:ZU ZcK (.inr w)=J (.tup [.int a,.int b])):ev U (.bin .Add (.ci 1) (.ix (.ix (.glo (O "FORMS")) (.ix (.var 0) (.ci 0))) (.ci 0))) [J (.tup (.str w::ds))] h=.ok (.int (1+a)) h:=by refine(Ze (x:=.int 1) (y:=.int a) rfl ?_).trans rfl;rw[Zj5,Zoz H hU ZhS e];rfl
def Zj3(q:ev U e S h=.ok (.int l) h):evo U (J e) S h=.ok (J l) h:=by rw[ZmF,q];rfl
def Zpj(p:ev U a S h=.ok x h)(q:evo U lo S h=.ok l h)(r:evo U hi S h=.ok u h):ev U (.sl a lo hi) S h=ZfM x l u h:=by simp only[Zpt,p,Zr,q,r]
def ZhD(H:Tre P)(n:Nat)(h:Hd)(w:Str)(ds:List D)(e:ZU ZcK (.inr w)=M):run P (n+1) (O "parts_of") [.tup (.str w::ds)] h=.ok (.tup []) h:=by rw[Zh H.parts rfl];show Zd (xs2 (P.tbl n) Zab [J (.tup (.str w::ds))] h)=_;rw[Zab,Zc ((Zt (ZeG H ⟨rfl,rfl⟩ ZhS e)).trans (Zc (ZA (d:=.tup []) rfl)))];rfl
def Zbs(H:Tre P)(n:Nat)(h:Hd)(w:Str)(ds:List D)(a b:Int)(e:ZU ZcK (.inr w)=J (.tup [.int a,.int b])):run P (n+1) (O "parts_of") [.tup (.str w::ds)] h=.ok (.tup (cutD (.str w::ds) (J (1+a)) M)) h:=by
 rw[Zh H.parts rfl];show Zd (xs2 (P.tbl n) Zab [J (.tup (.str w::ds))] h)=_;have q:=ZmD H (U:=P.tbl n) ⟨rfl,rfl⟩ (ds:=ds) (h:=h) e;have r:ev (P.tbl n) (.sl (.var 0) (J (.bin .Add (.ci 1) (.ix (.ix (.glo (O "FORMS")) (.ix (.var 0) (.ci 0))) (.ci 0)))) M) [J (.tup (.str w::ds))] h=.ok (.tup (cutD (.str w::ds) (J (1+a)) M)) h:=by exact(Zpj (a:=.var 0) (x:=.tup (.str w::ds)) rfl (Zj3 q) rfl).trans rfl
 rw[Zab,Za ((Zg (ZeG H ⟨rfl,rfl⟩ ZhS e)).trans rfl),Zc (ZA r)];rfl
def ZeB(H:Tre P)(n:Nat)(t:T)(h:Hd):run P (n+1) (O "parts_of") [t.d] h=.ok (.tup (t.parts.map T.d)) h:=by
 cases t with
 |num z=>exact ZhD H n h (O "num") _ rfl
 |name x=>exact ZhD H n h (O "name") _ rfl
 |fn x e=>exact Zbs H n h (O "fn") _ 1 1 rfl
 |rcc f x e=>exact Zbs H n h (O "rec") _ 2 1 rfl
 |call f a=>exact Zbs H n h (O "call") _ 0 2 rfl
 |iff c a b=>exact Zbs H n h (O "if") _ 0 3 rfl
 |op w a b=>exact Zbs H n h w.s _ 0 2 (by cases w<;>rfl)
end Gn
namespace IV
open PySem L2
section
variable {U:Tb}{S:Ev}{h R h2:Hd}
def Zek(p:ev U o S h=.ok (.ref i) R)(l:R[i]?=J (.lst ys))(q:evs U es S R=.ok xs h2)(e:ZaP m (.ref i) xs h2=r):ev U (.meth m o es) S h=r:=by rw[ZoG,p,Zr,Zgg l,if_pos rfl,q];exact e
def Zad(q:ev U e S h=.ok d R):xs1 U (.drp e) S h=.ok (.nx,S) R:=by rw[Zm4,q];rfl
def Zcb(p:ev U o S h=.ok (.ref i) R)(l:R[i]?=J (.ins C fs))(f:fs.lookup m=M)(q:evs U es S R=.ok xs h2)(e:U.C (mnm C m) (.ref i::xs) h2=r):ev U (.mcl C m o es) S h=r:=by rw[Zrf,p,Zr,show Za1 (.ref i) R=J (C,fs) by simp[Za1,l]];simp only[f,and_self,if_true,q];exact e
def Zfn(p:evi U it S h=.ok w R)(q:Zz w.src g (tsto U c) (ev U e) w.xs (Zbx js S) [] R=.ok xs h2):ev U (.comp NC js it g c e) S h=.ok (.ref h2.length) (h2++[.lst xs]):=by rw[ZoH,p,Zr,q];rfl
def Zrc(p:ev U e S h=.ok (.tup xs) R):evi U (.pl e) S h=.ok ⟨M,xs⟩ R:=by rw[ZgY,p];rfl
def Zel(p:evs U es S h=.ok xs R)(hz:xs.length<=1000):ev U (.lstl es) S h=.ok (.ref R.length) (R++[.lst xs]):=by rw[Zj4,p,Zr,if_pos (OE hz (by decide))];rfl
def ZcC(p:evs U es S h=.ok xs R)(q:ZaJ U.GD f xs R=r):ev U (.blt f es) S h=r:=by rw[Zrl,p];exact q
def Zgd(e:h[i]?=J (.lst ys)):ZaJ GD .len [.ref i] h=.ok (.int ys.length) h:=by simp only[ZaJ,ZmV,seqOf,lstOf,e];rfl
def Zho(p:ev U e S h=.ok (.ref i) R)(l:R[i]?=J (.lst ys)):tst U (.ex e) S h=.ok (!ys.isEmpty) R:=by rw[Zls,p,Zr,Znh l];rfl
def Zey(e:test S h=.ok Wr R)(q:body S R=.ok (.nx,ρ1) h2):Z9 test body (n+1) S h=Z9 test body n ρ1 h2:=by rw[ZdU,e,Zr,if_pos rfl,q];rfl
def Zgy(e:test S h=.ok Ws R):Z9 test body (n+1) S h=.ok (.nx,S) R:=by rw[ZdU,e];rfl
def Zs1(p:ev U a S h=.ok (.int x) R)(q:ev U b S R=.ok (.int y) h2):tst U (.ex (.cmp .Gt a b)) S h=.ok (Wt (y<x)) h2:=ZaH (Zv p q)
def Zol(p:ev U a S h=.ok (.int x) R)(q:ev U b S R=.ok (.int y) h2):tst U (.ex (.cmp .Lt a b)) S h=.ok (Wt (x<y)) h2:=ZaH (Zv p q)
def Zi1(b:Zbd g d S=J ρ1)(q:body ρ1 h=.ok (.nx,ρ2) h2):ZP M g body (d::ds) S h=ZP M g body ds ρ2 h2:=by rw[Zgi,b];simp only;rw[q];rfl
end
end IV
section
set_option tactic.hygienic false
set_option exponentiation.threshold 3000
namespace Gn
open PySem L2 IV
def Up(i:Nat)(h h':Hd):Prop:=h.length<=h'.length/\∀m,m<h.length->m≠i->h'[m]?=h[m]?
def Up.refl:Up i h h:=⟨Oq _,λ_ _ _=>rfl⟩
theorem Up.trans(x:Up i a b)(y:Up i b c):Up i a c:=⟨OE x.1 y.1,λm R h2=>(y.2 m (Ot R x.1) h2).trans (x.2 m R h2)⟩
theorem Up.set:Up i h (h.set i o):=⟨by simp,λm _ h2=>by rw[Oc (YK h2)]⟩
def Up.app:Up i h (h++g):=⟨by simp,λm R _=>Oe R⟩
def Zj{h:Hd}(e:h[i]?=J o):i<h.length:=(Ob.mp e).1
def Up.at{i m:Nat}(u:Up i h h')(e:h[m]?=J o)(ne:m≠i):h'[m]?=J o:=(u.2 m (Zj e) ne).trans e
def Alk(P:Pg)(f:Str)(fd:Fd):Prop:=∃ps N,ps.length=fd.ps.length/\N.length=fd.N.length/\P.tb.lookup f=J ⟨ps,N,fd.body⟩
def Alk.same(e:P.tb.lookup f=J fd):Alk P f fd:=⟨fd.ps,fd.N,rfl,rfl,e⟩
def ZeA(e:Alk P f fd)(hl:ds.length=fd.ps.length):run P (n+1) f ds h=Zd (xs2 ⟨P.G,P.GD,run P n,P.L⟩ fd.body (ZL fd.N ds) h):=by obtain⟨ps,N,R,h2,e⟩:=e;rw[Zh e (hl.trans R.symm)];unfold ZL;rw[h2]
structure Mkr(P:Pg):Prop where
 mixed:P.tb.lookup (O "_law_mixed")=J Zb9
 next:P.tb.lookup (O "_law_next")=J Zfj
 names:P.tb.lookup (O "_law_names")=J Zb8
 there:P.tb.lookup (O "_law_there")=J Zb7
 plain:P.tb.lookup (O "_law_plain")=J Zd3
 function:Alk P (O "_law_function") ZM
 number:Alk P (O "_law_number") Zdg
 any:Alk P (O "_law_any") Zcy
 width:P.tb.lookup (O "_law_width")=J Zbb
 deep:P.tb.lookup (O "_law_deep")=J ZbJ
 program:Alk P (O "_law_program") ZcM
noncomputable def big:Int:=1000000000000000000000000000057
def mixed(c k:Int):Int:=(c%big*271828182845904523536028747135+k*k*314159265358979323846264338327+577215664901532860606512090082)%big
def Zac(h:-(2^128)<i)(h2:i<2^128):i.natAbs<2^2000:=by
 have:i.natAbs<2^128:=by lia
 exact Ot this (Nat.pow_le_pow_right (by decide) (by decide))
def ZkB(hk:-(2^60)<k/\k<2^60):0<=k*k/\k*k<2^120:=by
 have a:k.natAbs<2^60:=by lia
 have b:k.natAbs*k.natAbs<2^60*2^60:=Nat.mul_lt_mul'' a a;have c2:((k.natAbs*k.natAbs:Nat):Int)=k*k:=Int.natAbs_mul_self;rw[<-c2];constructor
 . lia
 . have:((k.natAbs*k.natAbs:Nat):Int)<((2^60*2^60:Nat):Int):=Int.ofNat_lt.mpr b;exact this
def Zjx(H:Mkr P)(n:Nat)(c k:Int)(h:Hd)(hk:-(2^60)<k/\k<2^60):run P (n+1) (O "_law_mixed") [.int c,.int k] h=.ok (.int (mixed c k)) h:=by
 rw[Zh H.mixed rfl];have hp:opB .Pow (.int 10) (.int 30) h=.ok (.int 1000000000000000000000000000000) h:=by show(if (0:Int)<=30/\(30:Int)<=1000000/\(10:Int).natAbs<2^64 then kz.ok (D.int (10^(30:Int).toNat)) h else kz.bad)=_;rw[if_pos (by decide)];rfl
 have R:0<=c%1000000000000000000000000000057/\c%1000000000000000000000000000057<1000000000000000000000000000057:=⟨Int.emod_nonneg _ (by decide),Int.emod_lt_of_pos _ (by decide)⟩
 have gW:=ZkB hk;have e1:opB .Mod (.int c) (.int 1000000000000000000000000000057) h=.ok (.int (c%1000000000000000000000000000057)) h:=ZT (by decide);have e2:opB .Mult (.int (c%1000000000000000000000000000057)) (.int 271828182845904523536028747135) h=.ok (.int (c%1000000000000000000000000000057*271828182845904523536028747135)) h:=ZeF ⟨Zac (by lia) (by lia),Zac (by decide) (by decide)⟩;have e3:opB .Mult (.int k) (.int k) h=.ok (.int (k*k)) h:=ZeF ⟨Zac (by lia) (by lia),Zac (by lia) (by lia)⟩;have e4:opB .Mult (.int (k*k)) (.int 314159265358979323846264338327) h=.ok (.int (k*k*314159265358979323846264338327)) h:=ZeF ⟨Zac (by lia) (by lia),Zac (by decide) (by decide)⟩;have e5:opB .Mod (.int (c%1000000000000000000000000000057*271828182845904523536028747135+k*k*314159265358979323846264338327+577215664901532860606512090082)) (.int 1000000000000000000000000000057) h=.ok (.int (mixed c k)) h:=ZT (by decide);simp[Zb9,Zeb,ZL,hp,e1,e2,e3,e4,e5]
def St3(h:Hd)(i j:Nat)(cs:List Int)(aB b:Int):Prop:=h[i]?=J (.lst [.ref j,.int aB,.int b])/\h[j]?=J (.lst (cs.map .int))/\i≠j
def ZiB{P:Pg}(H:Mkr P)(n:Nat)(st:St3 h i j cs a b)(ha:0<=a/\a<2^50):∃v,run P (n+2) (O "_law_next") [.ref i] h=.ok (.int v) (h.set i (.lst [.ref j,.int (a+1),.int b]))/\(v∈cs\/v=mixed a 7):=by
 obtain⟨R,h2,ne⟩:=st;rw[Zh H.next (by rfl)];have i1:=Zj R;have i2:(h.set i (.lst [.ref j,.int (a+1),.int b]))[i]?=J (.lst [.ref j,.int (a+1),.int b]):=by rw[Ol i1]
 have i3:(h.set i (.lst [.ref j,.int (a+1),.int b]))[j]?=J (.lst (cs.map .int)):=by rw[Oc ne];exact h2
 have fY:Zak (.ref i) (.int 1) (.int (a+1)) h=.ok () (h.set i (.lst [.ref j,.int (a+1),.int b])):=by simp only[Zak,R];rfl
 have x1:xs1 (P.tbl (n+1)) (.set (.nm 1) (.ix (.var 0) (.ci 1))) [J (.ref i),M] h=.ok (.nx,[J (.ref i),J (.int a)]) h:=Zo ((ZF rfl rfl).trans ((ZG R).trans rfl));have x2:xs1 (P.tbl (n+1)) (.put (.var 0) (.ci 1) (.bin .Add (.var 1) (.ci 1))) [J (.ref i),J (.int a)] h=.ok (.nx,[J (.ref i),J (.int a)]) (h.set i (.lst [.ref j,.int (a+1),.int b])):=by rw[Zgw];show(Zak (.ref i) (.int 1) (.int (a+1)) h).bnd _=_;rw[fY];rfl
 generalize h.set i (.lst [.ref j,.int (a+1),.int b])=h' at *;have e0:ev (P.tbl (n+1)) (.ix (.var 0) (.ci 0)) [J (.ref i),J (.int a)] h'=.ok (.ref j) h':=(ZF rfl rfl).trans ((ZG i2).trans rfl);have tt:tst (P.tbl (n+1)) (.ex (.cmp .Lt (.var 1) (.blt .len (.cons (.ix (.var 0) (.ci 0)) .nil)))) [J (.ref i),J (.int a)] h'=.ok (Wt (a<(cs.map D.int).length)) h':=Zol rfl (ZcC (Zb e0 rfl) (Zgd i3));rw[Ys]at tt;have x3:xs2 (P.tbl (n+1)) ZcX [J (.ref i),M] h=xs2 (P.tbl (n+1)) (tlS (tlS ZcX)) [J (.ref i),J (.int a)] h':=(nx1 x1 rfl).trans (nx1 x2 rfl);by_cases hc:a<cs.length
 . obtain⟨k,rfl⟩:∃k:Nat,a=k:=⟨a.toNat,by lia⟩
   have hk:k<cs.length:=by lia
   have eG:atI (cs.map D.int) (k:Int)=J (.int cs[k]):=by rw[IV.Zas,On,Og hk];rfl
   exact⟨cs[k],(congrArg Zd x3).trans (rt1 ((Zt (Zk tt (decide_eq_true hc))).trans (Zc (ZA ((ZF e0 rfl).trans ((ZG i3).trans (by rw[eG];rfl)))))) rfl),.inl (List.getElem_mem hk)⟩
 . exact⟨mixed a 7,(congrArg Zd (x3.trans (nx1 ((Zg (Zk tt (decide_eq_false hc))).trans rfl) rfl))).trans (rt1 (ZA (Zw (Zjx H n a 7 _ (by decide)) rfl)) rfl),.inr rfl⟩
def Wl(n:Nat)(x:Str):Prop:=Yo x=Wr/\x.length<=n
def Cl:List Str->T->Prop
 |_,.num n=>0<=n/\n<1000000
 |sc,.name x=>x∈sc
 |sc,.fn x e=>Cl (x::sc) e/\Wl 20 x
 |sc,.rcc f x e=>Cl (x::f::sc) e/\f≠x/\Wl 20 f/\Wl 20 x
 |sc,.call f a=>Cl sc f/\Cl sc a
 |sc,.iff c t e=>Cl sc c/\Cl sc t/\Cl sc e
 |sc,.op _ a b=>Cl sc a/\Cl sc b
noncomputable def dep:T->Nat
 |.num _|.name _=>0
 |.fn _ e|.rcc _ _ e=>dep e+1
 |.call f a=>max (dep f) (dep a)+1
 |.iff c t e=>max (dep c) (max (dep t) (dep e))+1
 |.op _ a b=>max (dep a) (dep b)+1
noncomputable def fw:T->Int
 |.num _|.name _=>-1
 |.fn _ e|.rcc _ _ e=>fw e+3
 |.call f a=>fw f+fw a-1
 |.iff c t e=>fw c+fw t+fw e-1
 |.op _ a b=>fw a+fw b-1
def at4(k:Int)(h0:0<=k)(h4:k<4):∃v,atI [D.int a,.int b,.int c,.int d] k=J (.int v)/\(v=a\/v=b\/v=c\/v=d):=by
 have:k=0\/k=1\/k=2\/k=3:=by lia
 rcases this with rfl|rfl|rfl|rfl
 . exact⟨a,by simp,.inl rfl⟩
 . exact⟨b,by simp,.inr (.inl rfl)⟩
 . exact⟨c,by simp,.inr (.inr (.inl rfl))⟩
 . exact⟨d,by simp,.inr (.inr (.inr rfl))⟩
def ZgC(H:Mkr P)(n:Nat)(w:Str)(v:Int)(h:Hd)(sc:List Str):∃t g,run P (n+1) (O "_law_plain") [.str w,.int v] h=.ok (T.d t) (h++g)/\Cl sc t/\dep t<=2/\t.size<=4/\fw t<=0:=by
 rw[Zh H.plain (by rfl)];by_cases w1:w=O "n"
 . obtain⟨u,e,hu⟩:=at4 (a:=0) (b:=1) (c:=2) (d:=v/7%1000000) (v%4) (by lia) (by lia);refine⟨.num u,[.lst [.int 0,.int 1,.int 2,.int (v/7%1000000)]],?_,by show 0<=u/\u<1000000;lia,by show 0<=2;lia,by show 1<=4;lia,by show(-1:Int)<=0;decide⟩;exact rt1 (U:=P.tbl n) (ss:=Zae) ((Zt (Zk (ZR rfl rfl) (decide_eq_true w1))).trans (Zc (ZA (ZX (Zb rfl (Zb (Zgn e (Zb rfl (Zb rfl (Zb rfl (Zb ((Ze (x:=.int (v/7)) ((Ze rfl rfl).trans (ZbD (by decide))) rfl).trans (ZT (by decide))) rfl)))) ((Ze rfl rfl).trans (ZT (by decide))) (Nat.le_of_ble_eq_true rfl)) rfl)) (Nat.le_of_ble_eq_true rfl))))) rfl
 . have x1:xs2 (P.tbl n) Zae [J (.str w),J (.int v)] h=xs2 (P.tbl n) (tlS Zae) [J (.str w),J (.int v)] h:=nx1 ((Zg (Zk (ZR rfl rfl) (decide_eq_false w1))).trans rfl) rfl;by_cases w2:w=O "f"
   . refine⟨.fn (O "w") (.op .sub (.name (O "w")) (.num (v%3))),[],?_,?_,by simp only[dep];lia,by show 4<=4;lia,by simp only[fw];lia⟩
     . rw[Yr];exact(congrArg Zd x1).trans (rt1 (U:=P.tbl n) (ss:=tlS Zae) ((Zt (Zk (ZR rfl rfl) (decide_eq_true w2))).trans (Zc (ZA (ZX (Zb rfl (Zb rfl (Zb (ZX (Zb rfl (Zb rfl (Zb (ZX (Zb rfl (Zb ((Ze rfl rfl).trans (ZT (by decide))) rfl)) (Nat.le_of_ble_eq_true rfl)) rfl))) (Nat.le_of_ble_eq_true rfl)) rfl))) (Nat.le_of_ble_eq_true rfl))))) rfl)
     . exact⟨⟨Oi,by show 0<=v%3/\v%3<1000000;lia⟩,by unfold Wl;decide +kernel⟩
   . refine⟨.fn (O "w") (.call (.name (O "w")) (.num (v%5))),[],?_,?_,by simp only[dep];lia,by show 4<=4;lia,by simp only[fw];lia⟩
     . rw[Yr];exact(congrArg Zd (x1.trans (nx1 ((Zg (Zk (ZR rfl rfl) (decide_eq_false w2))).trans rfl) rfl))).trans (rt1 (U:=P.tbl n) (ss:=tlS (tlS Zae)) (ZA (ZX (Zb rfl (Zb rfl (Zb (ZX (Zb rfl (Zb rfl (Zb (ZX (Zb rfl (Zb ((Ze rfl rfl).trans (ZT (by decide))) rfl)) (Nat.le_of_ble_eq_true rfl)) rfl))) (Nat.le_of_ble_eq_true rfl)) rfl))) (Nat.le_of_ble_eq_true rfl))) rfl)
     . exact⟨⟨Oi,by show 0<=v%5/\v%5<1000000;lia⟩,by unfold Wl;decide +kernel⟩
noncomputable def ZB:Str:=O "abcdefghijklmnopqrstuvwxyz"
def ZhN:ZB.length=26:=by decide +kernel
def ZiP:Yo ZB=Wr:=by decide +kernel
noncomputable def ltr(k:Int):Nat:=ZB.cps.toList.getD k.toNat 0
def lt1(k:Int):Str:=⟨#[ltr k]⟩
def ZiQ(k:Int)(h0:0<=k)(R:k<26):Zau GD (.str ZB) (.int k) h=.ok (.str (lt1 k)) h/\Wl 1 (lt1 k):=by
 obtain⟨m,rfl⟩:∃m:Nat,k=m:=⟨k.toNat,by lia⟩
 have hl:ZB.cps.toList.length=26:=by decide +kernel
 have hm:m<ZB.cps.toList.length:=by lia
 have el:ltr m=ZB.cps.toList[m]:=by show ZB.cps.toList.getD (m:Int).toNat 0=_;rw[Int.toNat_natCast,List.getD_eq_getElem?_getD,Og hm];rfl
 have e:atI ZB.cps.toList (m:Int)=J ZB.cps.toList[m]:=by rw[IV.Zas,Og hm]
 unfold lt1;rw[el];refine⟨?_,Zmb ZiP (List.getElem_mem hm),by show(#[ZB.cps.toList[m]]:Array Nat).size<=1;simp⟩;have q:Zau GD (.str ZB) (.int (m:Int)) h=if ZB.length<=sizeLine then kz.ofO ((atI ZB.cps.toList (m:Int)).map λc=>.str ⟨#[c]⟩) h else .bad:=rfl;rw[q,if_pos (by rw[ZhN,YA];decide),e];rfl
def len_cat{x y:Str}:(x++y).length=x.length+y.length:=by show(x.cps++y.cps).size=_;rw[Array.size_append];rfl
def Zdm{x y:Str}(hx:Wl a x)(hy:Wl b y)(hz:a+b<=1000):opB .Add (.str x) (.str y) h=.ok (.str (x++y)) h/\Wl (a+b) (x++y):=by have hl:(x++y).length=x.length+y.length:=len_cat;refine⟨if_pos (by rw[YA];have:=hx.2;have:=hy.2;lia),Zga hx.1 hy.1,by rw[hl];have:=hx.2;have:=hy.2;lia⟩
theorem Zmt{U:Tb}:∀(ks:List Int) (r:Int) (x:Str) (m:Nat) (k:Option D),Wl m x->x.length=m->m+ks.length<=100->∃r' x' k',Wl (m+ks.length) x'/\x'.length=m+ks.length /\
 ZP M (.nm 6) (xs2 U (.cons (.set (.nm 5) (.bin .Add (.var 5) (.ix (.var 1) (.bin .Mod (.var 4) (.ci 26))))) (.cons (.set (.nm 4) (.bin .FloorDiv (.var 4) (.ci 26))) .nil))) (ks.map D.int) [a,J (.str ZB),l,p,J (.int r),J (.str x),k,f,sg,wd] h
  = .ok (.nx,[a,J (.str ZB),l,p,J (.int r'),J (.str x'),k',f,sg,wd]) h
 |[],r,x,m,k,hx,hn,hm=>⟨r,x,k,hx,hn,rfl⟩
 |c::cs,r,x,m,k,hx,hn,hm=>by
  obtain⟨e1,hy⟩:=ZiQ (GD:=U.GD) (h:=h) (r%26) (by lia) (by lia);obtain⟨e2,eZ⟩:=Zdm (h:=h) hx hy (by simp at hm;lia);obtain⟨r',x',k',R,h2,e3⟩:=Zmt (U:=U) (h:=h) (a:=a) (l:=l) (p:=p) (f:=f) (sg:=sg) (wd:=wd) cs (r/26) (x++lt1 (r%26)) (m+1) (J (.int c)) eZ (by rw[len_cat,hn];rfl) (by simp at hm ⊢;lia);have gj:m+(c::cs).length=m+1+cs.length:=by rw[Os];lia
  refine⟨r',x',k',by rw[gj];exact R,by rw[gj];exact h2,?_⟩;have e4:opB .Mod (.int r) (.int 26) h=.ok (.int (r%26)) h:=ZT (by decide);have e5:opB .FloorDiv (.int r) (.int 26) h=.ok (.int (r/26)) h:=ZbD (by decide);rw[Op,Zgi];simp[e4,e1,e2,e5,e3]
def ZpW(x:Str)(l u:Option Int):(Yp x l u).length<=x.length:=by
 unfold Yp;split
 . exact Oq _
 . show((Builtin.Str.strSliceIndices l u 1 x.length).filterMap (x.cps[·]?)).toArray.size<=_;rw[Of];refine OE (List.length_filterMap_le _ _) ?_;unfold Builtin.Str.strSliceIndices;refine PySem.sliceRange_length_le _ _ _ _ (λ_=>?_) (λz=>absurd (by decide) z);cases l<;>cases u<;>simp<;>lia
def Zct(hx:Wl m x)(hm:m<=1000)(l u:Option Int):ZfM (.str x) l u h=.ok (.str (Yp x l u)) h/\Wl m (Yp x l u):=by
 refine⟨if_pos (by rw[YA];have:=hx.2;lia),Zl9 hx.1 (ZeS _ _ _),?_⟩;have:=hx.2;have q:(Yp x l u).length<=x.length:=ZpW x l u
 lia
def in4:opC GD .In (.str x) (.tup [.str (O "fn"),.str (O "rec"),.str (O "call"),.str (O "if")]) h=.ok (.bl (Wt (x∈[O "fn",O "rec",O "call",O "if"]))) h:=Zda (ss:=[O "fn",O "rec",O "call",O "if"])
def len_str(hx:Wl m x)(hm:m<=1000):ZaJ GD .len [.str x] h=.ok (.int x.length) h:=by show(if x.length<=sizeLine then _ else _)=_;exact if_pos (by rw[YA];have:=hx.2;lia)
def Zpl(hx:Wl m x)(hm:m<=1000):opB .Mult (.str (O "q")) (.int x.length) h=.ok (.str (ZdD (O "q") x.length)) h/\Wl m (ZdD (O "q") x.length):=by
 have hq:(O "q").length=1:=by decide +kernel
 have:=hx.2;refine⟨if_pos ⟨by lia,by lia,by rw[hq];decide⟩,Zma (by decide +kernel) _,?_⟩;rw[Zc9,hq]
 lia
def nmW(b:Str)(l p r c:Int):Str:=if r/26%4=1 then Yp b M (J (8-c))else Yp b M (J p)++lt1 ((r+5*c)%26)++Yp b (J (p+1)) (J l)
def nmQ(w:Str):Str:=if w∈[O "fn",O "rec",O "call",O "if"]then ZdD (O "q") w.length else w
def nm(b:Str)(l p r c:Int):Str:=nmQ (nmW b l p r c)
def Zmd(hb:Wl 8 b)(l p r c:Int):Wl 20 (nmW b l p r c):=by
 unfold nmW;split
 . have q:=(Zct (h:=[]) hb (by decide) M (J (8-c))).2;exact⟨q.1,by have:=q.2;lia⟩
 . have q1:=(Zct (h:=[]) hb (by decide) M (J p)).2;have q2:=(ZiQ (GD:=λ_=>M) (h:=[]) ((r+5*c)%26) (by lia) (by lia)).2;have q3:=(Zct (h:=[]) hb (by decide) (J (p+1)) (J l)).2;have q:=(Zdm (h:=[]) (Zdm (h:=[]) q1 q2 (by decide)).2 q3 (by decide)).2;exact⟨q.1,by have:=q.2;lia⟩
def ZsG(hb:Wl 8 b)(l p r c:Int):Wl 20 (nm b l p r c):=by
 unfold nm nmQ;split
 . exact(Zpl (h:=[]) (Zmd hb l p r c) (by decide)).2
 . exact Zmd hb l p r c
def ZqT:Sx:=.s 8 (.ix V1 (.bin .Mod (.bin .Add V4 (.bin .Mult K5 V6)) K26))
def ZqS:Sx:=.s 9 (.bin .Add (.bin .Add (.sl V5 M (J V3)) V8) (.sl V5 (J (.bin .Add V3 K1)) (J V2)))
def ZqO:Tx:=.q (.bin .Mod (.bin .FloorDiv V4 K26) K4) K1
def ZsQ:Sx:=.s 9 (.sl V5 M (J (.bin .Sub K8 V6)))
def ZqN:Exs:=.z (.Ci_ "fn") (.Ci_ "rec") (.Ci_ "call") (.Ci_ "if")
def ZsR:Sx:=.s 9 (.bin .Mult (.Ci_ "q") (.blt .len (.o V9)))
def ZqQ:Sx:=.drp (.meth .app V7 (.o V9))
def ZqP:Sxs:=.w (.iff (.x .In V9 (.tupl ZqN)) (.o ZsR) .n) ZqQ
def ZqR:Sxs:=.c ZqT (.c ZqS (.c (.iff ZqO (.o ZsQ) .n) ZqP))
def vn(a:Option D)(l p r:Int)(b:Str)(q:Nat)(k sg wd:Option D):Ev:=[a,J (.str ZB),J (.int l),J (.int p),J (.int r),J (.str b),k,J (.ref q),sg,wd]
def Zmn(hw:Wl 20 wd)(hz:ds.length<16777216):xs2 U ZqP (vn a l p r b h.length k sg (J (.str wd))) (h++[.lst ds])=.ok (.nx,vn a l p r b h.length k sg (J (.str (nmQ wd)))) (h++[.lst (ds++[.str (nmQ wd)])]):=by
 have ap:∀w:Str,xs1 U ZqQ (vn a l p r b h.length k sg (J (.str w))) (h++[.lst ds])=.ok (.nx,vn a l p r b h.length k sg (J (.str w))) (h++[.lst (ds++[.str w])]):=λw=>by have e:=Zad (Zek (U:=U) (S:=vn a l p r b h.length k sg (J (.str w))) (o:=.var 7) (es:=.cons (.var 9) .nil) rfl ZaN rfl (Zdc (d:=.str w) (ZaN (h:=h) (x:=.lst ds) (r:=[])) (by rw[YA];exact hz)));rw[show(h++[DO.lst ds]).set h.length (.lst (ds++[.str w]))=h++[.lst (ds++[.str w])] by simp]at e;exact e
 have i4:tst U (.ex (.cmp .In (.var 9) (.tupl ZqN))) (vn a l p r b h.length k sg (J (.str wd))) (h++[.lst ds])=.ok (Wt (wd∈[O "fn",O "rec",O "call",O "if"])) (h++[.lst ds]):=ZaH ((Zv (x:=.str wd) rfl (ZX (xs:=[.str (O "fn"),.str (O "rec"),.str (O "call"),.str (O "if")]) rfl (by decide))).trans in4);unfold nmQ;by_cases cm:wd∈[O "fn",O "rec",O "call",O "if"]
 . rw[if_pos cm];exact(Za ((Zt (Zk i4 (decide_eq_true cm))).trans ((Za (Zo ((Ze rfl (ZcC rfl (len_str hw (by decide)))).trans (Zpl hw (by decide)).1))).trans rfl))).trans ((Za (ap _)).trans rfl)
 . rw[if_neg cm];exact(Za ((Zg (Zk i4 (decide_eq_false cm))).trans rfl)).trans ((Za (ap _)).trans rfl)
def ZsS(hb:Wl 8 b)(hc:0<=c/\c<100)(hz:ds.length<16777216):xs2 U ZqR (vn a l p r b h.length (J (.int c)) sg wd) (h++[.lst ds])=.ok (.nx,vn a l p r b h.length (J (.int c)) (J (.str (lt1 ((r+5*c)%26)))) (J (.str (nm b l p r c)))) (h++[.lst (ds++[.str (nm b l p r c)])]):=by
 obtain⟨e1,hy⟩:=ZiQ (GD:=U.GD) (h:=h++[.lst ds]) ((r+5*c)%26) (by lia) (by lia);obtain⟨f1,w1⟩:=Zct (h:=h++[.lst ds]) hb (by decide) M (J p);obtain⟨f2,w2⟩:=Zct (h:=h++[.lst ds]) hb (by decide) (J (p+1)) (J l);obtain⟨f3,w3⟩:=Zct (h:=h++[.lst ds]) hb (by decide) M (J (8-c));obtain⟨c1,v1⟩:=Zdm (h:=h++[.lst ds]) w1 hy (by decide);obtain⟨c2,v2⟩:=Zdm (h:=h++[.lst ds]) v1 w2 (by decide);have m5:opB .Mult (.int 5) (.int c) (h++[.lst ds])=.ok (.int (5*c)) (h++[.lst ds]):=ZeF ⟨Zac (by decide) (by decide),Zac (by lia) (by lia)⟩;unfold nm nmW;generalize lt1 ((r+5*c)%26)=y at *;have x8:xs1 U ZqT (vn a l p r b h.length (J (.int c)) sg wd) (h++[.lst ds])=.ok (.nx,vn a l p r b h.length (J (.int c)) (J (.str y)) wd) (h++[.lst ds]):=Zo ((ZF (x:=.str ZB) rfl ((Ze (x:=.int (r+5*c)) ((Ze rfl ((Ze rfl rfl).trans m5)).trans rfl) rfl).trans (ZT (by decide)))).trans e1);have g1:ev U (.sl (.var 5) M (J (.var 3))) (vn a l p r b h.length (J (.int c)) (J (.str y)) wd) (h++[.lst ds])=.ok (.str (Yp b M (J p))) (h++[.lst ds]):=f1;have g2:ev U (.sl (.var 5) (J (.bin .Add (.var 3) (.ci 1))) (J (.var 2))) (vn a l p r b h.length (J (.int c)) (J (.str y)) wd) (h++[.lst ds])=.ok (.str (Yp b (J (p+1)) (J l))) (h++[.lst ds]):=f2;have g3:∀w,ev U (.sl (.var 5) M (J (.bin .Sub (.ci 8) (.var 6)))) (vn a l p r b h.length (J (.int c)) (J (.str y)) w) (h++[.lst ds])=.ok (.str (Yp b M (J (8-c)))) (h++[.lst ds]):=λ_=>f3;have x9:xs1 U ZqS (vn a l p r b h.length (J (.int c)) (J (.str y)) wd) (h++[.lst ds])=.ok (.nx,vn a l p r b h.length (J (.int c)) (J (.str y)) (J (.str (Yp b M (J p)++y++Yp b (J (p+1)) (J l))))) (h++[.lst ds]):=Zo ((Ze ((Ze g1 rfl).trans c1) g2).trans c2);have tt:tst U ZqO (vn a l p r b h.length (J (.int c)) (J (.str y)) (J (.str (Yp b M (J p)++y++Yp b (J (p+1)) (J l))))) (h++[.lst ds])=.ok (Wt (r/26%4=1)) (h++[.lst ds]):=ZdO ((Ze (x:=.int (r/26)) ((Ze rfl rfl).trans (ZbD (by decide))) rfl).trans (ZT (by decide))) rfl;refine(Za x8).trans ((Za x9).trans ?_);by_cases hr:r/26%4=1
 . rw[if_pos hr];exact(Za ((Zt (Zk tt (decide_eq_true hr))).trans ((Za (Zo (g3 _))).trans rfl))).trans (Zmn ⟨w3.1,by have:=w3.2;lia⟩ hz)
 . rw[if_neg hr];exact(Za ((Zg (Zk tt (decide_eq_false hr))).trans rfl)).trans (Zmn ⟨v2.1,by have:=v2.2;lia⟩ hz)
theorem ZjQ(hb:Wl 8 b):∀(ks:List Int) (fo:List Str) (k sg wd:Option D),fo.length+ks.length<=100->(∀c∈ks,0<=c/\c<100)->∃k' eV eR,
 ZP M (.nm 6) (xs2 U ZqR) (ks.map D.int) (vn a l p r b h.length k sg wd) (h++[.lst (fo.map .str)])
  = .ok (.nx,vn a l p r b h.length k' eV eR) (h++[.lst ((fo++ks.map (nm b l p r)).map .str)])
 |[],fo,k,sg,wd,h2,h3=>⟨k,sg,wd,by rw[Oy,Oy,Yr];rfl⟩
 |c::cs,fo,k,sg,wd,h2,h3=>by rw[Os]at h2;obtain⟨k',eV,eR,e3⟩:=ZjQ (U:=U) (h:=h) (a:=a) (l:=l) (p:=p) (r:=r) hb cs (fo++[nm b l p r c]) (J (.int c)) (J (.str (lt1 ((r+5*c)%26)))) (J (.str (nm b l p r c))) (by rw[OA,List.length_singleton];lia) (λz hz=>h3 z (.tail _ hz));refine⟨k',eV,eR,(Zi1 rfl (ZsS hb (h3 c (.head _)) (by rw[Ys];lia))).trans ?_⟩;rw[List.map_append,Oz]at e3;exact e3
def ZqX:∀k∈[[102,110],[114,101,99],[99,97,108,108],[105,102]],∀l∈[[102,110],[114,101,99],[99,97,108,108],[105,102],YJ k.length 113],k=l\/k.length≠l.length\/∀i,i<4->∃j,j<4/\j≠i/\k[j]?≠l[j]? := by decide +kernel
def ZjT(ne:x≠y)(a:List Nat)(h:a++x::b∈[[102,110],[114,101,99],[99,97,108,108],[105,102]]):a++y::b ∉ [[102,110],[114,101,99],[99,97,108,108],[105,102]]/\a++y::b≠YJ (a++x::b).length 113:=by
 have l4:(a++x::b).length<=4:=by
  have:∀k∈[[102,110],[114,101,99],[99,97,108,108],[105,102]],k.length<=4:=by decide
  exact this _ h
 have sl:(a++x::b).length=(a++y::b).length:=by simp
 have no:∀l∈[[102,110],[114,101,99],[99,97,108,108],[105,102],YJ (a++x::b).length 113],a++y::b≠l:=λl hl e=>by
  rcases ZqX _ h l hl with q|q|q
  . rw[<-e]at q;exact ne (List.cons.inj (List.append_cancel_left q)).1
  . exact q (by rw[<-e];exact sl)
  . obtain⟨j,_,nj,d⟩:=q a.length (by simp at l4;lia);rw[<-e]at d;rcases Nat.lt_or_ge j a.length with z|z
    . exact d (by rw[Oe z,Oe z])
    . rw[Om z,Om z]at d;obtain⟨m,hm⟩:∃m,j-a.length=m+1:=⟨j-a.length-1,by lia⟩
      rw[hm]at d;exact d rfl
 refine⟨λm=>no _ (List.mem_append_left [YJ (a++x::b).length 113] m) rfl,no _ (Ov [[102,110],[114,101,99],[99,97,108,108],[105,102]] (Ox.mpr rfl))⟩
def Zmu:w∈[O "fn",O "rec",O "call",O "if"]↔w.cps.toList∈[[102,110],[114,101,99],[99,97,108,108],[105,102]]:=by
 have e:[[102,110],[114,101,99],[99,97,108,108],[105,102]]=[O "fn",O "rec",O "call",O "if"].map (·.cps.toList):=by decide +kernel
 rw[e];refine⟨λh=>List.mem_map_of_mem h,λh=>?_⟩;obtain⟨v,hv,q⟩:=List.mem_map.mp h;have:v=w:=by obtain⟨⟨v⟩⟩:=v;obtain⟨⟨w⟩⟩:=w;cases q;rfl
 exact this▸hv
def Zhu:∀n,(ZdD (O "q") n).cps.toList=YJ n 113
 |n=>by
  have:∀(n:Nat) (a:Array Nat),((YJ n (O "q").cps).foldl (·++·) a).toList=a.toList++YJ n 113:=by
   intro n;induction n with
   |zero=>intro a;simp
   |succ n ih=>intro a;rw[List.replicate_succ,Wm,ih,Array.toList_append,Oz,List.replicate_succ];rfl
  have q:=this n #[];simpa[ZdD]using q
def nq(hv:v.cps.toList=a++x::b)(hw:w.cps.toList=a++y::b)(ne:x≠y):nmQ v≠nmQ w:=by
 have hl:v.length=(a++x::b).length/\w.length=(a++y::b).length:=by rw[<-hv,<-hw];exact⟨by simp[Str.length],by simp[Str.length]⟩
 unfold nmQ;intro e;have e':=congrArg (·.cps.toList) e;simp only[Zmu]at e';split at e'
 . rename_i kv;rw[hv]at kv;obtain⟨k1,k2⟩:=ZjT ne a kv;rw[if_neg (by rw[hw];exact k1),Zhu,hw,hl.1]at e';exact k2 e'.symm
 . split at e'
   . rename_i kw;rw[hw]at kw;obtain⟨k1,k2⟩:=ZjT (YK ne) a kw;rw[Zhu,hv,hl.2]at e';exact k2 e'
   . rw[hv,hw]at e';have:=List.append_cancel_left e';exact ne (List.cons.inj this).1
def ZjL(w:Str):(nmQ w).length=w.length:=by
 unfold nmQ;split
 . rw[Zc9,show(O "q").length=1 by decide +kernel,Nat.mul_one]
 . rfl
def Zok:∀i j:Fin 26,ltr (i.val:Int)=ltr (j.val:Int)->i=j:=by decide +kernel
theorem ZsH(hb:b.length=8)(hc:0<=c/\c<5)(hd:0<=d/\d<5)(ne:c≠d):nm b l p r c≠nm b l p r d:=by
 unfold nm nmW;split
 . intro e;have e':=congrArg Str.length e;have len:∀ z:Int,0<=z/\z<5->(Yp b M (J (8-z))).length=(8-z).toNat:=λz hz=>by
     have h8:b.cps.toList.length=8:=by simpa [Str.length] using hb
     rw [StrLaws.sliceText_to ⟨by lia,by lia⟩];show (List.take (8-z-0).toNat (List.drop 0 b.cps.toList)).toArray.size=_;rw [Of,List.length_take,List.drop_zero,h8]
     lia
   rw [ZjL,ZjL,len c hc,len d hd] at e'
   lia
 . refine nq (a:=(Yp b M (J p)).cps.toList) (b:=(Yp b (J (p+1)) (J l)).cps.toList) (x:=ltr ((r+5*c)%26)) (y:=ltr ((r+5*d)%26)) ?_ ?_ ?_
   . show (_++#[ltr ((r+5*c)%26)]++_:Array Nat).toList=_;simp
   . show (_++#[ltr ((r+5*d)%26)]++_:Array Nat).toList=_;simp
   . intro e;have q:=Zok ⟨((r+5*c)%26).toNat,by lia⟩ ⟨((r+5*d)%26).toNat,by lia⟩ (by
       show ltr (((r+5*c)%26).toNat:Int)=ltr (((r+5*d)%26).toNat:Int);rw [Int.toNat_of_nonneg (by lia),Int.toNat_of_nonneg (by lia)];exact e)
     have q:=Fin.mk.inj q
     lia
def Zmc(hb:b.length=8):(([0,1,2,3,4]:List Int).map (nm b l p r)).Nodup:=by
 refine List.pairwise_map.mpr (List.Pairwise.imp_of_mem (R:=λx y=>x≠y) (λ{x y} hx hy ne=>ZsH hb ?_ ?_ ne) (by decide))
 . simp at hx;lia
 . simp at hy;lia
def Znu(H:Mkr P)(n:Nat)(v:Int)(h:Hd):∃ns:List Str,ns.length=5/\(∀x∈ns,Wl 20 x)/\ns.Nodup/\run P (n+1) (O "_law_names") [.int v] h=.ok (.ref h.length) (h++[.lst (ns.map .str)]):=by
 rw[Zh H.names rfl];have u8:ZW 0 8=[0,1,2,3,4,5,6,7].map D.int:=by rfl
 have u5:ZW 0 5=[0,1,2,3,4].map D.int:=by rfl
 have m8:opB .Mod (.int v) (.int 8) h=.ok (.int (v%8)) h:=ZT (by decide);have d8:opB .FloorDiv (.int v) (.int 8) h=.ok (.int (v/8)) h:=ZbD (by decide);have mp:opB .Mod (.int (v/8)) (.int (1+v%8)) h=.ok (.int (v/8%(1+v%8))) h:=ZT (by lia);have jU:opB .FloorDiv (.int v) (.int 64) h=.ok (.int (v/64)) h:=ZbD (by decide);obtain⟨r',b,k',hb,jF,e1⟩:=Zmt (U:=⟨P.G,P.GD,run P n,P.L⟩) (h:=h) (a:=J (.int v)) (l:=J (.int (1+v%8))) (p:=J (.int (v/8%(1+v%8)))) (f:=M) (sg:=M) (wd:=M) [0,1,2,3,4,5,6,7] (v/64) (O "") 0 M ⟨by decide +kernel,by decide +kernel⟩ (by decide +kernel) (by decide);obtain⟨k2,eV,eR,e2⟩:=ZjQ (U:=⟨P.G,P.GD,run P n,P.L⟩) (h:=h) (a:=J (.int v)) (l:=1+v%8) (p:=v/8%(1+v%8)) (r:=r') hb [0,1,2,3,4] [] k' M M (by decide) (by decide);refine⟨[0,1,2,3,4].map (nm b (1+v%8) (v/8%(1+v%8)) r'),rfl,λx hx=>?_,Zmc jF,?_⟩
 . obtain⟨c,_,rfl⟩:=List.mem_map.mp hx;exact ZsG hb _ _ _ _
 generalize nm b (1+v%8) (v/8%(1+v%8)) r'=F at e2 ⊢;simp only[Oy,OB]at e2;have s8:ZaQ 8=Wr:=by decide
 have s5:ZaQ 5=Wr:=by decide
 unfold ZB at e1;unfold vn ZqR ZqP ZqT ZqS ZqO ZsQ ZqN ZsR ZqQ ZB at e2;rw[<-u8]at e1;rw[<-u5]at e2
 try simp at e1
 try simp at e2
 simp[Zb8,Zea,ZL,m8,d8,mp,jU,s8,s5,e1,e2,YA]
end Gn
end
namespace Gn
open PySem L2 IV
set_option tactic.hygienic false
noncomputable abbrev Scp:=List (Str×Str)
noncomputable def pairOf(p:Str×Str):D:=.tup [.str p.1,.str p.2]
def Zld(h:Hd)(k:Nat)(sc:Scp):Prop:=h[k]?=J (.lst (sc.map pairOf))
structure KnOk(sc:Scp)(kn:List (Key×D)):Prop where
 key:∀p∈kn,∃x,p.1=YC x/\x∈sc.map (·.1)
 val:∀p∈kn,∃s,p.2=D.str s
def Zhz(h:p∈putD kn k v):p∈kn\/p=(k,v):=by
 unfold putD at h;split at h
 . obtain⟨q,hq,e⟩:=List.mem_map.mp h;split at e
   . rename_i ek;right;rw[<-e,ek]
   . left;rw[<-e];exact hq
 . rcases OD.mp h with z|z
   . exact .inl z
   . exact .inr (Ox.mp z)
def ZlR:(putD kn k v).length<=kn.length+1:=by unfold putD;split<;>simp
def ZnC(hz:kn.length<1000):Zak (.ref h.length) (.str x) v (h++[.dic kn])=.ok () (h++[.dic (putD kn (.inr x) v)]):=by simp only[Zak,ZaN,keyOf];rw[if_pos (by rw[YA];lia)];simp
theorem ZjP(hs:Zld h k sc0):∀(sc:Scp) (kn:List (Key×D)) (a b:Option D),(∀p∈sc,p∈sc0)->KnOk sc0 kn->kn.length+sc.length<=500->∃dP a' b',KnOk sc0 dP/\dP.length<=kn.length+sc.length /\
 ZP (J (k,sc0.map pairOf)) (.two 3 4) (xs2 U (.cons (.put (.var 2) (.var 3) (.var 4)) .nil)) (sc.map pairOf) [J (.ref k),w,J (.ref h.length),a,b] (h++[.dic kn])
  = .ok (.nx,[J (.ref k),w,J (.ref h.length),a',b']) (h++[.dic dP])
 |[],kn,a,b,R,h2,h3=>by
  refine⟨kn,a,b,h2,by simp,?_⟩;have:(h++[DO.dic kn])[k]?=J (.lst (sc0.map pairOf)):=by rw[Oe (Zj hs)];exact hs
  simp[ZP,Wk.stays,this]
 |(x,s)::sc,kn,a,b,R,h2,h3=>by
  simp only[Os]at h3;have st:(h++[DO.dic kn])[k]?=J (.lst (sc0.map pairOf)):=by rw[Oe (Zj hs)];exact hs
  have hk:KnOk sc0 (putD kn (.inr x) (.str s)):=by
   refine⟨λp hp=>?_,λp hp=>?_⟩
   . rcases Zhz hp with z|rfl
     . exact h2.key p z
     . exact⟨x,rfl,List.mem_map.mpr ⟨(x,s),R _ (by simp),rfl⟩⟩
   . rcases Zhz hp with z|rfl
     . exact h2.val p z
     . exact⟨s,rfl⟩
  have pl:=ZlR (kn:=kn) (k:=.inr x) (v:=.str s);obtain⟨dP,a',b',q1,q2,e⟩:=ZjP (U:=U) (w:=w) hs sc (putD kn (.inr x) (.str s)) (J (.str x)) (J (.str s)) (λp hp=>R p (by simp[hp])) hk (by lia);refine⟨dP,a',b',q1,by simp only[Os];lia,?_⟩;rw[Op,ZP];simp only[Wk.stays,st,decide_true,if_true];have e2:=ZnC (h:=h) (kn:=kn) (x:=x) (v:=.str s) (by lia);simp[pairOf,e2];simpa[pairOf]using e
def find_key(hx:YC x∈kn.map (·.1)):∃v,ZU kn (.inr x)=J v/\(YC x,v)∈kn:=by
 induction kn with
 |nil=>simp at hx
 |cons p r ih=>
  unfold ZU;by_cases e:p.1=YC x
  . refine⟨p.2,?_,?_⟩
    . simp[Wn,e]
    . rw[<-e];exact Oi
  . obtain⟨v,R,h2⟩:=ih (by simpa[YK e]using hx);refine⟨v,?_,Oh _ h2⟩;simpa[Wn,e,ZU]using R
theorem ZjU{sc:Scp}:∀{kn:List (Key×D)},(∀p∈kn,∃x,p.1=YC x/\x∈sc.map (·.1))->∃ss,Zcv kn=J ss/\ss.length=kn.length/\(∀x∈ss,x∈sc.map (·.1)/\YC x∈kn.map (·.1))
 |[],_=>⟨[],rfl,rfl,by simp⟩
 |(k,v)::r,h=>by
  obtain⟨x,e,hx⟩:=h (k,v) (by simp);cases e;obtain⟨ss,e1,e2,e3⟩:=ZjU (kn:=r) λp hp=>h p (by simp[hp]);refine⟨x::ss,by rw[Zcv,e1];rfl,by simp[e2],λy hy=>?_⟩;rcases O2.mp hy with rfl|hy
  . exact⟨hx,by simp⟩
  . exact⟨(e3 y hy).1,by simp[(e3 y hy).2]⟩
theorem ZiT{U:Tb}{so:List Str}(hv:∀p∈kn,∃s,p.2=D.str s):∀(xs:List Str) (ag:List Str),(∀x∈xs,YC x∈kn.map (·.1))->ag.length+xs.length<=1000->∃ys,(∀y∈ys,y∈xs) /\
 Zz (J (h.length+1,so.map D.str)) (.nm 0) (tsto U (J (.ex (.cmp .Eq (.ix (.var 2) (.var 0)) (.var 1))))) (ev U (.var 0)) (xs.map D.str) [M,J (.str w),J (.ref h.length)] (ag.map .str) (h++[.dic kn,.lst (so.map .str)])
  = .ok ((ag++ys).map .str) (h++[.dic kn,.lst (so.map .str)])
 |[],ag,R,h2=>⟨[],by simp,by simp[Zz,Wk.stays]⟩
 |x::xs,ag,R,h2=>by
  simp only[Os]at h2;obtain⟨v,e1,hm⟩:=find_key (R x (by simp));obtain⟨s,rfl⟩:∃s,v=D.str s:=hv _ hm;have ix:Zau U.GD (.ref h.length) (.str x) (h++[.dic kn,.lst (so.map .str)])=.ok (.str s) (h++[.dic kn,.lst (so.map .str)]):=by simp[Zau,dicOf,e1]
  have hz:ag.length<sizeLine:=by rw[YA];lia
  by_cases hw:s=w
  . obtain⟨ys,q1,q2⟩:=ZiT (U:=U) (h:=h) (w:=w) (so:=so) hv xs (ag++[x]) (λy hy=>R y (by simp[hy])) (by simp;lia);refine⟨x::ys,λy hy=>?_,?_⟩
    . rcases O2.mp hy with rfl|hy
      . simp
      . simp[q1 y hy]
    . rw[Op,ZC];simp at q2;simp[Wk.stays,hz,ix,hw,q2]
  . obtain⟨ys,q1,q2⟩:=ZiT (U:=U) (h:=h) (w:=w) (so:=so) hv xs ag (λy hy=>R y (by simp[hy])) (by lia);refine⟨ys,λy hy=>by simp[q1 y hy],?_⟩;rw[Op,ZC];simp at q2;simp[Wk.stays,hz,ix,hw,q2]
def Znt{P:Pg}(H:Mkr P)(n:Nat){sc:Scp}(w:Str)(hs:Zld h k sc)(hl:sc.length<=60)(hok:∀p∈sc,Yo p.1=Wr):∃(ys:List Str) (g:Hd),(∀y∈ys,y∈sc.map (·.1))/\g.length=2 /\
 run P (n+1) (O "_law_there") [.ref k,.str w] h=.ok (.ref (h.length+2)) (h++g++[.lst (ys.map .str)]):=by
 rw[Zh H.there rfl];obtain⟨kn,a',b',hk,gV,e1⟩:=ZjP (U:=⟨P.G,P.GD,run P n,P.L⟩) (w:=J (.str w)) hs sc [] M M (λ_ hp=>hp) ⟨by simp,by simp⟩ (by simp;lia);obtain⟨ss,e2,e3,e4⟩:=ZjU hk.key;have all:ss.all Yo=Wr:=by rw[OC];intro x hx;obtain⟨p,hp,rfl⟩:=List.mem_map.mp (e4 x hx).1;exact hok p hp
 have cK:=Zcs ss;obtain⟨ys,q1,q2⟩:=ZiT (U:=⟨P.G,P.GD,run P n,P.L⟩) (h:=h) (kn:=kn) (w:=w) (so:=Zbq ss) hk.val (Zbq ss) [] (λx hx=>(e4 x (cK.mem_iff.mp hx)).2) (by rw[cK.length_eq];simp at gV ⊢;lia);refine⟨ys,[.dic kn,.lst ((Zbq ss).map .str)],λy hy=>(e4 y (cK.mem_iff.mp (q1 y hy))).1,rfl,?_⟩;have fV:ZaJ P.GD .srt [.ref h.length] (h++[.dic kn])=.ok (.ref (h.length+1)) (h++[.dic kn,.lst ((Zbq ss).map .str)]):=by show Zdx P.GD [.ref h.length] (h++[.dic kn])=_;simp only[Zdx,dicOf,ZaN,Yw,e2];rw[if_pos ⟨by simp at gV;lia,all⟩];simp
 have jb:ZV (.ref k) (h++[DO.dic []])=J ⟨J (k,sc.map pairOf),sc.map pairOf⟩:=by
  have:(h++[DO.dic []])[k]?=J (.lst (sc.map pairOf)):=by rw[Oe (Zj hs)];exact hs
  simp[ZV,this]
 have ja:ZV (.ref (h.length+1)) (h++[DO.dic kn,.lst ((Zbq ss).map .str)])=J ⟨J (h.length+1,(Zbq ss).map .str),(Zbq ss).map .str⟩:=by simp[ZV]
 simp at q2 e1;simp[Zb7,Zd9,ZL,Zb2,ZcV,jb,e1,fV,ja,Zbx,q2]
set_option tactic.hygienic true
section
structure Ctx(cs:List Int)(ns:List Str)(h:Hd)(i j m k:Nat)(sc:Scp)(a b:Int):Prop where
 st:St3 h i j cs a b
 nm:h[m]?=J (.lst (ns.map .str))
 n5:ns.length=5
 nok:∀x∈ns,Wl 20 x
 nd:ns.Nodup
 sca:Zld h k sc
 sco:∀p∈sc,Wl 20 p.1
 im:i≠m
 ik:i≠k
 ab:0<=a
variable {P:Pg}{cs:List Int}{ns:List Str}{h h':Hd}{i j m k:Nat}{sc:Scp}{a b a' b':Int}
def Ctx.up(c:Ctx cs ns h i j m k sc a b)(u:Up i h h')(st:St3 h' i j cs a' b')(ab:0<=a'):Ctx cs ns h' i j m k sc a' b':=⟨st,u.at c.nm (YK c.im),c.n5,c.nok,c.nd,u.at c.sca (YK c.ik),c.sco,c.im,c.ik,ab⟩
def St3.app(s:St3 h i j cs a b):St3 (h++g) i j cs a b:=⟨by rw[Oe (Zj s.1)];exact s.1,by rw[Oe (Zj s.2.1)];exact s.2.1,s.2.2⟩
theorem Ctx.app(c:Ctx cs ns h i j m k sc a b):Ctx cs ns (h++g) i j m k sc a b:=c.up Up.app c.st.app c.ab
def Ctx.name(c:Ctx cs ns h i j m k sc a b)(v:Int)(h0:0<=v)(h5:v<5):∃x,Zau GD (.ref m) (.int v) h=.ok (.str x) h/\Wl 20 x/\ns[v.toNat]?=J x:=by
 obtain⟨q,rfl⟩:∃q:Nat,v=q:=⟨v.toNat,by lia⟩
 have hq:q<ns.length:=by have:=c.n5;lia
 refine⟨ns[q],?_,c.nok _ (List.getElem_mem hq),Og hq⟩;rw[ZG c.nm,IV.Zas,On,Og hq];rfl
noncomputable def A(r:Nat):Int:=4^(r+1)
def Zip(r:Nat):0<A r:=Int.pow_pos (by decide)
def ZrD(r:Nat):A (r+1)=4*A r:=by unfold A;rw[Int.pow_succ];lia
noncomputable def pz(x:Int):Int:=max x 0
inductive Made(cs:List Int)(h:Hd)(i j:Nat)(sc:Scp)(a b ex mx:Int)(dm:Nat)(r:kz D):Prop
 |mk (t:T) (h':Hd) (a' b':Int) (e:r=.ok (T.d t) h') (u:Up i h h') (s:St3 h' i j cs a' b') (l1:a<=a') (l2:a'<=a+mx) (c:Cl (sc.map (·.1)) t) (p:dep t<=dm) (z:fw t<=3*(pz b-pz b')+ex)
def Zkv(P:Pg)(r n0:Nat):Prop:=∀(n:Nat) (cs:List Int) (ns:List Str) (h:Hd) (i j m k:Nat) (sc:Scp) (a b:Int) (w:Str) (room:Int),room<=r->Ctx cs ns h i j m k sc a b->sc.length+2*r<=50->a+A r<2^50 ->
 Made cs h i j sc a b 0 (A r) (3*r+3) (run P (n+n0) (O "_law_any") [.str w,.ref k,.ref i,.ref m,.int room] h)
def ZmZ(H:Mkr P)(n:Nat)(c:Ctx cs ns h i j m k sc a b)(w:Str)(room:Int)(hl:sc.length<=50)(ha:a<2^50)(T1 T2 T3:Option D):∃(v:Int) (w':Str) (ys:List Str) (h':Hd) (l:Nat),
 xs2 ⟨P.G,P.GD,run P (n+2),P.L⟩ (.cons ZaG (.cons Zbg (.cons ZaF (.cons Zbf (.cons ZaE .nil))))) [J (.str w),J (.ref k),J (.ref i),J (.ref m),J (.int room),T1,T2,T3,M,M] h
  = .ok (.nx,[J (.str w'),J (.ref k),J (.ref i),J (.ref m),J (.int room),J (.int v),J (.int (v/87)),J (.ref l),M,M]) h'/\Up i h h'/\Ctx cs ns h' i j m k sc (a+1) (b-1)/\h'[l]?=J (.lst (ys.map .str))/\(∀y∈ys,y∈sc.map (·.1)):=by
 have i1:=c.st.1;have lt:=Zj i1;have p1:Zak (.ref i) (.int 2) (.int (b-1)) h=.ok () (h.set i (.lst [.ref j,.int a,.int (b-1)])):=by simp only[Zak,i1];rfl
 have s1:St3 (h.set i (.lst [.ref j,.int a,.int (b-1)])) i j cs a (b-1):=⟨by rw[Ol lt],by rw[Oc c.st.2.2];exact c.st.2.1,c.st.2.2⟩
 have c1:=c.up Up.set s1 c.ab;obtain⟨v,e2,_⟩:=ZiB H n s1 ⟨c.ab,ha⟩;have lt1:i<(h.set i (.lst [.ref j,.int a,.int (b-1)])).length:=by simpa using lt
 have s2:St3 ((h.set i (.lst [.ref j,.int a,.int (b-1)])).set i (.lst [.ref j,.int (a+1),.int (b-1)])) i j cs (a+1) (b-1):=⟨by rw[Ol lt1],by rw[Oc c.st.2.2];exact s1.2.1,c.st.2.2⟩
 have c2:=c1.up Up.set s2 (by have:=c.ab;lia);generalize hh2:(h.set i (.lst [.ref j,.int a,.int (b-1)])).set i (.lst [.ref j,.int (a+1),.int (b-1)])=h2 at e2 s2 c2;have u2:Up i h h2:=hh2▸Up.set.trans Up.set;have iQ:∀h,opB .Mod (.int v) (.int 29) h=.ok (.int (v%29)) h:=λh=>ZT (by decide);have jV:∀h,opB .FloorDiv (.int v) (.int 29) h=.ok (.int (v/29)) h:=λh=>ZbD (by decide);have m3:∀h,opB .Mod (.int (v/29)) (.int 3) h=.ok (.int (v/29%3)) h:=λh=>ZT (by decide);have jT:∀h,opB .FloorDiv (.int v) (.int 87) h=.ok (.int (v/87)) h:=λh=>ZbD (by decide);have jv:Zau P.GD (.ref i) (.int 2) h=.ok (.int b) h:=by rw[ZG i1];simp
 have dH:∃(w':Str) (h3:Hd),xs1 ⟨P.G,P.GD,run P (n+2),P.L⟩ ZaF [J (.str w),J (.ref k),J (.ref i),J (.ref m),J (.int room),J (.int v),T2,T3,M,M] h2
  = .ok (.nx,[J (.str w'),J (.ref k),J (.ref i),J (.ref m),J (.int room),J (.int v),T2,T3,M,M]) h3/\Up i h2 h3/\Ctx cs ns h3 i j m k sc (a+1) (b-1):=by
  have tt:tst (P.tbl (n+2)) (.ex (.cmp .Eq (.bin .Mod (.var 5) (.ci 29)) (.ci 0))) [J (.str w),J (.ref k),J (.ref i),J (.ref m),J (.int room),J (.int v),T2,T3,M,M] h2=.ok (Wt (v%29=0)) h2:=ZdO ((Ze rfl rfl).trans (iQ h2)) rfl;by_cases hv:v%29=0
  . have go:∀w':Str,atI [D.str (O "n"),.str (O "f"),.str (O "g")] (v/29%3)=J (D.str w')->xs1 (P.tbl (n+2)) ZaF [J (.str w),J (.ref k),J (.ref i),J (.ref m),J (.int room),J (.int v),T2,T3,M,M] h2
     = .ok (.nx,[J (.str w'),J (.ref k),J (.ref i),J (.ref m),J (.int room),J (.int v),T2,T3,M,M]) (h2++[.lst [.str (O "n"),.str (O "f"),.str (O "g")]]):=λw' e=>
     (Zt (Zk tt (decide_eq_true hv))).trans ((Za (Zo (Zgn e rfl ((Ze (x:=.int (v/29)) ((Ze rfl rfl).trans (jV _)) rfl).trans (m3 _)) (by decide)))).trans rfl)
    have q:v/29%3=0\/v/29%3=1\/v/29%3=2:=by lia
    rcases q with q|q|q
    . exact⟨O "n",_,go _ (by rw[q];rfl),Up.app,c2.app⟩
    . exact⟨O "f",_,go _ (by rw[q];rfl),Up.app,c2.app⟩
    . exact⟨O "g",_,go _ (by rw[q];rfl),Up.app,c2.app⟩
  . exact⟨w,h2,(Zg (Zk tt (decide_eq_false hv))).trans rfl,Up.refl,c2⟩
 obtain⟨w',h3,e3,u3,c3⟩:=dH;obtain⟨ys,g,hy,hg,e5⟩:=Znt H (n+1) w' c3.sca (by lia) (λp hp=>(c3.sco p hp).1);refine⟨v,w',ys,h3++g++[.lst (ys.map .str)],h3.length+2,?_,(u2.trans u3).trans (Up.app.trans Up.app),c3.app.app,?_,hy⟩
 . have x1:xs1 ⟨P.G,P.GD,run P (n+2),P.L⟩ ZaG [J (.str w),J (.ref k),J (.ref i),J (.ref m),J (.int room),T1,T2,T3,M,M] h=.ok (.nx,[J (.str w),J (.ref k),J (.ref i),J (.ref m),J (.int room),T1,T2,T3,M,M]) (h.set i (.lst [.ref j,.int a,.int (b-1)])):=by have q:ev (P.tbl (n+2)) (.bin .Sub (.ix (.var 2) (.ci 2)) (.ci 1)) [J (.str w),J (.ref k),J (.ref i),J (.ref m),J (.int room),T1,T2,T3,M,M] h=.ok (.int (b-1)) h:=(Ze (x:=.int b) ((ZF rfl rfl).trans jv) rfl).trans rfl;rw[ZaG,Zgw];show(ev (P.tbl (n+2)) (.bin .Sub (.ix (.var 2) (.ci 2)) (.ci 1)) _ h).bnd _=_;rw[q];show(Zak (.ref i) (.int 2) (.int (b-1)) h).bnd _=_;rw[p1];rfl
   have x2:xs1 ⟨P.G,P.GD,run P (n+2),P.L⟩ Zbg [J (.str w),J (.ref k),J (.ref i),J (.ref m),J (.int room),T1,T2,T3,M,M] (h.set i (.lst [.ref j,.int a,.int (b-1)]))=.ok (.nx,[J (.str w),J (.ref k),J (.ref i),J (.ref m),J (.int room),J (.int v),T2,T3,M,M]) h2:=by exact Zo (Zw e2 rfl)
   have x4:∀q,xs1 ⟨P.G,P.GD,run P (n+2),P.L⟩ Zbf [J (.str w'),J (.ref k),J (.ref i),J (.ref m),J (.int room),J (.int v),q,T3,M,M] h3=.ok (.nx,[J (.str w'),J (.ref k),J (.ref i),J (.ref m),J (.int room),J (.int v),J (.int (v/87)),T3,M,M]) h3:=by exact λq=>Zo ((Ze rfl rfl).trans (jT _))
   have x5:xs1 ⟨P.G,P.GD,run P (n+2),P.L⟩ ZaE [J (.str w'),J (.ref k),J (.ref i),J (.ref m),J (.int room),J (.int v),J (.int (v/87)),T3,M,M] h3=.ok (.nx,[J (.str w'),J (.ref k),J (.ref i),J (.ref m),J (.int room),J (.int v),J (.int (v/87)),J (.ref (h3.length+2)),M,M]) (h3++g++[.lst (ys.map .str)]):=by simp only[ZaE,Zgv,ZgZ,Zfm,Zj2,ZmG,O0,OJ,Option.join_some,ofO_some,Zr,bind_ok,e5];rfl
   exact(Za x1).trans ((Za x2).trans ((Za e3).trans ((Za (x4 _)).trans ((Za x5).trans rfl))))
 . have:h3.length+2=(h3++g).length:=by simp[hg]
   rw[this];simp
end
set_option tactic.hygienic false
section
variable {P:Pg}{cs:List Int}{ns:List Str}{h h':Hd}{i j m k:Nat}{sc:Scp}{a b:Int}
theorem Cl.mono{sc gF:List Str}:∀ {t:T},(∀ x∈sc,x∈gF)->Cl sc t->Cl gF t
 |.num n,_,c=>c
 |.name x,s,c=>s x c
 |.fn x e,s,c=>⟨Cl.mono (t:=e) (λy hy=>by
     rcases O2.mp hy with z|z
     . rw [z];exact Oi
     . exact Oh _ (s y z)) c.1,c.2⟩
 |.rcc f x e,s,c=>⟨Cl.mono (t:=e) (λy hy=>by
     rcases O2.mp hy with z|z
     . rw [z];exact Oi
     . rcases O2.mp z with q|q
       . rw [q];exact Oh _ Oi
       . exact Oh _ (Oh _ (s y q))) c.1,c.2⟩
 |.call f e,s,c=>⟨Cl.mono s c.1,Cl.mono s c.2⟩
 |.iff p q r,s,c=>⟨Cl.mono s c.1,Cl.mono s c.2.1,Cl.mono s c.2.2⟩
 |.op w p q,s,c=>⟨Cl.mono s c.1,Cl.mono s c.2⟩
noncomputable def Zm9(z:Int):Wd:=if z=0 then .add else if z=1 then .sub else if z=2 then .mul else .lt
def wd4(z:Int)(h0:0<=z)(h4:z<4):atI [D.str (O "+"),.str (O "-"),.str (O "*"),.str (O "<")] z=J (.str (Zm9 z).s):=by
 have:z=0\/z=1\/z=2\/z=3:=by lia
 rcases this with rfl|rfl|rfl|rfl<;>simp[Zm9,Wd.s]
noncomputable def me(ac:Int)(k i m:Nat)(room:Int)(a b c d:Option D):Ev:=[J (.int ac),J (.ref k),J (.ref i),J (.ref m),J (.int room),a,b,c,d]
def ZqI(H:Mkr P)(ih:Zkv P r n0)(hn:1<=n0)(n:Nat)(c:Ctx cs ns h i j m k sc a b)(ac:Int)(room:Int)(hr:room<=r)(hl:sc.length+2*r<=50)(ha:a+2*A r<2^50):
 Made cs h i j sc a b 0 (2*A r) (3*r+4) (run P (n+n0+1) (O "_law_number") [.int ac,.ref k,.ref i,.ref m,.int room] h):=by
 have Ap:=Zip r;rw[ZeA H.number rfl];show Made cs h i j sc a b 0 (2*A r) (3*r+4) (Zd (xs2 (P.tbl (n+n0)) ZbK (me ac k i m room M M M M) h));have x1:∀h,xs1 (P.tbl (n+n0)) Zci (me ac k i m room M M M M) h=.ok (.nx,me ac k i m room (J (.int (ac%6))) M M M) h:=λh=>rfl;rw[ZbK,Za (x1 h)];obtain⟨n1,e1⟩:∃n1,n+n0=n1+1:=⟨n+n0-1,by lia⟩
 by_cases h0:ac%6=0
 . obtain⟨t,g,e2,ct,pt⟩:=ZgC H n1 (O "n") (ac/6) h (sc.map (·.1));refine⟨t,h++g,a,b,?_,Up.app,c.st.app,by lia,by lia,ct,by lia,by lia⟩;rw[<-e1]at e2;have x2:xs1 (P.tbl (n+n0)) Za5 (me ac k i m room (J (.int (ac%6))) M M M) h=.ok (.rt t.d,me ac k i m room (J (.int (ac%6))) M M M) (h++g):=(Zt (Zk (ZdO rfl rfl) (decide_eq_true h0))).trans (Zc (Zap e2 rfl rfl));rw[Zc x2];rfl
 . have x2:xs1 (P.tbl (n+n0)) Za5 (me ac k i m room (J (.int (ac%6))) M M M) h=.ok (.nx,me ac k i m room (J (.int (ac%6))) M M M) h:=(Zg (Zk (ZdO rfl rfl) (decide_eq_false h0))).trans rfl;rw[Za x2];have lt:tst (P.tbl (n+n0)) (.ex (.cmp .Lt (.var 5) (.ci 3))) (me ac k i m room (J (.int (ac%6))) M M M) h=.ok (Wt (ac%6<3)) h:=rfl;by_cases h3:ac%6<3
   . obtain⟨t1,g1,a1,b1,e2,u1,s1,l1,l2,c1,p1,z1⟩:=ih n cs ns h i j m k sc a b (O "n") room hr c hl (by lia);have cc:=c.up u1 s1 (by have:=c.ab;lia);obtain⟨t2,g2,a2,b2,e3,u2,s2,l3,l4,c2,p2,z2⟩:=ih n cs ns (g1++[.lst [.str (O "+"),.str (O "-"),.str (O "*"),.str (O "<")]]) i j m k sc a1 b1 (O "n") room hr cc.app hl (by lia);refine⟨.op (Zm9 (ac/6%4)) t1 t2,g2,a2,b2,?_,u1.trans (Up.app.trans u2),s2,by lia,by lia,⟨c1,c2⟩,by simp only[dep];lia,by simp only[fw];clear ih hl ha;lia⟩;have w4:=wd4 (ac/6%4) (by lia) (by lia);have x3:xs1 (P.tbl (n+n0)) Za4 (me ac k i m room (J (.int (ac%6))) M M M) h=.ok (.rt (T.op (Zm9 (ac/6%4)) t1 t2).d,me ac k i m room (J (.int (ac%6))) (J t1.d) M M) g2:=by refine(Zt (Zk lt (decide_eq_true h3))).trans ?_;refine(Za (ρ1:=me ac k i m room (J (.int (ac%6))) (J t1.d) M M) (R:=g1) (Zap e2 rfl rfl)).trans ?_;exact Zc (ZA (ZX (Zb (Zgn w4 rfl rfl (by simp)) (Zb rfl (Zb (Zw e3 rfl) rfl))) (by simp)))
     rw[Zc x3];rfl
   . have w3:∃ws,(ws=O "f" \/ ws=O "g")/\atI [D.str (O "f"),.str (O "f"),.str (O "g")] (ac%6-3)=J (.str ws):=by
      have:ac%6-3=0\/ac%6-3=1\/ac%6-3=2:=by lia
      rcases this with q|q|q<;>rw[q]<;>simp
     obtain⟨ws,i9,w3⟩:=w3;obtain⟨t1,g1,a1,b1,e2,u1,s1,l1,l2,c1,p1,z1⟩:=ih n cs ns (h++[.lst [.str (O "f"),.str (O "f"),.str (O "g")]]) i j m k sc a b ws room hr c.app hl (by lia);have cc:=c.app.up u1 s1 (by have:=c.ab;lia);have dd:∃aH,Zau P.GD (.ref g1.length) (.str ws) (g1++[.dic [(.inr (O "f"),.str (O "n")),(.inr (O "g"),.str (O "f"))]])=.ok (.str aH) (g1++[.dic [(.inr (O "f"),.str (O "n")),(.inr (O "g"),.str (O "f"))]]):=by
      rcases i9 with rfl|rfl
      . exact⟨O "n",by simp[Zau,dicOf,ZU]⟩
      . exact⟨O "f",by simp[Zau,dicOf,ZU]⟩
     obtain⟨aH,dd⟩:=dd;obtain⟨t2,g2,a2,b2,e3,u2,s2,l3,l4,c2,p2,z2⟩:=ih n cs ns (g1++[.dic [(.inr (O "f"),.str (O "n")),(.inr (O "g"),.str (O "f"))]]) i j m k sc a1 b1 aH room hr cc.app hl (by lia);refine⟨.call t1 t2,g2,a2,b2,?_,Up.app.trans (u1.trans (Up.app.trans u2)),s2,by lia,by lia,⟨c1,c2⟩,by simp only[dep];lia,by simp only[fw];clear ih hl ha;lia⟩;have x3:xs1 (P.tbl (n+n0)) Za4 (me ac k i m room (J (.int (ac%6))) M M M) h=.ok (.nx,me ac k i m room (J (.int (ac%6))) M M M) h:=(Zg (Zk lt (decide_eq_false h3))).trans rfl;have x4:xs1 (P.tbl (n+n0)) Zch (me ac k i m room (J (.int (ac%6))) M M M) h=.ok (.nx,me ac k i m room (J (.int (ac%6))) M (J (.str ws)) M) (h++[.lst [.str (O "f"),.str (O "f"),.str (O "g")]]):=Zo (i:=7) (Zgn w3 rfl rfl (by simp));have x5:xs1 (P.tbl (n+n0)) Zcg (me ac k i m room (J (.int (ac%6))) M (J (.str ws)) M) (h++[.lst [.str (O "f"),.str (O "f"),.str (O "g")]])=.ok (.nx,me ac k i m room (J (.int (ac%6))) M (J (.str ws)) (J t1.d)) g1:=Zap e2 rfl rfl;have p6:ev (P.tbl (n+n0)) (.ix (.dictl (.cons (.Ci_ "f") (.cons (.Ci_ "n") (.cons (.Ci_ "g") (.cons (.Ci_ "f") .nil))))) (.var 7)) (me ac k i m room (J (.int (ac%6))) M (J (.str ws)) (J t1.d)) g1=.ok (.str aH) (g1++[.dic [(.inr (O "f"),.str (O "n")),(.inr (O "g"),.str (O "f"))]]):=dd;have x6:xs1 (P.tbl (n+n0)) Zcf (me ac k i m room (J (.int (ac%6))) M (J (.str ws)) (J t1.d)) g1=.ok (.rt (T.call t1 t2).d,me ac k i m room (J (.int (ac%6))) M (J (.str ws)) (J t1.d)) g2:=ZA (ZX (Zb rfl (Zb rfl (Zb ((Zrk (Zb p6 rfl)).trans e3) rfl))) (by simp));rw[Za x3,Za x4,Za x5,Zc x6];rfl
def Ctx.wider(c:Ctx cs ns h i j m k sc a b)(more:Scp)(hm:∀p∈more,Wl 20 p.1):Ctx cs ns (h++[.lst (more.map pairOf),.lst ((sc++more).map pairOf)]) i j m (h.length+1) (sc++more) a b:=by
 have c1:=c.app (g:=[.lst (more.map pairOf),.lst ((sc++more).map pairOf)]);refine⟨c1.st,c1.nm,c1.n5,c1.nok,c1.nd,by unfold Zld;simp,λp hp=>?_,c1.im,?_,c1.ab⟩
 . rcases OD.mp hp with z|z
   . exact c.sco p z
   . exact hm p z
 . have:=Zj c.st.1
   lia
def Zg2(c:Ctx cs ns h i j m k sc a b)(more:Scp)(hz:sc.length+more.length<=100):opB .Add (.ref k) (.ref h.length) (h++[.lst (more.map pairOf)])=.ok (.ref (h.length+1)) (h++[.lst (more.map pairOf),.lst ((sc++more).map pairOf)]):=by
 have hk:(h++[DO.lst (more.map pairOf)])[k]?=J (.lst (sc.map pairOf)):=by rw[Oe (Zj c.sca)];exact c.sca
 simp only[opB,Zlc,hk,ZaN];rw[if_pos (by simp;rw[YA];lia)];simp
def Zr7{sc:Scp}{x s:Str}:∀y∈(sc++[(x,s)]).map (·.1),y∈x::sc.map (·.1):=λy hy=>by
 rw[List.map_append]at hy;rcases OD.mp hy with z|z
 . exact Oh _ z
 . have:y=x:=by simpa using z
   rw[this];exact Oi
def unlike{ns:List Str}(n5:ns.length=5)(nd:ns.Nodup){x f:Str}{ac:Int}(ax:ns[(ac%5).toNat]?=J x)(af:ns[((ac%5+1+ac/15%4)%5).toNat]?=J f):f≠x:=λe=>by
 have q:=(List.getElem?_inj (i:=(ac%5).toNat) (j:=((ac%5+1+ac/15%4)%5).toNat) (by rw[n5];lia) nd).mp (by rw[ax,af,e])
 lia
noncomputable def fe(w:Str)(ac:Int)(k i m:Nat)(room:Int)(a b c d:Option D):Ev:=[J (.str w),J (.int ac),J (.ref k),J (.ref i),J (.ref m),J (.int room),a,b,c,d]
def Zs4{N:Nat}{s:Str}{w:Str}{ac:Int}{room:Int}{x:Str}{t1:T}{g1 R:Hd}(hc:opB .Add (.ref k) (.ref h.length) (h++[.lst ([(x,s)].map pairOf)])=.ok (.ref (h.length+1)) R)(e1:run P N (O "_law_any") [.str (O "n"),.ref (h.length+1),.ref i,.ref m,.int room] R=.ok t1.d g1):ev (P.tbl N) (.tupl (.cons (.Ci_ "fn") (.cons (.var 6) (.cons (.call (O "_law_any") (.cons (.Ci_ "n") (.cons (.bin .Add (.var 2) (.lstl (.cons (.tupl (.cons (.var 6) (.cons (.cst (.str s)) .nil))) .nil))) (.cons (.var 3) (.cons (.var 4) (.cons (.var 5) .nil)))))) .nil)))) (fe w ac k i m room (J (.str x)) M M M) h=.ok (T.fn x t1).d g1:=by have b:ev (P.tbl N) (.bin .Add (.var 2) (.lstl (.cons (.tupl (.cons (.var 6) (.cons (.cst (.str s)) .nil))) .nil))) (fe w ac k i m room (J (.str x)) M M M) h=.ok (.ref (h.length+1)) R:=(Ze (x:=.ref k) (y:=.ref h.length) (R:=h) (h2:=h++[.lst ([(x,s)].map pairOf)]) rfl rfl).trans hc;exact ZX (Zb rfl (Zb rfl (Zb ((Zrk (Zb rfl (Zb b rfl))).trans e1) rfl))) (by simp)
def Zq9(H:Mkr P){r n0:Nat}(ih:Zkv P r n0)(n:Nat)(c:Ctx cs ns h i j m k sc a b)(w:Str)(ac:Int)(room:Int)(hr:room<=r)(hl:sc.length+2+2*r<=50)(ha:a+2*A r<2^50):
 Made cs h i j sc a b 3 (2*A r) (3*r+6) (run P (n+n0+1) (O "_law_function") [.str w,.int ac,.ref k,.ref i,.ref m,.int room] h):=by
 have Ap:=Zip r;have eI:=c.ab;rw[ZeA H.function rfl];obtain⟨x,ex,wx,ax⟩:=c.name (GD:=P.GD) (ac%5) (by clear ih ha eI hl hr;lia) (by clear ih ha eI hl hr;lia);show Made cs h i j sc a b 3 (2*A r) (3*r+6) (Zd (xs2 (P.tbl (n+n0)) (.cons ZaA (.cons Z4 (.cons Z3 (.cons Zaz (.cons Zay (.cons Zax (.cons Z2 (.cons Z1 .nil)))))))) (fe w ac k i m room M M M M) h));have x1:xs1 (P.tbl (n+n0)) ZaA (fe w ac k i m room M M M M) h=.ok (.nx,fe w ac k i m room (J (.str x)) M M M) h:=by exact Zo (i:=6) ex
 rw[Za x1];by_cases hg:w=O "g"
 . have hc:=Zg2 c [(x,O "f")] (by simp;lia);obtain⟨t1,g1,a1,b1,e1,u1,s1,l1,l2,c1,p1,z1⟩:=ih n cs ns _ i j m (h.length+1) (sc++[(x,O "f")]) a b (O "n") room hr (c.wider [(x,O "f")] (by simp[wx])) (by simp;lia) (by lia);refine⟨.fn x t1,g1,a1,b1,?_,Up.app.trans u1,s1,l1,by lia,⟨Cl.mono (t:=t1) Zr7 c1,wx⟩,by simp only[dep];lia,by simp only[fw];clear ih hl ha;lia⟩;have e:xs1 (P.tbl (n+n0)) Z4 (fe w ac k i m room (J (.str x)) M M M) h=.ok (.rt (T.fn x t1).d,fe w ac k i m room (J (.str x)) M M M) g1:=by subst hg;exact(Zt rfl).trans (Zc (ZA (Zs4 hc e1)))
   rw[Zc e];rfl
 have x2:xs1 (P.tbl (n+n0)) Z4 (fe w ac k i m room (J (.str x)) M M M) h=.ok (.nx,fe w ac k i m room (J (.str x)) M M M) h:=by exact(Zg (Zk (ZR rfl rfl) (decide_eq_false hg))).trans rfl
 rw[Za x2];by_cases h3:ac/5%3=0
 . have hc:=Zg2 c [(x,O "n")] (by simp;lia);obtain⟨t1,g1,a1,b1,e1,u1,s1,l1,l2,c1,p1,z1⟩:=ih n cs ns _ i j m (h.length+1) (sc++[(x,O "n")]) a b (O "n") room hr (c.wider [(x,O "n")] (by simp[wx])) (by simp;lia) (by lia);refine⟨.fn x t1,g1,a1,b1,?_,Up.app.trans u1,s1,l1,by lia,⟨Cl.mono (t:=t1) Zr7 c1,wx⟩,by simp only[dep];lia,by simp only[fw];clear ih hl ha;lia⟩;have e:xs1 (P.tbl (n+n0)) Z3 (fe w ac k i m room (J (.str x)) M M M) h=.ok (.rt (T.fn x t1).d,fe w ac k i m room (J (.str x)) M M M) g1:=(Zt (Zk (ZdO (x:=ac/5%3) rfl rfl) (decide_eq_true h3))).trans (Zc (ZA (Zs4 hc e1)));rw[Zc e];rfl
 have x3:xs1 (P.tbl (n+n0)) Z3 (fe w ac k i m room (J (.str x)) M M M) h=.ok (.nx,fe w ac k i m room (J (.str x)) M M M) h:=by exact(Zg (Zk (ZdO (x:=ac/5%3) rfl rfl) (decide_eq_false h3))).trans rfl
 obtain⟨f,ef,wf,af⟩:=c.name (GD:=P.GD) ((ac%5+1+ac/15%4)%5) (by clear ih ha eI hl hr;lia) (by clear ih ha eI hl hr;lia);have iL:f≠x:=unlike c.n5 c.nd ax af;have x4:xs1 (P.tbl (n+n0)) Zaz (fe w ac k i m room (J (.str x)) M M M) h=.ok (.nx,fe w ac k i m room (J (.str x)) (J (.str f)) M M) h:=by exact Zo (i:=7) ef
 have hc:=Zg2 c [(f,O "f"),(x,O "n")] (by simp;lia);have cw:=c.wider [(f,O "f"),(x,O "n")] (by simp[wx,wf]);have sub:∀y∈(sc++[(f,O "f"),(x,O "n")]).map (·.1),y∈x::f::sc.map (·.1):=λy hy=>by simp at hy ⊢;rcases hy with z|z|z<;>simp[z]
 generalize hh1:(h++[DO.lst ([(f,O "f"),(x,O "n")].map pairOf),.lst ((sc++[(f,O "f"),(x,O "n")]).map pairOf)])=R at hc cw;have ug:Up i h R:=by rw[<-hh1];exact Up.app
 have fc:R.length=h.length+2:=by rw[<-hh1];simp
 have x5:xs1 (P.tbl (n+n0)) Zay (fe w ac k i m room (J (.str x)) (J (.str f)) M M) h=.ok (.nx,fe w ac k i m room (J (.str x)) (J (.str f)) (J (.ref (h.length+1))) M) R:=by exact Zo (i:=8) ((Ze (x:=.ref k) (y:=.ref h.length) (R:=h) (h2:=h++[.lst ([(f,O "f"),(x,O "n")].map pairOf)]) rfl rfl).trans hc)
 have x6:xs1 (P.tbl (n+n0)) Zax (fe w ac k i m room (J (.str x)) (J (.str f)) (J (.ref (h.length+1))) M) R=.ok (.nx,fe w ac k i m room (J (.str x)) (J (.str f)) (J (.ref (h.length+1))) (J (T.call (.name f) (.op .sub (.name x) (.num 1))).d)) R:=by exact rfl
 rw[Za x3,Za x4,Za x5,Za x6];generalize bj:sc++[(f,O "f"),(x,O "n")]=sc1 at cw sub hh1;have j8:sc1.length=sc.length+2:=by rw[<-bj];simp
 clear x1 x2 x3 x4 x5 x6 hc hh1 bj ex ef;have last:∀(t1:T) (g1:Hd) (a1 b1:Int),Up i R g1->St3 g1 i j cs a1 b1->a<=a1->a1<=a+A r->Cl (x::f::sc.map (·.1)) t1->dep t1<=3*r+4->fw t1<=3*(pz b-pz b1) ->
  xs1 (P.tbl (n+n0)) Z2 (fe w ac k i m room (J (.str x)) (J (.str f)) (J (.ref (h.length+1))) (J (T.call (.name f) (.op .sub (.name x) (.num 1))).d)) R=.ok (.nx,fe w ac k i m room (J (.str x)) (J (.str f)) (J (.ref (h.length+1))) (J t1.d)) g1 ->
  Made cs h i j sc a b 3 (2*A r) (3*r+6) (Zd (xs2 (P.tbl (n+n0)) (.cons Z2 (.cons Z1 .nil)) (fe w ac k i m room (J (.str x)) (J (.str f)) (J (.ref (h.length+1))) (J (T.call (.name f) (.op .sub (.name x) (.num 1))).d)) R)):=by
  intro t1 g1 a1 b1 u1 s1 l1 l2 c1 p1 z1 x7;rw[Za x7];obtain⟨t2,g2,a2,b2,e2,u2,s2,l3,l4,c2,p2,z2⟩:=ih n cs ns g1 i j m (h.length+1) sc1 a1 b1 (O "n") (room-1) (by clear ha;lia) (cw.up u1 s1 (by clear hl ha hr;lia)) (by clear ha hr;lia) (by clear hl hr;lia);refine⟨.rcc f x (.iff (.name x) t1 t2),g2,a2,b2,?_,ug.trans (u1.trans u2),s2,Int.le_trans l1 l3,by clear hl hr ha;lia,⟨⟨Oi,c1,Cl.mono sub c2⟩,iL,wf,wx⟩,by simp only[dep];clear hl hr ha;lia,by simp only[fw];clear hl hr ha ih;lia⟩;have e:xs1 (P.tbl (n+n0)) Z1 (fe w ac k i m room (J (.str x)) (J (.str f)) (J (.ref (h.length+1))) (J t1.d)) g1=.ok (.rt (T.rcc f x (.iff (.name x) t1 t2)).d,fe w ac k i m room (J (.str x)) (J (.str f)) (J (.ref (h.length+1))) (J t1.d)) g2:=by exact ZA (ZX (Zb rfl (Zb rfl (Zb rfl (Zb (ZX (Zb rfl (Zb rfl (Zb rfl (Zb (Zw e2 rfl) rfl)))) (by simp)) rfl)))) (by simp))
  rw[Zc e];rfl
 by_cases q0:ac/60%3=0
 . obtain⟨t1,g1,a1,b1,e1,u1,s1,l1,l2,c1,p1,z1⟩:=ih n cs ns R i j m (h.length+1) sc1 a b (O "n") room hr cw (by clear ha hr;lia) (by clear hl hr;lia);refine last t1 g1 a1 b1 u1 s1 l1 l2 (Cl.mono sub c1) (by lia) (by lia) ?_;exact(Zt (Zk (ZdO (x:=ac/60%3) rfl rfl) (decide_eq_true q0))).trans (Za (Zap e1 rfl rfl))
 . by_cases q1:ac/60%3=1
   . have w2:∃wd:Wd,atI [D.str (O "+"),.str (O "*")] (ac/180%2)=J (.str wd.s):=by
      have:ac/180%2=0\/ac/180%2=1:=by clear ih ha hl hr q0 q1;lia
      rcases this with z|z<;>rw[z]
      . exact⟨.add,by simp[Wd.s]⟩
      . exact⟨.mul,by simp[Wd.s]⟩
     obtain⟨wd,w2⟩:=w2;obtain⟨t1,g1,a1,b1,e1,u1,s1,l1,l2,c1,p1,z1⟩:=ih n cs ns _ i j m (h.length+1) sc1 a b (O "n") (room-1) (by clear ha;lia) (cw.app (g:=[.lst [.str (O "+"),.str (O "*")]])) (by clear ha hr;lia) (by clear hl hr;lia);refine last (.op wd t1 (.call (.name f) (.op .sub (.name x) (.num 1)))) g1 a1 b1 (Up.app.trans u1) s1 l1 l2 ⟨Cl.mono sub c1,Oh _ Oi,Oi,by show(0:Int)<=1/\(1:Int)<1000000;decide⟩ (by simp only[dep];clear hl hr ha;lia) (by simp only[fw];clear hl hr ha ih;lia) ?_;exact(Zg (Zk (ZdO (x:=ac/60%3) rfl rfl) (decide_eq_false q0))).trans (Za ((Zt (Zk (ZdO (x:=ac/60%3) rfl rfl) (decide_eq_true q1))).trans (Za (Zo (i:=9) (ZX (Zb (Zgn w2 rfl rfl (by simp)) (Zb (Zw e1 rfl) rfl)) (by simp))))))
   . refine last (.call (.name f) (.op .sub (.name x) (.num 1))) R a b Up.refl cw.st (Int.le_refl _) (by lia) ⟨Oh _ Oi,Oi,by show(0:Int)<=1/\(1:Int)<1000000;decide⟩ (by simp only[dep];lia) (by simp only[fw];lia) ?_;exact(Zg (Zk (ZdO (x:=ac/60%3) rfl rfl) (decide_eq_false q0))).trans (Za ((Zg (Zk (ZdO (x:=ac/60%3) rfl rfl) (decide_eq_false q1))).trans rfl))
theorem ZjB(rd:Nat->Option PyData):∀ys:List Str,D.pys rd (ys.map D.str)=J (ys.map PyData.str)
 |[]=>rfl
 |y::ys=>by rw[Op,D.pys,ZjB rd ys];rfl
def ZqJ{l:Nat}{ys:List Str}(e:h[l]?=J (.lst (ys.map .str))):Zbu Wr (.ref l) (.ref h.length) (h++[.lst []])=.ok (.bl (!ys.isEmpty)) (h++[.lst []]):=by
 have e1:(h++[DO.lst []])[l]?=J (.lst (ys.map .str)):=by rw[Oe (Zj e)];exact e
 have p1:ZfK (h++[.lst []]) (.ref l)=J (.list (ys.map .str)):=by show Zee (h++[.lst []]) 4 l=_;rw[Zee,e1];simp[ZjB]
 have p2:ZfK (h++[DO.lst []]) (.ref h.length)=J (.list []):=by show Zee (h++[.lst []]) 4 h.length=_;rw[Zee,ZaN];rfl
 unfold IV.Zbu;rw[p1,p2];simp only;have d0:min (PyData.list (ys.map .str)).depth (PyData.list []).depth<=1100:=by
  have:(PyData.list []).depth<=1:=by decide +kernel
  lia
 rw[if_pos d0];cases ys with
 |nil=>rfl
 |cons y r=>rfl
def Zc5{U:Tb}{kz:Sxs}{ρ':Ev}{h':Hd}{s:Sx}{A B_:Sxs}{S:Ev}{h:Hd}(e:xs2 U (.cons s A) S h=.ok (.nx,ρ') h')(q:∀ρ1 R,xs2 U A ρ1 R=.ok (.nx,ρ') h'->xs2 U B_ ρ1 R=xs2 U kz ρ' h'):xs2 U (.cons s B_) S h=xs2 U kz ρ' h':=by
 rw[ZeI]at e ⊢;cases r1:xs1 U s S h with
 |bad=>rw[r1]at e;cases e
 |exc c R=>rw[r1]at e;cases e
 |ok p R=>
  rw[r1]at e;obtain⟨fl,ρ1⟩:=p;cases fl with
  |nx=>exact q ρ1 R e
  |bk=>cases e
  |ct=>cases e
  |rt d=>cases e
def ZrH(kz:Sxs)(e:xs2 U (.cons s1 (.cons s2 (.cons s3 (.cons s4 (.cons s5 .nil))))) S h=.ok (.nx,ρ') h'):xs2 U (.cons s1 (.cons s2 (.cons s3 (.cons s4 (.cons s5 kz))))) S h=xs2 U kz ρ' h':=Zc5 e λ_ _ e=>Zc5 e λ_ _ e=>Zc5 e λ_ _ e=>Zc5 e λ_ _ e=>Zc5 e λ_ _ e=>by cases e;rfl
noncomputable def ae(w:Str)(k i m:Nat)(room v q:Int)(l:Nat)(a b:Option D):Ev:=[J (.str w),J (.ref k),J (.ref i),J (.ref m),J (.int room),J (.int v),J (.int q),J (.ref l),a,b]
def any_gen(H:Mkr P)(n1:Nat)(c:Ctx cs ns h i j m k sc a b)(w:Str)(room:Int)(mx:Int)(dm:Nat)(kh:2<=dm)(hl:sc.length<=50)(ha:a<2^50)(ke:1<=mx)
 (rc:1<=room->∃r n0 n',room-1<=(r:Nat)/\Zkv P r n0/\n1+2=n'+n0+1/\1<=n0/\sc.length+2+2*r<=50/\1+3*A r<=mx/\a+mx<2^50/\3*r+6<=dm) :
 Made cs h i j sc a b 0 mx dm (run P (n1+3) (O "_law_any") [.str w,.ref k,.ref i,.ref m,.int room] h):=by
 have eI:=c.ab;rw[ZeA H.any rfl];obtain⟨v,w',ys,h5,l,e5,u5,c5,hy,i7⟩:=ZmZ H n1 c w room hl ha M M M;have st:ZL Zcy.N [.str w,.ref k,.ref i,.ref m,.int room]=[J (.str w),J (.ref k),J (.ref i),J (.ref m),J (.int room),M,M,M,M,M]:=rfl;rw[st,show Zcy.body=.cons ZaG (.cons Zbg (.cons ZaF (.cons Zbf (.cons ZaE (.cons ZaD (.cons Zaf (.cons Zbe (.cons ZaC (.cons Zar (.cons ZaW .nil))))))))))from rfl,ZrH _ e5];show Made cs h i j sc a b 0 mx dm (Zd (xs2 (P.tbl (n1+2)) (.cons ZaD (.cons Zaf (.cons Zbe (.cons ZaC (.cons Zar (.cons ZaW .nil)))))) (ae w' k i m room v (v/87) l M M) h5));have nn:=ZqJ hy;have t1:tst (P.tbl (n1+2)) (.ex (.cmp .NotEq (.var 7) (.lstl .nil))) (ae w' k i m room v (v/87) l M M) h5=.ok (!ys.isEmpty) (h5++[.lst []]):=ZaH ((Zv (x:=.ref l) (y:=.ref h5.length) (R:=h5) (h2:=h5++[DO.lst []]) rfl rfl).trans nn);have t2:∀h,tst (P.tbl (n1+2)) (.ex (.cmp .Eq (.bin .Mod (.var 6) (.ci 3)) (.ci 0))) (ae w' k i m room v (v/87) l M M) h=.ok (Wt (v/87%3=0)) h:=λh=>ZdO rfl rfl;have t8:∀h,tst (P.tbl (n1+2)) (.ex (.cmp .Eq (.bin .Mod (.var 6) (.ci 8)) (.ci 0))) (ae w' k i m room v (v/87/30) l M M) h=.ok (Wt (v/87/30%8=0)) h:=λh=>ZdO rfl rfl;by_cases hn:ys.isEmpty=Ws/\v/87%3=0
 ·
  have hp:0<ys.length:=by
   cases ys with
   |nil=>simp at hn
   |cons y r=>simp
  have ix:opB .Mod (.int (v/87/3)) (.int ys.length) (h5++[.lst []])=.ok (.int (v/87/3%ys.length)) (h5++[.lst []]):=ZT (by lia);have hb:(0:Int)<=v/87/3%ys.length/\v/87/3%ys.length<ys.length:=⟨Int.emod_nonneg _ (by lia),Int.emod_lt_of_pos _ (by lia)⟩
  obtain⟨q,hq⟩:∃q:Nat,v/87/3%ys.length=q:=⟨(v/87/3%ys.length).toNat,by lia⟩
  have gR:q<ys.length:=by lia
  have gT:(h5++[DO.lst []])[l]?=J (.lst (ys.map .str)):=by rw[Oe (Zj hy)];exact hy
  have len:ZaJ P.GD .len [.ref l] (h5++[.lst []])=.ok (.int ys.length) (h5++[.lst []]):=by simp only[ZaJ,ZmV,seqOf,lstOf,gT];simp
  have jX:Zau P.GD (.ref l) (.int (q:Int)) (h5++[.lst []])=.ok (.str ys[q]) (h5++[.lst []]):=by rw[ZG gT,IV.Zas,On,Og gR];rfl
  refine⟨.name ys[q],h5++[.lst []],a+1,b-1,?_,u5.trans Up.app,c5.st.app,by lia,by lia,i7 _ (List.getElem_mem gR),Yv _,by simp only[fw,pz];lia⟩;have x6:xs1 (P.tbl (n1+2)) ZaD (ae w' k i m room v (v/87) l M M) h5=.ok (.rt (T.name ys[q]).d,(ae w' k i m room v (v/87) l M M)) (h5++[.lst []]):=by have el:ev (P.tbl (n1+2)) (.blt .len (.cons (.var 7) .nil)) (ae w' k i m room v (v/87) l M M) (h5++[.lst []])=.ok (.int ys.length) (h5++[.lst []]):=len;have ei:ev (P.tbl (n1+2)) (.bin .Mod (.bin .FloorDiv (.var 6) (.ci 3)) (.blt .len (.cons (.var 7) .nil))) (ae w' k i m room v (v/87) l M M) (h5++[.lst []])=.ok (.int (q:Int)) (h5++[.lst []]):=(Ze (x:=.int (v/87/3)) rfl el).trans (ix.trans (by rw[hq]));rw[hn.1]at t1;exact(Zt (ZpB t1 (Zk (t2 _) (decide_eq_true hn.2)))).trans (Zc (ZA (ZX (Zb rfl (Zb ((ZF (x:=.ref l) rfl ei).trans jX) rfl)) (by simp))))
  rw[Zc x6];rfl
 . have x6:xs1 (P.tbl (n1+2)) ZaD (ae w' k i m room v (v/87) l M M) h5
    = .ok (.nx,(ae w' k i m room v (v/87) l M M)) (h5++[.lst []]):=by
    cases q:ys.isEmpty with
    |true=>rw[q]at t1;exact(Zg (Ztm t1)).trans rfl
    |false=>rw[q]at t1;have h3:¬ v/87%3=0:=λz=>hn ⟨q,z⟩;exact(Zg (ZpB t1 (Zk (t2 _) (decide_eq_false h3)))).trans rfl
   have c6:=c5.app (g:=[.lst []]);have u6:=u5.trans (Up.app (i:=i) (g:=[.lst []]));clear t1 nn;generalize hh6:h5++[.lst []]=h6 at x6 c6 u6;rw[Za x6];have iZ:Zau P.GD (.ref i) (.int 2) h6=.ok (.int (b-1)) h6:=by rw[ZG c6.st.1];simp
   have r1:tst (P.tbl (n1+2)) (.ex (.cmp .Lt (.var 4) (.ci 1))) (ae w' k i m room v (v/87) l M M) h6=.ok (Wt (room<1)) h6:=rfl;have r2:tst (P.tbl (n1+2)) (.ex (.cmp .Lt (.ix (.var 2) (.ci 2)) (.ci 0))) (ae w' k i m room v (v/87) l M M) h6=.ok (Wt (b-1<0)) h6:=ZaH ((Zv (y:=.int 0) (h2:=h6) ((ZF (x:=.ref i) (y:=.int 2) rfl rfl).trans iZ) rfl).trans rfl);obtain⟨t,g,ep,ct,pt⟩:=ZgC H (n1+1) w' (v/87/3) h6 (sc.map (·.1));by_cases hr:room<1
   . refine⟨t,h6++g,a+1,b-1,?_,u6.trans Up.app,c6.st.app,by lia,by lia,ct,by lia,by simp only[pz];lia⟩;have x7:xs1 (P.tbl (n1+2)) Zaf (ae w' k i m room v (v/87) l M M) h6=.ok (.rt t.d,(ae w' k i m room v (v/87) l M M)) (h6++g):=(Zt (Zqx (Zk r1 (decide_eq_true hr)))).trans (Zc (Zap ep rfl rfl));rw[Zc x7];rfl
   . by_cases hb:b-1<0
     . refine⟨t,h6++g,a+1,b-1,?_,u6.trans Up.app,c6.st.app,by lia,by lia,ct,by lia,by simp only[pz];lia⟩;have x7:xs1 (P.tbl (n1+2)) Zaf (ae w' k i m room v (v/87) l M M) h6=.ok (.rt t.d,(ae w' k i m room v (v/87) l M M)) (h6++g):=(Zt (ZeZ (Zk r1 (decide_eq_false hr)) (Zk r2 (decide_eq_true hb)))).trans (Zc (Zap ep rfl rfl));rw[Zc x7];rfl
     . obtain⟨r,n0,n',q1,ih,q2,q3,q4,q5,q6,q7⟩:=rc (by lia);have Ap:=Zip r;have x7:xs1 (P.tbl (n1+2)) Zaf (ae w' k i m room v (v/87) l M M) h6
        = .ok (.nx,(ae w' k i m room v (v/87) l M M)) h6:=by
        exact(Zg (ZeZ (Zk r1 (decide_eq_false hr)) (Zk r2 (decide_eq_false hb)))).trans rfl
       have x8:xs1 (P.tbl (n1+2)) Zbe (ae w' k i m room v (v/87) l M M) h6
        = .ok (.nx,(ae w' k i m room v (v/87/30) l M M)) h6:=by
        exact rfl
       rw[Za x7,Za x8];have pb:pz b=pz (b-1)+1:=by simp only[pz];lia
       by_cases h8:v/87/30%8=0
       . obtain⟨t1,g1,a1,b1,e1,u1,s1,l1,l2,c1,p1,z1⟩:=ih (n'+1) cs ns h6 i j m k sc (a+1) (b-1) (O "n") (room-1) q1 c6 (by lia) (by lia);have ig:=c6.up u1 s1 (by lia);obtain⟨t2,g2,a2,b2,e2,u2,s2,l3,l4,c2,p2,z2⟩:=ih (n'+1) cs ns g1 i j m k sc a1 b1 w' (room-1) q1 ig (by lia) (by lia);have jW:=ig.up u2 s2 (by lia);obtain⟨t3,g3,a3,b3,e3,u3,s3,l5,l6,c3,p3,z3⟩:=ih (n'+1) cs ns g2 i j m k sc a2 b2 w' (room-1) q1 jW (by lia) (by lia);rw[show n'+1+n0=n1+2 by lia]at e1 e2 e3;refine⟨.iff t1 t2 t3,g3,a3,b3,?_,u6.trans (u1.trans (u2.trans u3)),s3,by lia,by lia,⟨c1,c2,c3⟩,by simp only[dep];lia,by simp only[fw];rw[pb];clear ih rc;lia⟩;have x9:xs1 (P.tbl (n1+2)) ZaC (ae w' k i m room v (v/87/30) l M M) h6=.ok (.rt (T.iff t1 t2 t3).d,(ae w' k i m room v (v/87/30) l (J t1.d) (J t2.d))) g3:=by refine(Zt (Zk (t8 _) (decide_eq_true h8))).trans ?_;refine(Za (ρ1:=ae w' k i m room v (v/87/30) l (J t1.d) M) (R:=g1) (Zap e1 rfl rfl)).trans ?_;refine(Za (ρ1:=ae w' k i m room v (v/87/30) l (J t1.d) (J t2.d)) (R:=g2) (Zap e2 rfl rfl)).trans ?_;exact Zc (Zap e3 rfl rfl)
         rw[Zc x9];rfl
       . have x9:xs1 (P.tbl (n1+2)) ZaC (ae w' k i m room v (v/87/30) l M M) h6=.ok (.nx,(ae w' k i m room v (v/87/30) l M M)) h6:=(Zg (Zk (t8 _) (decide_eq_false h8))).trans rfl;rw[Za x9];by_cases hw:w'=O "n"
         . obtain⟨t1,g1,a1,b1,e1,u1,s1,l1,l2,c1,p1,z1⟩:=ZqI H ih q3 n' c6 (v/87/30/8) (room-1) q1 (by lia) (by lia);rw[<-q2]at e1;refine⟨t1,g1,a1,b1,?_,u6.trans u1,s1,by lia,by lia,c1,by lia,by rw[pb];clear ih rc;lia⟩;have cE:xs1 (P.tbl (n1+2)) Zar (ae w' k i m room v (v/87/30) l M M) h6=.ok (.rt t1.d,(ae w' k i m room v (v/87/30) l M M)) g1:=(Zt (Zk (ZR rfl rfl) (decide_eq_true hw))).trans (Zc (Zap e1 rfl rfl));rw[Zc cE];rfl
         . obtain⟨t1,g1,a1,b1,e1,u1,s1,l1,l2,c1,p1,z1⟩:=Zq9 H ih n' c6 w' (v/87/30/8) (room-1) q1 (by lia) (by lia);rw[<-q2]at e1;refine⟨t1,g1,a1,b1,?_,u6.trans u1,s1,by lia,by lia,c1,by lia,by rw[pb];clear ih rc;lia⟩;have cE:xs1 (P.tbl (n1+2)) Zar (ae w' k i m room v (v/87/30) l M M) h6=.ok (.nx,(ae w' k i m room v (v/87/30) l M M)) h6:=(Zg (Zk (ZR rfl rfl) (decide_eq_false hw))).trans rfl;have fD:xs1 (P.tbl (n1+2)) ZaW (ae w' k i m room v (v/87/30) l M M) h6=.ok (.rt t1.d,(ae w' k i m room v (v/87/30) l M M)) g1:=Zap e1 rfl rfl;rw[Za cE,Zc fD];rfl
theorem ZmY(H:Mkr P):∀r:Nat,Zkv P r (2*r+3)
 |0=>λn cs ns h i j m k sc a b w room hr c hl ha=>by have:=any_gen H n c w room (A 0) 3 (by decide) (by lia) (by have:=Zip 0;lia) (by decide) (λz=>by lia);exact this
 |r+1=>λn cs ns h i j m k sc a b w room hr c hl ha=>by have Ap:=Zip r;have As:=ZrD r;have:=any_gen H (n+2*r+2) c w room (A (r+1)) (3*(r+1)+3) (by lia) (by lia) (by lia) (by lia) (λ_=>⟨r,2*r+3,n,by lia,ZmY H r,by lia,by lia,by lia,by lia,by lia,by lia⟩);rw[show n+(2*(r+1)+3)=n+2*r+2+3 by lia];exact this
end
set_option tactic.hygienic true
section
noncomputable def Zgh:T->List D
 |.num n=>[.str (O "num"),.int n]
 |.name x=>[.str (O "name"),.str x]
 |.fn x _=>[.str (O "fn"),.str x]
 |.rcc f x _=>[.str (O "rec"),.str f,.str x]
 |.call _ _=>[.str (O "call")]
 |.iff _ _ _=>[.str (O "if")]
 |.op w _ _=>[.str w.s]
def Zi7(t:T):t.d=.tup (Zgh t++t.parts.map T.d):=by cases t<;>rfl
noncomputable def ZgS:D->Bool
 |.str _|.int _=>Wr
 |_=>Ws
def Zfd(t:T):∀d∈Zgh t,ZgS d=Wr:=by cases t<;>simp[Zgh,ZgS]
def Zmx(hf:ZgS d=Wr):ZaJ GD .isi [d,.ty "tuple"] h=.ok (.bl Ws) h:=by
 cases d with
 |str x=>rfl
 |int x=>rfl
 |_=>cases hf
def ZjW:ZaJ GD .isi [.tup xs,.ty "tuple"] h=.ok (.bl Wr) h:=rfl
abbrev isT:Tx:=.ex (.blt .isi (.w V0 (.cst (.ty "tuple"))))
theorem ZcW{U:Tb}{ag ac:List D}:∀ds:List D,(∀d∈ds,ZgS d=Wr)->ag.length<sizeLine->Zz M (.nm 0) (tsto U (J isT)) (ev U e) (ds++ac) [M] ag h=Zz M (.nm 0) (tsto U (J isT)) (ev U e) ac [M] ag h
 |[],_,_=>rfl
 |d::ds,hd,hz=>by have:=Zmx (GD:=U.GD) (h:=h) (hd d (by simp));rw[List.cons_append,ZC];simp[Wk.stays,hz,this];exact ZcW ds (λx hx=>hd x (by simp[hx])) hz
theorem Zfq{U:Tb}{f:T->Int}:∀(ts:List T) (ag:List D) (h:Hd),(∀t∈ts,∀h,∃g,ev U e [J t.d] h=.ok (.int (f t)) (h++g))->ag.length+ts.length<=1000->∃g,Zz M (.nm 0) (tsto U (J isT)) (ev U e) (ts.map T.d) [M] ag h=.ok (ag++ts.map λt=>.int (f t)) (h++g)
 |[],ag,h,_,_=>⟨[],by simp[Zz,Wk.stays]⟩
 |t::ts,ag,h,ht,hz=>by
  simp only[Os]at hz;obtain⟨g1,e1⟩:=ht t (by simp) h;obtain⟨g2,e2⟩:=Zfq (U:=U) (e:=e) (f:=f) ts (ag++[.int (f t)]) (h++g1) (λx hx=>ht x (by simp[hx])) (by simp;lia);refine⟨g1++g2,?_⟩;have dR:ag.length<sizeLine:=by rw[YA];lia
  have it:ZaJ U.GD .isi [t.d,.ty "tuple"] h=.ok (.bl Wr) h:=by rw[Zi7];exact ZjW
  rw[Op,ZC];simp[Wk.stays,dR,it,e1,e2]
def Zdk{U:Tb}{f:T->Int}(t:T)(h:Hd)(ht:∀s∈t.parts,∀h,∃g,ev U e [J s.d] h=.ok (.int (f s)) (h++g)):∃g,Zz M (.nm 0) (tsto U (J isT)) (ev U e) (Zgh t++t.parts.map T.d) [M] [] h=.ok (t.parts.map λs=>.int (f s)) (h++g):=by obtain⟨g,e1⟩:=Zfq (f:=f) t.parts [] h ht (by cases t<;>simp[T.parts]);refine⟨g,?_⟩;rw[ZcW _ (Zfd t) (by rw[YA];simp),e1];simp
theorem ints_map(f:T->Int):∀ts:List T,intsOf (ts.map λs=>D.int (f s))=J (ts.map f)
 |[]=>rfl
 |t::ts=>by rw[Op,intsOf,ints_map f ts];rfl
variable {P:Pg}
def Zjs(t:T):(t.size:Int)=1+(t.parts.map λs=>(s.size:Int)).sum:=by
 unfold T.size;rw[T.places_parts];have:∀ts:List T,((ts.flatMap T.places).length:Int)=(ts.map λs=>(s.places.length:Int)).sum:=by
  intro ts;induction ts with
  |nil=>rfl
  |cons t ts ih=>rw[List.flatMap_cons,OA,Op,OI,<-ih];lia
 rw[Os,<-this]
 lia
def Zcd{t s:T}(hs:s∈t.parts):dep s<dep t:=by
 cases t<;>simp[T.parts]at hs<;>simp only[dep]
 . subst hs;lia
 . subst hs;lia
 . rcases hs with rfl|rfl<;>lia
 . rcases hs with rfl|rfl|rfl<;>lia
 . rcases hs with rfl|rfl<;>lia
theorem Zns (H:Mkr P):∀ (d n:Nat) (t:T) (h:Hd),dep t<=d->∃ g,run P (n+d+1) (O "_law_width") [t.d] h=.ok (.int t.size) (h++g):=by
 intro d;induction d with
 |zero =>
   intro n t h hd;rw [Zh H.width rfl];obtain⟨g,e⟩:=Zdk (U:=⟨P.G,P.GD,run P (n+0),P.L⟩) (e:=.call (O "_law_width") (.cons (.var 0) .nil)) (f:=λs=>(s.size:Int)) t h (λs hs=>by have:=Zcd hs;lia);refine⟨g++[.lst (t.parts.map λs=>.int s.size)],?_⟩;rw [Zjs,Zi7];have sm:ZaJ P.GD .sum [.ref (h++g).length] (h++g++[.lst (t.parts.map λs=>D.int s.size)])=.ok (.int (t.parts.map λs=>(s.size:Int)).sum) (h++g++[.lst (t.parts.map λs=>D.int s.size)]):=by
     simp only [ZaJ,ZmT,lstOf,ZaN,Yw,ints_map];rfl
   simp at sm e;simp [Zbb,Zce,ZL,ZV,Zbx,e,sm]
 |succ d ih =>
   intro n t h hd;rw [Zh H.width rfl];obtain⟨g,e⟩:=Zdk (U:=⟨P.G,P.GD,run P (n+(d+1)),P.L⟩) (e:=.call (O "_law_width") (.cons (.var 0) .nil)) (f:=λs=>(s.size:Int)) t h (λs hs R=>by
     have:=Zcd hs;obtain⟨g,e⟩:=ih n s R (by lia);refine⟨g,?_⟩;have e':run P (n+(d+1)) (O "_law_width") [s.d] R=.ok (.int s.size) (R++g):=e;simp [e'])
   refine⟨g++[.lst (t.parts.map λs=>.int s.size)],?_⟩;rw [Zjs,Zi7];have sm:ZaJ P.GD .sum [.ref (h++g).length] (h++g++[.lst (t.parts.map λs=>D.int s.size)])=.ok (.int (t.parts.map λs=>(s.size:Int)).sum) (h++g++[.lst (t.parts.map λs=>D.int s.size)]):=by
     simp only [ZaJ,ZmT,lstOf,ZaN,Yw,ints_map];rfl
   simp at sm e;simp [Zbb,Zce,ZL,ZV,Zbx,e,sm]
end
section
variable {P:Pg}
def max2(x y:Nat):(if (1+(y:Int)) > 1+x then 1+(y:Int)else 1+x)=((max x y+1:Nat):Int):=by split<;>lia
def Zrq(t:T):Zb5 (t.parts.map λs=>1+(dep s:Int)) 0=dep t:=by
 cases t with
 |num n=>rfl
 |name x=>rfl
 |fn x e=>simp[T.parts,Zb5,dep];lia
 |rcc f x e=>simp[T.parts,Zb5,dep];lia
 |call f a=>simp only[T.parts,Zb5,dep,Op,Oy,Wm,List.foldl_nil];rw[max2]
 |op w f a=>simp only[T.parts,Zb5,dep,Op,Oy,Wm,List.foldl_nil];rw[max2]
 |iff c t e=>simp only[T.parts,Zb5,dep,Op,Oy,Wm,List.foldl_nil];rw[max2];split<;>lia
theorem Zp4 (H:Mkr P):∀ (d n:Nat) (t:T) (h:Hd),dep t<=d->∃ g,run P (n+d+1) (O "_law_deep") [t.d] h=.ok (.int (dep t)) (h++g):=by
 have fin:∀ (t:T) (h g:Hd),Zkt (.ref (h++g).length) (.int 0) (h++g++[.lst (t.parts.map λs=>D.int (1+(dep s:Int)))])=.ok (.int (dep t)) (h++g++[.lst (t.parts.map λs=>D.int (1+(dep s:Int)))]):=by
   intro t h g;have q:intsOf (t.parts.map λs=>D.int (1+(dep s:Int)))=J (t.parts.map λs=>1+(dep s:Int)):=ints_map (λs=>1+(dep s:Int)) t.parts;simp only [Zkt,lstOf,ZaN,Yw,q,Yt,Zrq,ofO_some]
 intro d;induction d with
 |zero =>
   intro n t h hd;rw [Zh H.deep rfl];obtain⟨g,e⟩:=Zdk (U:=⟨P.G,P.GD,run P (n+0),P.L⟩) (e:=.bin .Add (.ci 1) (.call (O "_law_deep") (.cons (.var 0) .nil))) (f:=λs=>1+(dep s:Int)) t h (λs hs=>by have:=Zcd hs;lia);refine⟨g++[.lst (t.parts.map λs=>.int (1+(dep s:Int)))],?_⟩;have sm:=fin t h g;rw [Zi7];simp at sm e;simp [ZbJ,Zc1,ZL,ZV,Zbx,e,sm]
 |succ d ih =>
   intro n t h hd;rw [Zh H.deep rfl];obtain⟨g,e⟩:=Zdk (U:=⟨P.G,P.GD,run P (n+(d+1)),P.L⟩) (e:=.bin .Add (.ci 1) (.call (O "_law_deep") (.cons (.var 0) .nil))) (f:=λs=>1+(dep s:Int)) t h (λs hs R=>by
     have:=Zcd hs;obtain⟨g,e⟩:=ih n s R (by lia);refine⟨g,?_⟩;have e':run P (n+(d+1)) (O "_law_deep") [s.d] R=.ok (.int (dep s)) (R++g):=e;simp [e'])
   refine⟨g++[.lst (t.parts.map λs=>.int (1+(dep s:Int)))],?_⟩;have sm:=fin t h g;rw [Zi7];simp at sm e;simp [ZbJ,Zc1,ZL,ZV,Zbx,e,sm]
theorem Zfr(H:Mkr P)(hk:h[k]?=J (.lst xs0)):∀(xs:List Int) (j:Nat) (ag:List Int),ag.length+xs.length<=1000->j+xs.length<=1000->∃cs:List Int,cs.length=ag.length+xs.length /\
 Zz (J (k,xs0)) (.two 0 1) (tsto ⟨P.G,P.GD,run P (n+1),P.L⟩ M) (ev ⟨P.G,P.GD,run P (n+1),P.L⟩ (.call (O "_law_mixed") (.cons (.var 1) (.cons (.bin .Add (.var 0) (.ci 2)) .nil)))) (xs.mapIdx λq x=>D.tup [.int ((q+j:Nat):Int),.int x]) [M,M] (ag.map .int) h
  = .ok (cs.map .int) h
 |[],j,ag,_,_=>⟨ag,by simp,by simp[Zz,Wk.stays,hk]⟩
 |x::xs,j,ag,R,h2=>by
  simp only[Os]at R h2;obtain⟨cs,q1,q2⟩:=Zfr H hk xs (j+1) (ag++[mixed x ((j:Int)+2)]) (by simp;lia) (by lia);refine⟨cs,by simp at q1;simp;lia,?_⟩;have e1:=Zjx H n x ((j:Int)+2) h ⟨by lia,by lia⟩;have hz:ag.length<sizeLine:=by rw[YA];lia
  have ei:(λ(q:Nat) (x:Int)=>D.tup [.int ((q+1+j:Nat):Int),.int x])=λq x=>D.tup [.int ((q+(j+1):Nat):Int),.int x]:=by funext q x;rw[show q+1+j=q+(j+1) by lia]
  rw[List.mapIdx_cons,ZC];simp only[Wk.stays,hk,decide_true,true_and,Ys,hz,if_true,ZmR,List.set_cons_zero,List.set_cons_succ,ZkA,ZkN,Zr,bind_ok,ZgZ,Zfm,Zj2,ZmG,O0,OJ,Option.join_some,ofO_some,ZmH,Zri,ZZ,Nat.zero_add,e1];rw[ei];have:=q2;rw[List.map_append]at this;exact this
end
set_option tactic.hygienic false
section
variable {P:Pg}{cs:List Int}{ns:List Str}{h h':Hd}{i j m:Nat}{a b:Int}
def Zm0(H:Mkr P)(r N:Nat)(hN:2*r+3<=N)(c:Ctx cs ns h i j m k sc a b)(w:Str)(room:Int)(hr:room<=r)(hl:sc.length+2*r<=50)(ha:a+A r<2^50):
 Made cs h i j sc a b 0 (A r) (3*r+3) (run P N (O "_law_any") [.str w,.ref k,.ref i,.ref m,.int room] h):=by
 have:=ZmY H r (N-(2*r+3)) cs ns h i j m k sc a b w room hr c hl ha;rw[show N-(2*r+3)+(2*r+3)=N by lia]at this;exact this
def ZeJ(H:Mkr P)(N:Nat)(t:T)(h:Hd)(hd:dep t<N):∃g,run P N (O "_law_width") [t.d] h=.ok (.int t.size) (h++g):=by obtain⟨g,e⟩:=Zns H (dep t) (N-dep t-1) t h (Oq _);rw[show N-dep t-1+dep t+1=N by lia]at e;exact⟨g,e⟩
def ZoK(H:Mkr P)(N:Nat)(t:T)(h:Hd)(hd:dep t<N):∃g,run P N (O "_law_deep") [t.d] h=.ok (.int (dep t)) (h++g):=by obtain⟨g,e⟩:=Zp4 H (dep t) (N-dep t-1) t h (Oq _);rw[show N-dep t-1+dep t+1=N by lia]at e;exact⟨g,e⟩
def Ctx.bare(c:Ctx cs ns h i j m k sc a b):Ctx cs ns (h++[.lst []]) i j m h.length [] a b:=by
 have c1:=c.app (g:=[.lst []]);refine⟨c1.st,c1.nm,c1.n5,c1.nok,c1.nd,by unfold Zld;simp,by simp,c1.im,?_,c1.ab⟩;have:=Zj c.st.1
 lia
noncomputable def vp(ro:D)(st:Int)(o2 o3 o4 o5 o6:Option D):Ev:=[J ro,J (.int st),o2,o3,o4,o5,o6]
def Zom:Sxs:=.o (.iff (.x .Lt (.f "_law_width" (.o V5)) (.ci 50)) (.w (.put V3 K2 K12) (.s 5 (.tupl (.u (.Ci_ "+") V5 (.f "_law_any" (.y (.Ci_ "n") (.lstl .n) V3 V4 K6)))))) .n)
inductive Turned(cs:List Int)(ns:List Str)(h:Hd)(i j m k:Nat)(sc:Scp)(a:Int)(dm:Nat)(S:Option D->Ev)(r:kz (Fl×Ev))(z0:Int):Prop
 |mk (t:T) (h':Hd) (a' b':Int) (e:r=.ok (.nx,S (J t.d)) h') (c:Cl [] t) (d:dep t<=dm) (u:Up i h h') (x:Ctx cs ns h' i j m k sc a' b') (l:a'<=a+65536) (z:fw t<=z0+36)
def turn(H:Mkr P)(hN:40<=N)(c:Ctx cs ns h i j m k sc a b)(ct:Cl [] t)(hd:dep t<=30)(ha:a<2^45)(ro:D)(st:Int)(o2 o6:Option D):Turned cs ns h i j m k sc a (max (dep t) 21+1) (λo=>vp ro st o2 (J (.ref i)) (J (.ref m)) o o6)
 (xs2 (P.tbl N) Zom (vp ro st o2 (J (.ref i)) (J (.ref m)) (J t.d) o6) h) (fw t):=by
 have A6:A 6=16384:=by decide
 obtain⟨g,ew⟩:=ZeJ H N t h (by lia);have c1:=c.app (g:=g);have te:tst (P.tbl N) (.ex (.cmp .Lt (.call (O "_law_width") (.cons (.var 5) .nil)) (.ci 50))) (vp ro st o2 (J (.ref i)) (J (.ref m)) (J t.d) o6) h=.ok (Wt ((t.size:Int)<50)) (h++g):=Zol (Zw ew rfl) rfl;by_cases hw:(t.size:Int)<50
 . have p1:Zak (.ref i) (.int 2) (.int 12) (h++g)=.ok () ((h++g).set i (.lst [.ref j,.int a,.int 12])):=by simp only[Zak,c1.st.1];rfl
   have s1:St3 ((h++g).set i (.lst [.ref j,.int a,.int 12])) i j cs a 12:=⟨by rw[Ol (Zj c1.st.1)],by rw[Oc c1.st.2.2];exact c1.st.2.1,c1.st.2.2⟩
   obtain⟨h2,p1,u1,c2⟩:∃h2,Zak (.ref i) (.int 2) (.int 12) (h++g)=.ok () h2/\Up i h h2/\Ctx cs ns h2 i j m k sc a 12:=⟨_,p1,Up.app.trans Up.set,c1.up Up.set s1 c.ab⟩
   obtain⟨t1,h3,a1,b1,e1,u3,s3,l1,l2,c3,p3,z3⟩:=Zm0 H 6 N (by lia) c2.bare (O "n") 6 (by decide) (by simp) (by rw[A6];lia);have u4:=u1.trans ((Up.app (i:=i) (g:=[.lst []])).trans u3);have x1:xs1 (P.tbl N) (.put (.var 3) (.ci 2) (.ci 12)) (vp ro st o2 (J (.ref i)) (J (.ref m)) (J t.d) o6) (h++g)=.ok (.nx,vp ro st o2 (J (.ref i)) (J (.ref m)) (J t.d) o6) h2:=by show kz.bnd (Zak (.ref i) (.int 2) (.int 12) (h++g)) _=_;rw[p1];rfl
   refine⟨.op .add t t1,h3,a1,b1,?_,⟨ct,c3⟩,by simp only[dep];lia,u4,c.up u4 s3 (by have:=c.ab;lia),by rw[A6]at l2;lia,by simp only[fw,pz]at *;lia⟩;refine(Za ((Zt (Zk te (decide_eq_true hw))).trans ((Za x1).trans ((Za (Zo (ZX (Zb rfl (Zb rfl (Zb (Zw e1 (Zb rfl (Zb (Zel rfl (by simp)) rfl))) rfl))) (by simp)))).trans rfl)))).trans rfl
 . exact⟨t,h++g,a,b,(Za ((Zg (Zk te (decide_eq_false hw))).trans rfl)).trans rfl,ct,by lia,Up.app,c1,by lia,by lia⟩
def Zsg(zs:List Int)(st:Int)(hz:zs.length<=100):∃ys:List Int,ys.length<=100/\∀h:Hd,ZfM (.ro (zs.map D.int)) (J st) M h=.ok (.ref h.length) (h++[.lst (ys.map .int)]):=by
 refine⟨(zs.drop (HT.sIx zs.length 0 (J st))).take (HT.sIx zs.length zs.length M-HT.sIx zs.length 0 (J st)),?_,λh=>?_⟩
 . rw[List.length_take,List.length_drop]
   lia
 . show ZaS (.lst (cutD (zs.map D.int) (J st) M)) h=_;simp[cutD,List.map_drop,List.map_take]
inductive Begun(h:Hd)(S:Option D->Option D->Option D->Ev)(r:Sxs->kz (Fl×Ev))(U:Tb):Prop
 |mk (cs:List Int) (ns:List Str) (h':Hd) (i j m:Nat) (e:∀s,r s=xs2 U s (S (J (.ref j)) (J (.ref i)) (J (.ref m))) h') (c:Ctx cs ns (h'++[.lst []]) i j m h'.length [] 1 26) (l:h.length<=i) (u:Up i h h')
def Zqg(H:Mkr P)(hN:40<=N)(zs:List Int)(st:Int)(h:Hd)(hz:zs.length<=100):Begun h (λo2 o3 o4=>vp (.ro (zs.map .int)) st o2 o3 o4 M M) (λs=>xs2 (P.tbl N) (.cons Z8 (.cons ZbV (.cons ZbU s))) (vp (.ro (zs.map .int)) st M M M M M) h) (P.tbl N):=by
 obtain⟨N,rfl⟩:∃N3,N=N3+2:=⟨N-2,by lia⟩
 obtain⟨ys,j7,bx⟩:=Zsg zs st hz;obtain⟨cs,gj,ec⟩:=Zfr H (n:=N+1) (h:=h++[.lst (ys.map .int)]) (k:=h.length) (xs0:=ys.map .int) (by simp) ys 0 [] (by simp;lia) (by lia);have en:Zcc (ys.map D.int)=ys.mapIdx λq x=>D.tup [.int ((q+0:Nat):Int),.int x]:=by unfold Zcc;apply List.ext_getElem?;intro q;simp[List.getElem?_mapIdx];cases ys[q]?<;>rfl
 have ei:evi (P.tbl (N+2)) (.enu (.sl (.var 0) (J (.var 1)) M)) (vp (.ro (zs.map .int)) st M M M M M) h=.ok ⟨J (h.length,ys.map .int),Zcc (ys.map D.int)⟩ (h++[.lst (ys.map .int)]):=by rw[ZoD,show ev (P.tbl (N+2)) (.sl (.var 0) (J (.var 1)) M) (vp (.ro (zs.map .int)) st M M M M M) h=.ok (.ref h.length) (h++[.lst (ys.map .int)])from bx h,Zr];simp[Zf2]
 rw[<-en]at ec;have x1:xs1 (P.tbl (N+2)) Z8 (vp (.ro (zs.map .int)) st M M M M M) h=.ok (.nx,vp (.ro (zs.map .int)) st (J (.ref (h++[DO.lst (ys.map .int)]).length)) M M M M) (h++[.lst (ys.map .int)]++[.lst (cs.map .int)]):=Zo (Zfn ei ec);generalize D.ro (zs.map .int)=ro at *;obtain⟨R,j,u1,k1,lj,x1⟩:∃(R:Hd) (j:Nat),Up R.length h R/\R[j]?=J (.lst (cs.map .int))/\j<R.length/\xs1 (P.tbl (N+2)) Z8 (vp ro st M M M M M) h=.ok (.nx,vp ro st (J (.ref j)) M M M M) R:=⟨_,_,Up.app.trans Up.app,ZaN,by simp,x1⟩
 have s2:St3 (R++[.lst [.ref j,.int 0,.int 26]]) R.length j cs 0 26:=⟨ZaN,by rw[Oe lj];exact k1,by lia⟩
 obtain⟨v,e3,_⟩:=ZiB H N s2 (by decide);rw[ZjD]at e3;obtain⟨ns,n5,nok,iK,e4⟩:=Znu H (N+1) v (R++[.lst [.ref j,.int 1,.int 26]]);have jr:=u1.1;refine⟨cs,ns,R++[.lst [.ref j,.int 1,.int 26]]++[.lst (ns.map .str)],R.length,j,(R++[DO.lst [.ref j,.int 1,.int 26]]).length,λs=>?_,⟨⟨by simp,by simp[Oe lj,k1],by lia⟩,by simp,n5,nok,iK,by unfold Zld;simp,by simp,by simp,by simp,by decide⟩,jr,?_⟩
 . exact(Za x1).trans ((Za (Zo (Zel (Zb rfl (Zb rfl (Zb rfl rfl))) (by simp)))).trans ((Za (Zo (Zw e4 (Zb (Zw e3 rfl) rfl)))).trans rfl))
 . rw[Oz];exact⟨by simp;lia,λm a n=>by rw[Oe (by lia)];exact u1.2 m a n⟩
inductive Sixth(h:Hd)(i:Nat)(S:Option D->Ev)(r:kz (Fl×Ev)):Prop
 |mk (t:T) (h':Hd) (e:r=.ok (.nx,S (J t.d)) h') (c:Cl [] t) (s:t.size<=100) (d:dep t<=20) (u:Up i h h') (z:fw t<=150)
def Zqf(H:Mkr P)(hN:40<=N)(c:Ctx cs ns h i j m k sc a b)(ct:Cl [] t)(hd:dep t<=26)(hf:fw t<=150)(ha:a<2^50)(ro:D)(st:Int)(o2 o4 o6:Option D):Sixth h i (λo=>vp ro st o2 (J (.ref i)) o4 o o6) (xs1 (P.tbl N) ZaK (vp ro st o2 (J (.ref i)) o4 (J t.d) o6) h):=by
 obtain⟨g1,ew⟩:=ZeJ H N t h (by lia);obtain⟨g2,ed⟩:=ZoK H N t (h++g1) (by lia);have tw:tst (P.tbl N) (.ex (.cmp .Gt (.call (O "_law_width") (.cons (.var 5) .nil)) (.ci 100))) (vp ro st o2 (J (.ref i)) o4 (J t.d) o6) h=.ok (Wt ((100:Int)<t.size)) (h++g1):=Zs1 (Zw ew rfl) rfl;have td:tst (P.tbl N) (.ex (.cmp .Gt (.call (O "_law_deep") (.cons (.var 5) .nil)) (.ci 20))) (vp ro st o2 (J (.ref i)) o4 (J t.d) o6) (h++g1)=.ok (Wt ((20:Int)<dep t)) (h++g1++g2):=Zs1 (Zw ed rfl) rfl;have plain:∀{q:Sxs} (g:Hd),∃t' h',xs2 (P.tbl N) (.cons (.set (.nm 5) (.call (O "_law_plain") (.cons (.Ci_ "n") (.cons (.call (O "_law_next") (.cons (.var 3) .nil)) .nil)))) .nil) (vp ro st o2 (J (.ref i)) o4 (J t.d) o6) (h++g)=.ok (.nx,vp ro st o2 (J (.ref i)) o4 (J (T.d t')) o6) h'/\Cl [] t'/\dep t'<=2/\(t'.size<=4/\fw t'<=0)/\Up i h h':=λg=>by
  obtain⟨N,rfl⟩:∃N3,N=N3+2:=⟨N-2,by lia⟩
  obtain⟨v,e8,_⟩:=ZiB H N (c.app (g:=g)).st ⟨c.ab,ha⟩;obtain⟨tp,gp,e9,q1,q2,q3⟩:=ZgC H (N+1) (O "n") v ((h++g).set i (.lst [.ref j,.int (a+1),.int b])) [];exact⟨tp,_,(Za (Zo (Zw e9 (Zb rfl (Zb (Zw e8 rfl) rfl))))).trans rfl,q1,q2,q3,(Up.app.trans Up.set).trans Up.app⟩
 by_cases hw:(100:Int)<t.size
 . obtain⟨t',h',e,q1,q2,q3,u⟩:=plain (q:=.nil) g1;exact⟨t',h',(Zt (Zqx (Zk tw (decide_eq_true hw)))).trans e,q1,by lia,by lia,u,by lia⟩
 . have gD:=Zk tw (decide_eq_false hw);by_cases hq:(20:Int)<dep t
   . obtain⟨t',h',e,q1,q2,q3,u⟩:=plain (q:=.nil) (g1++g2);rw[<-Oz]at e;exact⟨t',h',(Zt (ZeZ gD (Zk td (decide_eq_true hq)))).trans e,q1,by lia,by lia,u,by lia⟩
   . exact⟨t,_,(Zg (ZeZ gD (Zk td (decide_eq_false hq)))).trans rfl,ct,by lia,by lia,Up.app.trans Up.app,hf⟩
def ZkH(H:Mkr P)(hN:40<=N)(zs:List Int)(st:Int)(h:Hd)(hz:zs.length<=100):∃t h',run P (N+1) (O "_law_program") [.ro (zs.map .int),.int st] h=.ok (T.d t) h'/\Cl [] t/\t.size<=100/\dep t<=20/\h.length<=h'.length/\(∀q,q<h.length->h'[q]?=h[q]?)/\fw t<=150:=by
 rw[ZeA H.program rfl];have A7:A 7=65536:=by decide
 cases Zqg H hN zs st h hz with
 |mk cs ns h3 i j m e3 c4 li u3=>
 cases Zm0 H 7 N (by lia) c4 (O "n") 7 (by decide) (by decide) (by rw[A7];decide)with
 |mk t4 h4 a4 b4 e5 u4 s4 l1 l2 ct4 d4 z4=>
 have z4:fw t4<=78:=by simp only[pz]at z4;lia
 rw[A7]at l2;cases turn H hN (c4.up u4 s4 (by lia)) ct4 (by lia) (by lia) (.ro (zs.map .int)) st (J (.ref j)) (J (.int 0))with
 |mk t5 h5 a5 b5 e6 ct5 d5 u5 c6 l4 z5=>
 cases turn H hN c6 ct5 (by lia) (by lia) (.ro (zs.map .int)) st (J (.ref j)) (J (.int 1))with
 |mk t6 h6 a6 b6 e7 ct6 d6 u6 c7 l6 z6=>
 cases Zqf H hN c7 ct6 (by lia) (by lia) (by lia) (.ro (zs.map .int)) st (J (.ref j)) (J (.ref m)) (J (.int 1))with
 |mk t hh x6 ct sz dt u z=>
 have u8:=(u3.trans ((Up.app (i:=i) (g:=[.lst []])).trans ((u4.trans u5).trans u6))).trans u;refine⟨t,hh,?_,ct,sz,dt,u8.1,λq hq=>u8.2 q hq (by lia),z⟩;have x5:xs1 (P.tbl N) ZaL (vp (.ro (zs.map .int)) st (J (.ref j)) (J (.ref i)) (J (.ref m)) (J t4.d) M) h4=.ok (.nx,vp (.ro (zs.map .int)) st (J (.ref j)) (J (.ref i)) (J (.ref m)) (J t6.d) (J (.int 1))) h6:=(Zfe (w:=⟨M,[.int 0,.int 1]⟩) rfl).trans ((Zi1 rfl e6).trans ((Zi1 rfl e7).trans rfl));exact(congrArg Zd ((e3 (.cons ZbT (.cons ZaL (.cons ZaK (.cons ZbS .nil))))).trans ((Za (Zo (Zw e5 (Zb rfl (Zb (Zel rfl (by simp)) rfl))))).trans ((Za x5).trans ((Za x6).trans rfl))))).trans rfl
end
end Gn
namespace IV
open PySem L2
mutual
def D.pure:D->Bool
 |.non|.bl _|.int _|.str _=>Wr
 |.tup xs=>D.pures xs
 |_=>Ws
def D.pures:List D->Bool
 |[]=>Wr
 |x::xs=>D.pure x&&D.pures xs
end
mutual
def D.dp:D->Nat
 |.tup xs=>D.dps xs+1
 |_=>0
def D.dps:List D->Nat
 |[]=>0
 |x::xs=>max (D.dp x) (D.dps xs)
end
mutual
theorem ZjC:∀d:D,d.pure=Wr->∃p,D.py rd d=J p/\p.depth<=d.dp/\YO p p=Wr
 |.non,_=>⟨.none,rfl,Oq _,rfl⟩
 |.bl b,_=>⟨.bool b,rfl,Oq _,by simp[YO]⟩
 |.int b,_=>⟨.int b,rfl,Oq _,by simp[YO]⟩
 |.str b,_=>⟨.str b,rfl,Oq _,by simp[YO]⟩
 |.tup xs,h=>by
  obtain⟨ps,e1,e2,e3⟩:=pys_same (rd:=rd) xs (by simpa[D.pure]using h);refine⟨.tuple ps,by simp[D.py,e1],?_,?_⟩
  . simp only[PyData.depth,D.dp];lia
  . simpa[YO]using e3
 |.ref _,h=>by cases h
 |.ty _,h=>by cases h
 |.ro _,h=>by cases h
 |.kd _,h=>by cases h
theorem pys_same:∀ds:List D,D.pures ds=Wr->∃ps,D.pys rd ds=J ps/\PyData.depthAll ps<=D.dps ds/\PyData.eqvAll ps ps=Wr
 |[],_=>⟨[],rfl,Oq _,by simp[PyData.eqvAll]⟩
 |x::xs,h=>by
  rw[D.pures,Oa]at h;obtain⟨p,a1,a2,a3⟩:=ZjC (rd:=rd) x h.1;obtain⟨ps,b1,b2,b3⟩:=pys_same (rd:=rd) xs h.2;refine⟨p::ps,by simp[D.pys,a1,b1],?_,?_⟩
  . simp only[PyData.depthAll,D.dps];lia
  . simp[PyData.eqvAll,a3,b3]
end
def Zf9(hp:d.pure=Wr)(hd:d.dp<=1100):Zbu n d d h=.ok (.bl (!n)) h:=by obtain⟨p,e1,e2,e3⟩:=ZjC (rd:=Zee h 4) d hp;unfold Zbu;rw[show ZfK h d=J p from e1];simp only;rw[if_pos (by lia),e3];cases n<;>rfl
end IV
namespace Ce
open PySem L2 IV
set_option tactic.hygienic false
def Zbk:Sxs:=.w (.iff (.x .NotIn (.ix V0 K0) (.glo (O "FORMS"))) (.o (.ret (.tupl .n))) .n) (.ret (.sl V0 (J K1) (J (.bin .Add K1 (.ix (.ix (.glo (O "FORMS")) (.ix V0 K0)) K0)))))
def ZcO:Fd:=fd_ 1 ["E"] Zbk
def Zab:Sxs:=.w (.iff (.x .NotIn (.ix V0 K0) (.glo (O "FORMS"))) (.o (.ret (.tupl .n))) .n) (.ret (.sl V0 (J (.bin .Add K1 (.ix (.ix (.glo (O "FORMS")) (.ix V0 K0)) K0))) M))
def ZbI:Fd:=fd_ 1 ["E"] Zab
def Zdw:Sxs:=.z (.s 1 K0) (.s 2 (.lstl (.o V0))) (.whl (.ex V2) (.u (.s 3 (.meth .pop V2 .n)) (.aug 1 .Add (.ite (.q (.ix V3 K0) (.Ci_ "if")) K2 K1)) (.iff (.nt (.ex (.f "bound_names" (.o V3)))) (.o (.drp (.meth .ext V2 (.o (.f "parts_of" (.o V3)))))) .n))) (.ret V1)
def Zdj:Fd:=fd_ 1 ["E","count","waiting","place"] Zdw
def ZfU:Sx:=.iff (.q (.ix V0 K0) (.Ci_ "call")) (.o (.ret (.lstl (.u (.tupl (.u (.Ci_ "part") (.ix V0 K1) (.cst (.bl Ws)))) (.tupl (.u (.Ci_ "part") (.ix V0 K2) (.cst (.bl Ws)))) (.tupl (.w (.Ci_ "row") (.ite (.ex V1) (.tupl (.o (.Ci_ "hop"))) (.tupl (.o (.Ci_ "call")))))))))) .n
def ZfT:Sx:=.iff (.q (.ix V0 K0) (.Ci_ "if")) (.o (.ret (.lstl (.y (.tupl (.u (.Ci_ "part") (.ix V0 K1) (.cst (.bl Ws)))) (.tupl (.w (.Ci_ "row") (.tupl (.w (.Ci_ "unless") (.bin .Add (.f "count_rows" (.o (.ix V0 K2))) K2))))) (.tupl (.u (.Ci_ "part") (.ix V0 K2) V1)) (.tupl (.w (.Ci_ "row") (.tupl (.w (.Ci_ "jump") (.bin .Add (.f "count_rows" (.o (.ix V0 K3))) K1))))) (.tupl (.u (.Ci_ "part") (.ix V0 K3) V1)))))) .n
def ZfS:Sx:=.ret (.lstl (.u (.tupl (.u (.Ci_ "part") (.ix V0 K1) (.cst (.bl Ws)))) (.tupl (.u (.Ci_ "part") (.ix V0 K2) (.cst (.bl Ws)))) (.tupl (.w (.Ci_ "row") (.tupl (.w (.Ci_ "work") (.ix V0 K0)))))))
def Zh9:Sxs:=.u ZfU ZfT ZfS
def Zd1:Fd:=fd_ 2 ["E","last"] Zh9
def Zdv:Sxs:=.u (.s 1 (.lstl (.o K0))) (.forr (.nm 2) (.pl V0) (.o (.drp (.meth .app V1 (.o (.bin .Add (.ix V1 (.neg K1)) (.blt .len (.o (.a "Unit" V2 "rows"))))))))) (.ret V1)
def Zdi:Fd:=fd_ 1 ["units","firsts","unit"] Zdv
def Zfy:Sxs:=.u (.iff (.x .In (.ix V0 K0) (.glo (O "LEADING"))) (.o (.ret (.tupl (.w (.ix V0 K0) (.bin .Add V1 (.ix V0 K1)))))) .n) (.iff (.q (.ix V0 K0) (.Ci_ "close")) (.o (.ret (.tupl (.u (.Ci_ "close") (.ix V2 (.ix V0 K1)) (.ix V0 K2))))) .n) (.ret V0)
def Zfi:Fd:=fd_ 3 ["row","first","firsts"] Zfy
def Zim:Sx:=.s 1 (.mk (O "Coder") .n)
def Zil:Sx:=.drp (.m "Coder" "begin_unit" V1 (.u V0 (.tupl .n) (.Ci_ "end")))
def Zik:Sx:=.drp (.m "Coder" "do_all" V1 .n)
def Zij:Sx:=.s 2 (.f "first_rows" (.o (.a "Coder" V1 "units")))
def Zii:Sx:=.s 3 (.lstl .n)
def Zec:Sx:=.forr (.nm 4) (.pl (.a "Coder" V1 "units")) (.w (.s 5 (.blt .len (.o V3))) (.drp (.meth .ext V3 (.o (.comp [O "row",O "first",O "firsts"] [M,J 5,J 2] (.pl (.a "Unit" V4 "rows")) (.nm 0) M (.f "numbered" (.u V0 V1 V2)))))))
def Zih:Sx:=.ret V3
def Zgu:Sxs:=.c Zim (.c Zil (.y Zik Zij Zii Zec Zih))
def Zgj:Fd:=fd_ 1 ["E","coder","firsts","code","unit","first"] Zgu
def ZbZ:Sxs:=.w (.sa "Unit" V0 "around" V1) (.sa "Unit" V0 "rows" (.lstl .n))
def Z7:Fd:=fd_ 2 ["self","around"] ZbZ
def ZfG:Sxs:=.o (.iff (.x .In (.ix V1 K0) (.glo (O "LEADING"))) (.o (.drp (.meth .app (.a "Unit" V0 "rows") (.o (.tupl (.w (.ix V1 K0) (.bin .Add (.blt .len (.o (.a "Unit" V0 "rows"))) (.ix V1 K1)))))))) (.o (.drp (.meth .app (.a "Unit" V0 "rows") (.o V1)))))
def Zan:Fd:=fd_ 2 ["self","row"] ZfG
def ZbA:Sxs:=.w (.sa "Coder" V0 "units" (.lstl .n)) (.sa "Coder" V0 "waiting" (.lstl .n))
def Z0:Fd:=fd_ 1 ["self"] ZbA
def ZdT:Sxs:=.o (.drp (.meth .ext (.a "Coder" V0 "waiting") (.o (.comp [O "piece",O "unit"] [M,J 1] (.rev V2) (.nm 0) M (.tupl (.w V1 V0))))))
def Zbv:Fd:=fd_ 3 ["self","unit","pieces"] ZdT
def Zcq:Sx:=.s 4 (.mk (O "Unit") (.o V2))
def Zcp:Sx:=.drp (.meth .app (.a "Coder" V0 "units") (.o V4))
def Zco:Sx:=.drp (.m "Coder" "wait_for" V0 (.w V4 (.lstl (.w (.tupl (.u (.Ci_ "part") V1 (.cmp .Eq V3 (.Ci_ "back")))) (.tupl (.w (.Ci_ "row") (.tupl (.o V3))))))))
def Zc3:Sxs:=.u Zcq Zcp Zco
def Za2:Fd:=fd_ 4 ["self","E","around","ended","unit"] Zc3
def Zbn:Sx:=.s 3 (.trev (.f "bound_names" (.o V2)))
def Zbm:Sx:=.drp (.m "Unit" "add_row" V1 (.o (.tupl (.u (.Ci_ "close") (.blt .len (.o (.a "Coder" V0 "units"))) V3))))
def Zbl:Sx:=.drp (.m "Coder" "begin_unit" V0 (.u (.ix (.f "parts_of" (.o V2)) K0) (.bin .Add V3 (.a "Unit" V1 "around")) (.Ci_ "back")))
def ZbN:Sxs:=.u Zbn Zbm Zbl
def Zao:Fd:=fd_ 3 ["self","unit","E","names"] ZbN
def ZaM:Sxs:=.o (.iff (.q (.ix V2 K0) (.Ci_ "num")) (.o (.drp (.m "Unit" "add_row" V1 (.o V2)))) (.o (.iff (.q (.ix V2 K0) (.Ci_ "name")) (.o (.drp (.m "Unit" "add_row" V1 (.o (.tupl (.w (.Ci_ "fetch") (.tix (.a "Unit" V1 "around") (.ix V2 K1)))))))) (.o (.iff (.ex (.f "bound_names" (.o V2))) (.o (.drp (.m "Coder" "begin_function" V0 (.w V1 V2)))) (.o (.drp (.m "Coder" "wait_for" V0 (.w V1 (.f "pieces_of" (.w V2 V3)))))))))))
def ZbR:Fd:=fd_ 4 ["self","unit","E","last"] ZaM
def ZfH:Sxs:=.o (.whl (.ex (.a "Coder" V0 "waiting")) (.u (.s 1 (.meth .pop (.a "Coder" V0 "waiting") .n)) (.s 2 (.ix V1 K1)) (.iff (.q (.ix V2 K0) (.Ci_ "row")) (.o (.drp (.m "Unit" "add_row" (.ix V1 K0) (.o (.ix V2 K1))))) (.o (.drp (.m "Coder" "do_part" V0 (.u (.ix V1 K0) (.ix V2 K1) (.ix V2 K2))))))))
def Zca:Fd:=fd_ 1 ["self","pair","piece"] ZfH
structure Cof(P:Pg):Prop where
 bound_names:P.tb.lookup (O "bound_names")=J ZcO
 parts_of:P.tb.lookup (O "parts_of")=J ZbI
 count_rows:P.tb.lookup (O "count_rows")=J Zdj
 pieces_of:P.tb.lookup (O "pieces_of")=J Zd1
 first_rows:P.tb.lookup (O "first_rows")=J Zdi
 numbered:P.tb.lookup (O "numbered")=J Zfi
 code_of:P.tb.lookup (O "code_of")=J Zgj
 n_Unit___init__:P.tb.lookup (mnm (O "Unit") (O "__init__"))=M
 Unit___init__:P.ms.lookup (mnm (O "Unit") (O "__init__"))=J Z7
 n_Unit_add_row:P.tb.lookup (mnm (O "Unit") (O "add_row"))=M
 Unit_add_row:P.ms.lookup (mnm (O "Unit") (O "add_row"))=J Zan
 n_Coder___init__:P.tb.lookup (mnm (O "Coder") (O "__init__"))=M
 Coder___init__:P.ms.lookup (mnm (O "Coder") (O "__init__"))=J Z0
 n_Coder_wait_for:P.tb.lookup (mnm (O "Coder") (O "wait_for"))=M
 Coder_wait_for:P.ms.lookup (mnm (O "Coder") (O "wait_for"))=J Zbv
 n_Coder_begin_unit:P.tb.lookup (mnm (O "Coder") (O "begin_unit"))=M
 Coder_begin_unit:P.ms.lookup (mnm (O "Coder") (O "begin_unit"))=J Za2
 n_Coder_begin_function:P.tb.lookup (mnm (O "Coder") (O "begin_function"))=M
 Coder_begin_function:P.ms.lookup (mnm (O "Coder") (O "begin_function"))=J Zao
 n_Coder_do_part:P.tb.lookup (mnm (O "Coder") (O "do_part"))=M
 Coder_do_part:P.ms.lookup (mnm (O "Coder") (O "do_part"))=J ZbR
 n_Coder_do_all:P.tb.lookup (mnm (O "Coder") (O "do_all"))=M
 Coder_do_all:P.ms.lookup (mnm (O "Coder") (O "do_all"))=J Zca
 g:P.G (O "FORMS")=J (.kd (O "FORMS"))
 gl:P.G (O "LEADING")=J (.tup [.str (O "unless"),.str (O "jump")])
 gd:P.GD (O "FORMS")=J Gn.ZcK
 big:1000000<=P.L
section
variable {P:Pg}
noncomputable def bnd:T->List Str
 |.fn x _=>[x]
 |.rcc f x _=>[f,x]
 |_=>[]
section
variable {w:Wd}
@[simp]def ZpI:(w.s=O "num")↔False:=by cases w<;>simp[Wd.s]
@[simp]def Zm7:(w.s=O "name")↔False:=by cases w<;>simp[Wd.s]
@[simp]def Zm8:(w.s=O "call")↔False:=by cases w<;>simp[Wd.s]
@[simp]def Zpe:(w.s=O "if")↔False:=by cases w<;>simp[Wd.s]
@[simp]def Zli:ZU Gn.ZcK (.inr w.s)=J (.tup [.int 0,.int 2]):=by cases w<;>rfl
end
def Cof.tre(H:Cof P):Gn.Tre P:=⟨H.parts_of,H.g,H.gd,H.big⟩
def ZeC(H:Cof P)(n:Nat)(t:T)(h:Hd):run P (n+1) (O "bound_names") [t.d] h=.ok (.tup ((bnd t).map .str)) h:=by
 have no:∀(w:Str) (ds:List D),ZU Gn.ZcK (.inr w)=M->run P (n+1) (O "bound_names") [.tup (.str w::ds)] h=.ok (.tup []) h:=λw ds e=>by have w:xs2 (P.tbl n) Zbk [J (.tup (.str w::ds))] h=.ok (.rt (.tup []),_) h:=Zc ((Zt (Gn.ZeG H.tre ⟨rfl,rfl⟩ Gn.ZhS e)).trans (Zc (ZA (d:=.tup []) rfl)));exact(Zh H.bound_names rfl).trans (congrArg Zd w)
 have yes:∀(w:Str) (ds:List D) (a b:Int),ZU Gn.ZcK (.inr w)=J (.tup [.int a,.int b])->run P (n+1) (O "bound_names") [.tup (.str w::ds)] h=.ok (.tup (cutD (.str w::ds) (J 1) (J (1+a)))) h:=λw ds a b e=>by have w:xs2 (P.tbl n) Zbk [J (.tup (.str w::ds))] h=.ok (.rt (.tup (cutD (.str w::ds) (J 1) (J (1+a)))),_) h:=(Za ((Zg (Gn.ZeG H.tre ⟨rfl,rfl⟩ Gn.ZhS e)).trans rfl)).trans (Zc (ZA ((Gn.Zpj (x:=.tup (.str w::ds)) rfl rfl (Gn.Zj3 (Gn.ZmD H.tre ⟨rfl,rfl⟩ e))).trans rfl)));exact(Zh H.bound_names rfl).trans (congrArg Zd w)
 cases t with
 |num z=>exact no (O "num") _ rfl
 |name x=>exact no (O "name") _ rfl
 |fn x e=>exact yes (O "fn") _ 1 1 rfl
 |rcc f x e=>exact yes (O "rec") _ 2 1 rfl
 |call f a=>exact yes (O "call") _ 0 2 rfl
 |iff c a b=>exact yes (O "if") _ 0 3 rfl
 |op w a b=>exact yes w.s _ 0 2 Zli
theorem ZeB(H:Cof P)(n:Nat)(t:T)(h:Hd):run P (n+1) (O "parts_of") [t.d] h=.ok (.tup (t.parts.map T.d)) h:=Gn.ZeB H.tre n t h
noncomputable def cnt:T->Nat
 |.call f a=>cnt f+cnt a+1
 |.op _ a b=>cnt a+cnt b+1
 |.iff c t e=>cnt c+cnt t+cnt e+2
 |_=>1
def inn(t:T):List T:=if bnd t=[]then t.parts else []
noncomputable def one:T->Int
 |.iff _ _ _=>2
 |_=>1
def ZoL(t:T):(cnt t:Int)=one t+((inn t).map cnt).sum:=by cases t<;>simp[cnt,one,inn,bnd,T.parts]<;>lia
def Zf(t:T):t.size=1+(t.parts.map T.size).sum:=by
 unfold T.size;rw[T.places_parts];simp only[Os,List.length_flatMap]
 lia
def ZlD(t:T):1+((inn t).map T.size).sum<=t.size:=by
 rw[Zf t];unfold inn;split
 . lia
 . simp
def ZeT(t:T):1<=t.size:=by rw[Zf];lia
theorem ZhO:∀W:List T,W.length<=(W.map T.size).sum
 |[]=>by simp
 |t::W=>by
  have:=ZeT t;have:=ZhO W;simp
  lia
def lc1:Sx:=.s 3 (.meth .pop V2 .n)
def lc2:Ex:=.ite (.q (.ix V3 K0) (.Ci_ "if")) K2 K1
def lc3:Sx:=.iff (.nt (.ex (.f "bound_names" (.o V3)))) (.o (.drp (.meth .ext V2 (.o (.f "parts_of" (.o V3)))))) .n
def ZhM:Sxs:=.u lc1 (.aug 1 .Add lc2) lc3
def Zc4{U:Tb}(p:ev U o S h=.ok (.ref i) R)(hc:R[i]?=J (.ins C fs))(hl:fs.lookup f=J d):ev U (.att [C] o f) S h=.ok d R:=by rw[Zrm,p];simp only[Zr,Zi0,Za1,hc,if_pos (Ox.mpr rfl),hl];rfl
def ZhT{U:Tb}(p:ev U o S h=.ok (.tup (x::ds)) R):ev U (.ix o (.ci 0)) S h=.ok x R:=by refine(ZF p rfl).trans ?_;show kz.ofO (atI (x::ds) 0) R=_;rw[ZpA];rfl
def Ztl{U:Tb}(a:S[i]?=J (J (.int x)))(q:ev U e S h=.ok (.int y) R):xs1 U (.aug i .Add e) S h=.ok (.nx,S.set i (J (.int (x+y)))) R:=by show kz.bind (kz.ofO (S[i]?).join h) _=_;rw[a];show kz.bind (ev U e S h) _=_;rw[q];rfl
section
variable {h:Hd}
def Zt8:ZaP .pop (.ref h.length) [] (h++[.lst (l++[d])])=.ok d (h++[.lst l]):=(Ze2 ZaN).trans (by rw[ZjD])
def Zuk(hz:l.length+xs.length<=sizeLine):ZaP .ext (.ref h.length) [.tup xs] (h++[.lst l])=.ok .non (h++[.lst (l++xs)]):=by simp only[ZaP,ZaN,Zef,Zoj];rw[if_pos hz,ZjD]
end
def Ztc{U:Tb}(t:T)(h:Hd)(a b c):ev U lc2 [a,b,c,J t.d] h=.ok (.int (one t)) h:=by
 have e:∀(w:Str) (ds:List D),ev U lc2 [a,b,c,J (.tup (.str w::ds))] h=.ok (.int (if w=O "if" then 2 else 1)) h:=λw ds=>by
  unfold lc2;rw[Zrh,ZR (x:=w) (ZhT rfl) rfl,Zr];split
  . rename_i z;rw[if_pos (of_decide_eq_true z)];rfl
  . rename_i z;rw[if_neg λy=>z (decide_eq_true y)];rfl
 cases t with
 |op w x y=>exact(e w.s _).trans (by rw[if_neg λz=>Zpe.mp z];rfl)
 |_=>exact e _ _
theorem ZjR(H:Cof P){h:Hd}(n:Nat):∀(fuel:Nat) (W:List T) (c:Int) (p:Option D),(W.map T.size).sum<fuel->(W.map T.size).sum<=900000->∃p',
 Z9 (tst (P.tbl (n+1)) (.ex (.var 2))) (xs2 (P.tbl (n+1)) ZhM) fuel [J E,J (.int c),J (.ref h.length),p] (h++[.lst (W.map T.d)])
  = .ok (.nx,[J E,J (.int (c+(W.map cnt).sum)),J (.ref h.length),p']) (h++[.lst []])
 |0,W,c,p,R,h2=>by lia
 |fuel+1,W,c,p,R,h2=>by
  rcases List.eq_nil_or_concat W with rfl|⟨V,t,rfl⟩
  . exact⟨p,(Zgy (Zho (ys:=[]) rfl ZaN)).trans (by rw[Oy,List.sum_nil,Int.natCast_zero,Int.add_zero])⟩
  . rw[List.concat_eq_append,List.map_append,List.sum_append]at R h2;rw[List.concat_eq_append,List.map_append];have e1:=ZlD t;have e2:=ZoL t;have e3:=ZhO V;have e4:t.parts.length<=3:=by cases t<;>simp[T.parts]
    simp only[Op,Oy,OI,List.sum_nil]at R h2;obtain⟨p',e⟩:=ZjR H (h:=h) (E:=E) n fuel (V++inn t) (c+one t) (J t.d) (by rw[List.map_append,List.sum_append];lia) (by rw[List.map_append,List.sum_append];lia);rw[List.map_append]at e;refine⟨p',(Zey (Zk (Zho rfl ZaN) (by simp)) ((Za (Zo (Zek rfl ZaN rfl Zt8))).trans ((Za (Ztl rfl (Ztc t _ _ _ _))).trans (Za (R:=h++[.lst (V.map T.d++(inn t).map T.d)]) ?_)))).trans (e.trans ?_)⟩
    . have rb:=ZeC H n t (h++[.lst (V.map T.d)]);unfold inn;cases hb:bnd t with
      |nil=>rw[hb]at rb;rw[if_pos rfl];exact(Zt (Zdo rb rfl rfl)).trans ((Za (Zad (Zek rfl ZaN (Zb (Zw (ZeB H n t _) rfl) rfl) (Zuk (by rw[YA,Ys,Ys];lia))))).trans rfl)
      |cons y ys=>rw[hb]at rb;rw[if_neg (by simp),Oy,Yr];exact(Zg (Zdo rb rfl rfl)).trans rfl
    . rw[show c+one t+(((V++inn t).map cnt).sum:Int)=c+((V++[t]).map cnt).sum by simp;lia]
def Zjy(H:Cof P)(n:Nat)(t:T)(h:Hd)(hz:t.size<=1000):run P (n+2) (O "count_rows") [t.d] h=.ok (.int (cnt t)) (h++[.lst []]):=by rw[Zh H.count_rows rfl];obtain⟨p',e⟩:=ZjR H (h:=h) (E:=t.d) n P.L [t] 0 M (by have:=H.big;simp;lia) (by simp;lia);rw[show(0+(([t].map cnt).sum:Nat):Int)=cnt t by simp]at e;have w:xs2 (P.tbl (n+1)) Zdw [J t.d,M,M,M] h=.ok (.rt (.int (cnt t)),_) (h++[.lst []]):=(Za (Zo rfl)).trans ((Za (Zo (Zel (xs:=[t.d]) rfl (by decide:1<=1000)))).trans ((Za (s:=.whl (.ex (.var 2)) ZhM) (T:=P.tbl (n+1)) e).trans (Zc (ZA rfl))));exact congrArg Zd w
end
set_option tactic.hygienic true
section
inductive Rw where
 |num (n:Int)|fetch (i:Nat)|close (k:Int) (ns:List Str)|work (w:Wd)|call|hop|unl (k:Int)|jmp (k:Int)|back|fin
noncomputable def Rw.d:Rw->D
 |.num n=>.tup [.str (O "num"),.int n]
 |.fetch i=>.tup [.str (O "fetch"),.int (i:Int)]
 |.close k ns=>.tup [.str (O "close"),.int k,.tup (ns.map .str)]
 |.work w=>.tup [.str (O "work"),.str w.s]
 |.call=>.tup [.str (O "call")]
 |.hop=>.tup [.str (O "hop")]
 |.unl k=>.tup [.str (O "unless"),.int k]
 |.jmp k=>.tup [.str (O "jump"),.int k]
 |.back=>.tup [.str (O "back")]
 |.fin=>.tup [.str (O "end")]
noncomputable def wd:Rw->String
 |.num _ => "num" |.fetch _ => "fetch" |.close _ _ => "close" |.work _ => "work" |.call => "call" |.hop => "hop" |.unl _ => "unless" |.jmp _ => "jump" |.back => "back" |.fin => "end"
def Zrr(r:Rw):∃ds,r.d=.tup (.str (Str.ofString (wd r))::ds):=by cases r<;>exact⟨_,rfl⟩
noncomputable def Rw.up(p:Int):Rw->Rw
 |.unl k=>.unl (p+k)
 |.jmp k=>.jmp (p+k)
 |r=>r
inductive It where
 |row (r:Rw)|part (t:T) (last:Bool)
noncomputable def It.d:It->D
 |.row r=>.tup [.str (O "row"),r.d]
 |.part t b=>.tup [.str (O "part"),t.d,.bl b]
def its(last:Bool):T->List It
 |.call f a=>[.part f Ws,.part a Ws,.row (if last then .hop else .call)]
 |.op w a b=>[.part a Ws,.part b Ws,.row (.work w)]
 |.iff c t e=>[.part c Ws,.row (.unl (cnt t+2)),.part t last,.row (.jmp (cnt e+1)),.part e last]
 |_=>[]
structure Un where
 u:Nat
 r:Nat
 sc:List Str
 rows:List Rw
structure St(h0 h:Hd)(c us w:Nat)(U:List Un)(ws:List D):Prop where
 qc:h[c]?=J (.ins (O "Coder") [(O "units",.ref us),(O "waiting",.ref w)])
 qs:h[us]?=J (.lst (U.map λx=>.ref x.u))
 qw:h[w]?=J (.lst ws)
 qu:∀x∈U,h[x.u]?=J (.ins (O "Unit") [(O "around",.tup (x.sc.map .str)),(O "rows",.ref x.r)])
 qr:∀x∈U,h[x.r]?=J (.lst (x.rows.map Rw.d))
 nd:(U.map Un.r).Nodup
 d1:us≠w
 d2:∀x∈U,us≠x.r
 d3:∀x∈U,w≠x.r
 o1:h0.length<=us
 o2:h0.length<=w
 o3:∀x∈U,h0.length<=x.r
 ol:h0.length<=h.length
 old:∀i,i<h0.length->h[i]?=h0[i]?
variable {h0 h:Hd}{c us w:Nat}{U A B_:List Un}{x:Un}{ws:List D}
def ZcG(e:h[i]?=J o):i<h.length:=by
 rcases Nat.lt_or_ge i h.length with q|q
 . exact q
 . rw[List.getElem?_eq_none q]at e;cases e
def keep{i:Nat}{o:DO}{g:Hd}(e:h[i]?=J o):(h++g)[i]?=J o:=by rw[Oe (ZcG e)];exact e
def St.app(q:St h0 h c us w U ws){g:Hd}:St h0 (h++g) c us w U ws:=⟨keep q.qc,keep q.qs,keep q.qw,λx hx=>keep (q.qu x hx),λx hx=>keep (q.qr x hx),q.nd,q.d1,q.d2,q.d3,q.o1,q.o2,q.o3,by have:=q.ol;simp;lia,λi hi=>by rw[Oe (by have:=q.ol;lia)];exact q.old i hi⟩
def Zdb{i j:Nat}{C fs l}(e:h[i]?=J (.ins C fs))(e':h[j]?=J (.lst l)):j≠i:=by intro q;rw[q,e]at e';cases e'
def St.setW(q:St h0 h c us w U ws)(vs:List D):St h0 (h.set w (.lst vs)) c us w U vs:=by
 refine⟨?_,?_,?_,λx hx=>?_,λx hx=>?_,q.nd,q.d1,q.d2,q.d3,q.o1,q.o2,q.o3,by simpa using q.ol,λi hi=>by rw[Oc (by have:=q.o2;lia)];exact q.old i hi⟩
 . rw[Oc (Zdb q.qc q.qw)];exact q.qc
 . rw[Oc q.d1.symm];exact q.qs
 . rw[Ol (ZcG q.qw)]
 . rw[Oc (Zdb (q.qu x hx) q.qw)];exact q.qu x hx
 . rw[Oc (q.d3 x hx)];exact q.qr x hx
def St.setR(q:St h0 h c us w (A++x::B_) ws)(vs:List Rw):St h0 (h.set x.r (.lst (vs.map Rw.d))) c us w (A++{x with rows:=vs}::B_) ws:=by
 have hx:x∈A++x::B_:=by simp
 have hr:=q.qr x hx;have hn:=q.nd;rw[List.map_append,Op,List.nodup_append]at hn;obtain⟨n1,n2,n3⟩:=hn;rw[List.nodup_cons]at n2;have ne:∀y,y∈A\/y∈B_->x.r≠y.r:=by
  intro y hy e;rcases hy with hy|hy
  . exact n3 y.r (List.mem_map_of_mem hy) x.r (Oi) e.symm
  . exact n2.1 (e▸List.mem_map_of_mem hy)
 have mem:∀y,y∈A++{x with rows:=vs}::B_->y={x with rows:=vs}\/(y∈A\/y∈B_):=by
  intro y hy;rcases OD.mp hy with hy|hy
  . exact .inr (.inl hy)
  . rcases O2.mp hy with hy|hy
    . exact .inl hy
    . exact .inr (.inr hy)
 have old:∀y,y∈A\/y∈B_->y∈A++x::B_:=by intro y hy;rcases hy with hy|hy<;>simp[hy]
 refine⟨?_,?_,?_,λy hy=>?_,λy hy=>?_,?_,q.d1,λy hy=>?_,λy hy=>?_,q.o1,q.o2,λy hy=>?_,by simpa using q.ol,λi hi=>by rw[Oc (by have:=q.o3 x hx;lia)];exact q.old i hi⟩
 . rw[Oc (Zdb q.qc hr)];exact q.qc
 . rw[Oc (q.d2 x hx).symm];have:=q.qs;simpa using this
 . rw[Oc (q.d3 x hx).symm];exact q.qw
 . rcases mem y hy with rfl|hy
   . rw[Oc (Zdb (q.qu x hx) hr)];exact q.qu x hx
   . rw[Oc (Zdb (q.qu y (old y hy)) hr)];exact q.qu y (old y hy)
 . rcases mem y hy with rfl|hy
   . rw[Ol (ZcG hr)]
   . rw[Oc (ne y hy)];exact q.qr y (old y hy)
 . have:=q.nd;simpa using this
 . rcases mem y hy with rfl|hy
   . exact q.d2 x hx
   . exact q.d2 y (old y hy)
 . rcases mem y hy with rfl|hy
   . exact q.d3 x hx
   . exact q.d3 y (old y hy)
 . rcases mem y hy with rfl|hy
   . exact q.o3 x hx
   . exact q.o3 y (old y hy)
def St.more(q:St h0 h c us w U ws)(sc:List Str):St h0 (List.set (h++[.ins (O "Unit") [(O "around",.tup (sc.map .str)),(O "rows",.ref (h.length+1))],.lst []]) us (.lst ((U.map λx=>.ref x.u)++[.ref h.length]))) c us w (U++[⟨h.length,h.length+1,sc,[]⟩]) ws:=by
 have q1:=q.app (g:=[.ins (O "Unit") [(O "around",.tup (sc.map .str)),(O "rows",.ref (h.length+1))],.lst []]);have lu:=ZcG q.qs;have new:∀y,y∈U++[⟨h.length,h.length+1,sc,[]⟩]->y∈U\/y=⟨h.length,h.length+1,sc,[]⟩:=λy hy=>by simpa using hy
 refine⟨?_,?_,?_,λy hy=>?_,λy hy=>?_,?_,q.d1,λy hy=>?_,λy hy=>?_,q.o1,q.o2,λy hy=>?_,by have:=q.ol;simp;lia,λi hi=>by rw[Oc (by have:=q.o1;lia)];exact q1.old i hi⟩
 . rw[Oc (Zdb q1.qc q1.qs)];exact q1.qc
 . rw[Ol (by simp;lia)];simp
 . rw[Oc q.d1];exact q1.qw
 . rcases new y hy with hy|rfl
   . rw[Oc (Zdb (q1.qu y hy) q1.qs)];exact q1.qu y hy
   . rw[Oc (by simp only;lia)];simp
 . rcases new y hy with hy|rfl
   . rw[Oc (q.d2 y hy)];exact q1.qr y hy
   . rw[Oc (by simp only;lia)];simp
 . rw[List.map_append,List.nodup_append];refine⟨q.nd,by simp,λa ha b hb e=>?_⟩;obtain⟨y,hy,rfl⟩:=List.mem_map.mp ha;have:=ZcG (q.qr y hy);simp at hb
   lia
 . rcases new y hy with hy|rfl
   . exact q.d2 y hy
   . simp only;lia
 . rcases new y hy with hy|rfl
   . exact q.d3 y hy
   . have:=ZcG q.qw;simp only;lia
 . rcases new y hy with hy|rfl
   . exact q.o3 y hy
   . have:=q.ol;simp only;lia
end
set_option tactic.hygienic false
section
variable {P:Pg}{h0 h:Hd}{c us w:Nat}{U:List Un}{x:Un}{ws:List D}
def Zpk{U:Tb}(q:ev U e S h=.ok (.int z) R):ev U (.tupl (.cons (.cst (.str a)) (.cons (.tupl (.cons (.cst (.str b)) (.cons e .nil))) .nil))) S h=.ok (.tup [.str a,.tup [.str b,.int z]]) R:=ZX (xs:=[_,_]) (Zb rfl (Zb (ZX (xs:=[_,_]) (Zb rfl (Zb q rfl)) (show 2<=1000 by decide)) rfl)) (show 2<=1000 by decide)
def ZlJ(H:Cof P)(n:Nat)(t:T)(last:Bool)(h:Hd)(hz:t.size<=1000)(ht:its last t≠[]):∃g,run P (n+3) (O "pieces_of") [t.d,.bl last] h=.ok (.ref (h++g).length) ((h++g)++[.lst ((its last t).map It.d)]):=by
 rw[Zh H.pieces_of rfl];cases t with
 |call f a=>exact⟨[],by rw[Yr];cases last<;>exact rfl⟩
 |op w a b=>refine⟨[],?_⟩;rw[Yr];exact congrArg Zd ((Za ((Zg (Zk (ZR (x:=w.s) rfl rfl) (decide_eq_false Zm8.mp))).trans rfl)).trans ((Za ((Zg (Zk (ZR (x:=w.s) rfl rfl) (decide_eq_false Zpe.mp))).trans rfl)).trans (Zc (ZA rfl))))
 |iff c t e=>rw[Zf]at hz;simp only[T.parts,Op,Oy,OI,List.sum_nil]at hz;refine⟨[.lst []]++[.lst []],?_⟩;rw[<-Oz];exact congrArg Zd ((Za ((Zg rfl).trans rfl)).trans (Zc ((Zt rfl).trans (Zc (ZA (Zel (xs:=[_,_,_,_,_]) (Zb rfl (Zb (Zpk ((Ze (Zw (Zjy H n t h (by lia)) rfl) rfl).trans rfl)) (Zb rfl (Zb (Zpk ((Ze (Zw (Zjy H n e _ (by lia)) rfl) rfl).trans rfl)) (Zb rfl rfl))))) (show 5<=1000 by decide)))))))
 |_=>exact absurd rfl ht
def Zou{GD:Str->Option (List (Key×D))}{h:Hd}{x:String}:opC GD .In (.str (Str.ofString x)) (.tup [.str (O "unless"),.str (O "jump")]) h=.ok (.bl (Wt (x="unless" \/ x="jump"))) h:=by have:=@Zda GD h [O "unless",O "jump"] (Str.ofString x);simpa using this
def Zlv(H:Cof P)(n:Nat)(r:Rw)(p:ev (P.tbl n) e S h=.ok r.d h):tst (P.tbl n) (.ex (.cmp .In (.ix e (.ci 0)) (.glo (O "LEADING")))) S h=.ok (Wt (wd r="unless" \/ wd r="jump")) h:=by obtain⟨ds,ed⟩:=Zrr r;rw[ed]at p;exact ZaH ((Zv (ZhT p) (by rw[Zi5,show(P.tbl n).G _=_ from H.gl];rfl)).trans Zou)
def ZjA(H:Cof P)(n:Nat)(q:St h0 h c us w U ws)(hx:x∈U)(az:Rw)(hz:x.rows.length<=100000):
 run P (n+1) (mnm (O "Unit") (O "add_row")) [.ref x.u,az.d] h=.ok .non (h.set x.r (.lst ((x.rows++[az.up x.rows.length]).map Rw.d))):=by
 rw[Zbh H.n_Unit_add_row H.Unit_add_row rfl,List.map_append];have qr:=q.qr x hx;have ea:∀d,ev (P.tbl n) (.att [O "Unit"] (.var 0) (O "rows")) [J (.ref x.u),d] h=.ok (.ref x.r) h:=λd=>Zc4 rfl (q.qu x hx) rfl;have app:∀{e o d},ev (P.tbl n) e [J (.ref x.u),o] h=.ok d h->xs2 (P.tbl n) (.cons (.drp (.meth .app (.att [O "Unit"] (.var 0) (O "rows")) (.cons e .nil))) .nil) [J (.ref x.u),o] h=.ok (.nx,[J (.ref x.u),o]) (h.set x.r (.lst (x.rows.map Rw.d++[d]))):=λp=>(Za (Zad (Zek (ea _) qr (Zb p rfl) (Zdc qr (by rw[Ys,YA];lia))))).trans rfl;have t:=Zlv H n (e:=.var 1) (S:=[J (.ref x.u),J az.d]) (h:=h) az rfl;have two:∀{s:Str}{z:Int},ev (P.tbl n) (.tupl (.cons (.ix (.var 1) (.ci 0)) (.cons (.bin .Add (.blt .len (.cons (.att [O "Unit"] (.var 0) (O "rows")) .nil)) (.ix (.var 1) (.ci 1))) .nil))) [J (.ref x.u),J (.tup [.str s,.int z])] h=.ok (.tup [.str s,.int (x.rows.length+z)]) h:=λ{s z}=>ZX (Zb (ZhT rfl) (Zb ((Ze (ZcC (Zb (ea _) rfl) (Zgd qr)) (y:=.int z) rfl).trans (by rw[Ys];rfl)) rfl)) (show 2<=1000 by decide)
 have go:wd az ≠ "unless" -> wd az ≠ "jump" -> az.up x.rows.length=az->Zd (xs2 (P.tbl n) Zan.body (ZL Zan.N [.ref x.u,az.d]) h)=.ok .non (h.set x.r (.lst (x.rows.map Rw.d++[az.up x.rows.length].map Rw.d))):=λw1 w2 e=>by rw[e];exact congrArg Zd ((Za ((Zg (Zk t (decide_eq_false λz=>z.elim w1 w2))).trans (app rfl))).trans rfl)
 cases az with
 |unl k=>exact congrArg Zd ((Za ((Zt (Zk t (decide_eq_true (.inl rfl)))).trans (app two))).trans rfl)
 |jmp k=>exact congrArg Zd ((Za ((Zt (Zk t (decide_eq_true (.inr rfl)))).trans (app two))).trans rfl)
 |_=>exact go (by simp[wd]) (by simp[wd]) rfl
theorem Zmq{U:Tb}{u k:Nat}{ps:List D}(e:h[k]?=J (.lst ps)):∀(ds ag:List D),ag.length+ds.length<=1000 ->
 Zz (J (k,ps)) (.nm 0) (tsto U M) (ev U (.tupl (.cons (.var 1) (.cons (.var 0) .nil)))) ds [M,J (.ref u)] ag h=.ok (ag++ds.map λd=>.tup [.ref u,d]) h
 |[],ag,hz=>by simp[Zz,Wk.stays,e]
 |d::ds,ag,hz=>by
  have ih:=Zmq (U:=U) (u:=u) e ds (ag++[.tup [.ref u,d]]) (by simp at hz ⊢;lia);have dR:ag.length<16777216:=by simp at hz;lia
  rw[ZC];simp[Wk.stays,e,dR,YA];simpa using ih
def Zrd{U:Tb}(p:ev U e S h=.ok (.ref i) R)(l:R[i]?=J (.lst ys)):evi U (.rev e) S h=.ok ⟨J (i,ys),ys.reverse⟩ R:=by rw[ZoC,p,Zr];simp only[Zlj,l];rfl
def Zps(e:h[i]?=J (.lst ys))(l:h[j]?=J (.lst zs))(hz:ys.length+zs.length<=sizeLine):ZaP .ext (.ref i) [.ref j] h=.ok .non (h.set i (.lst (ys++zs))):=by simp only[ZaP,e,Zef,Zoj,l];rw[if_pos hz]
def ZlI(H:Cof P)(n:Nat)(q:St h0 h c us w U ws){u k:Nat}{ps:List D}(e:h[k]?=J (.lst ps))(hp:ps.length<=1000)(hz:ws.length<=100000):
 run P (n+1) (mnm (O "Coder") (O "wait_for")) [.ref c,.ref u,.ref k] h=.ok .non (List.set (h++[DO.lst (ps.reverse.map λd=>.tup [.ref u,d])]) w (.lst (ws++ps.reverse.map λd=>.tup [.ref u,d]))):=by
 rw[Zbh H.n_Coder_wait_for H.Coder_wait_for rfl];have ec:=Zmq (U:=P.tbl n) (u:=u) e ps.reverse [] (by simp;lia);exact congrArg Zd ((Za (Zad (Zek (Zc4 rfl q.qc rfl) q.qw (Zb (Zfn (Zrd rfl e) ec) rfl) (Zps (keep q.qw) ZaN (by rw[YA];simp;lia))))).trans rfl)
def Zp1(H:Cof P)(n:Nat)(sc:List Str):ZhJ (run P (n+1)) (O "Unit") [.tup (sc.map .str)] h=.ok (.ref h.length) (h++[.ins (O "Unit") [(O "around",.tup (sc.map .str)),(O "rows",.ref (h.length+1))],.lst []]):=by unfold ZhJ;rw[Zbh H.n_Unit___init__ H.Unit___init__ (by rfl)];generalize sc.map D.str=ds;simp[Z7,ZbZ,ZL,Zhs,ZkK,YA]
def ZsM{U:Tb}(p:evs U es S h=.ok xs R)(q:ZhJ U.C C xs R=r):ev U (.mk C es) S h=r:=by rw[Zs7,p];exact q
noncomputable def Zb0(u:Nat)(is:List It):List D:=(is.map λi=>D.tup [.ref u,i.d]).reverse
def Zjz(H:Cof P)(n:Nat)(q:St h0 h c us w U ws)(t:T)(sc:List Str)(fn:Bool)(hU:U.length<=100000)(hw:ws.length<=100000):
 ∃h' y,run P (n+2) (mnm (O "Coder") (O "begin_unit")) [.ref c,t.d,.tup (sc.map .str),.str (Str.ofString (if fn then "back" else "end"))] h=.ok .non h'
  /\ y.sc=sc/\y.rows=[]/\St h0 h' c us w (U++[y]) (ws++Zb0 y.u [.part t fn,.row (if fn then .back else .fin)]):=by
 rw[Zbh H.n_Coder_begin_unit H.Coder_begin_unit rfl];have qa:=q.app (g:=[.ins (O "Unit") [(O "around",.tup (sc.map .str)),(O "rows",.ref (h.length+1))],.lst []]);have x2:=Zdc (d:=.ref h.length) qa.qs (by rw[YA];simp;lia);have q1:=q.more sc;generalize hh:List.set (h++[.ins (O "Unit") [(O "around",.tup (sc.map .str)),(O "rows",.ref (h.length+1))],.lst []]) us (.lst ((U.map λx=>.ref x.u)++[.ref h.length]))=R at q1 x2;have q2:=q1.app (g:=[.lst ([It.part t fn,.row (if fn then .back else .fin)].map It.d)]);have ew:=ZlI H n q2 (u:=h.length) (k:=R.length) (ps:=[It.part t fn,.row (if fn then .back else .fin)].map It.d) ZaN (show 2<=1000 by decide) hw;refine⟨_,⟨h.length,h.length+1,sc,[]⟩,?_,rfl,rfl,(q2.app (g:=[.lst (([It.part t fn,.row (if fn then .back else .fin)].map It.d).reverse.map λd=>D.tup [.ref h.length,d])])).setW (ws++([It.part t fn,.row (if fn then .back else .fin)].map It.d).reverse.map λd=>D.tup [.ref h.length,d])⟩;exact congrArg Zd ((Za (Zo (ZsM rfl (Zp1 H n sc)))).trans ((Za (Zad (Zek (Zc4 rfl qa.qc rfl) qa.qs rfl x2))).trans ((Za (Zad (Zcb rfl q1.qc rfl (Zb rfl (Zb (Zel (xs:=[_,_]) (by cases fn<;>exact rfl) (show 2<=1000 by decide)) rfl)) ew))).trans rfl)))
end
set_option tactic.hygienic true
section
variable {P:Pg}{h0 h:Hd}{c us w:Nat}{A B_:List Un}{x:Un}{ws:List D}
theorem ZdF:∀{sc:List Str},y∈sc->∃i,Tx.place y sc=J i/\i<sc.length
 |[],h=>by cases h
 |z::r,h=>by
  unfold Tx.place;by_cases e:z=y
  . exact⟨0,by rw[if_pos e],by simp⟩
  . rw[if_neg e];have:y∈r:=by
     rcases O2.mp h with q|q
     . exact absurd q.symm e
     . exact q
    obtain⟨i,e1,e2⟩:=ZdF this;exact⟨i+1,by rw[e1];rfl,by simp;lia⟩
def Zjq(ss:List Str):strsOf (ss.map D.str)=J ss:=by
 induction ss with
 |nil=>rfl
 |cons s r ih=>simp[strsOf,ih]
def Zp5(H:Cof P)(n:Nat)(q:St h0 h c us w (A++x::B_) ws)(t e:T)(hp:t.parts=[e])(hb:bnd t≠[])(hx:x.rows.length<=100000)(hU:(A++x::B_).length<=90000)(hw:ws.length<=100000)(hs:x.sc.length<=100000):
 ∃h' y,run P (n+3) (mnm (O "Coder") (O "begin_function")) [.ref c,.ref x.u,t.d] h=.ok .non h'/\y.sc=(bnd t).reverse++x.sc/\y.rows=[]
  /\ St h0 h' c us w ((A++{x with rows:=x.rows++[.close (A++x::B_).length (bnd t).reverse]}::B_)++[y]) (ws++Zb0 y.u [.part e Wr,.row .back]):=by
 rw[Zbh H.n_Coder_begin_function H.Coder_begin_function rfl];have bX:x∈A++x::B_:=by simp
 have ea:=ZjA H (n+1) q bX (.close (A++x::B_).length (bnd t).reverse) hx;have q1:=q.setR (x.rows++[.close (A++x::B_).length (bnd t).reverse]);simp only[Rw.up]at ea;generalize h.set x.r (.lst ((x.rows++[Rw.close (A++x::B_).length (bnd t).reverse]).map Rw.d))=R at ea q1;have ep:=ZeB H (n+1) t R;rw[hp]at ep;obtain⟨h',y,e3,y1,y2,q3⟩:=Zjz H n q1 e ((bnd t).reverse++x.sc) Wr (by simp at hU ⊢;lia) hw;refine⟨h',y,?_,y1,y2,q3⟩;have jc:ZmS (.tup ((bnd t).map .str)) h=.ok (.tup ((bnd t).reverse.map .str)) h:=by
  cases gm:bnd t with
  |nil=>exact absurd gm hb
  |cons b r=>rw[List.map_reverse];rfl
 have je:opB .Add (.tup ((bnd t).reverse.map .str)) (.tup (x.sc.map .str)) R=.ok (.tup (((bnd t).reverse++x.sc).map .str)) R:=by
  have bl:(bnd t).length<=2:=by cases t<;>simp[bnd]
  rw[Zoa (by rw[YA];simp;lia),List.map_append]
 exact congrArg Zd ((Za (Zo (by rw[ZoF,Zw (ZeC H (n+1) t h) rfl];exact jc))).trans ((Za (Zad (Zcb rfl (q.qu x bX) rfl (Zb (ZX (xs:=[_,_,_]) (Zb rfl (Zb ((ZcC (Zb (Zc4 rfl q.qc rfl) rfl) (Zgd q.qs)).trans (by rw[Ys])) rfl)) (show 3<=1000 by decide)) rfl) ea))).trans ((Za (Zad (Zcb rfl q1.qc rfl (Zb ((ZF (Zw ep rfl) rfl).trans rfl) (Zb ((Ze rfl (Zc4 rfl (q1.qu {x with rows:=x.rows++[.close (A++x::B_).length (bnd t).reverse]} (by simp)) rfl)).trans je) rfl)) e3))).trans rfl)))
end
set_option tactic.hygienic false
section
variable {P:Pg}{h0 h:Hd}{c us w:Nat}{A B_:List Un}{x:Un}{ws:List D}
def leaf(sc:List Str):T->Option Rw
 |.num n=>J (.num n)
 |.name y=>(Tx.place y sc).map .fetch
 |_=>M
def Zp3(H:Cof P)(n:Nat)(q:St h0 h c us w (A++x::B_) ws)(t:T)(last:Bool)(hr:leaf x.sc t=J r)(hx:x.rows.length<=100000):
 ∃h',run P (n+4) (mnm (O "Coder") (O "do_part")) [.ref c,.ref x.u,t.d,.bl last] h=.ok .non h'/\St h0 h' c us w (A++{x with rows:=x.rows++[r]}::B_) ws:=by
 rw[Zbh H.n_Coder_do_part H.Coder_do_part rfl];have bX:x∈A++x::B_:=by simp
 have hu:=q.qu x bX;cases t with
 |num m=>cases hr;exact⟨_,congrArg Zd ((Za ((Zt rfl).trans ((Za (Zad (Zcb rfl hu rfl rfl (ZjA H (n+2) q bX (.num m) hx)))).trans rfl))).trans rfl),q.setR _⟩
 |name y=>
  obtain⟨i,e1,rfl⟩:=Oo.mp hr;have ei:Zlb (.tup (x.sc.map .str)) (.str y) h=.ok (.int (i:Int)) h:=by unfold Zlb;simp only[Zjq,e1];rfl
  refine⟨_,congrArg Zd ((Za ((Zg rfl).trans ((Za ((Zt rfl).trans ((Za (Zad (Zcb rfl hu rfl (Zb (ZX (xs:=[_,_]) (Zb rfl (Zb (by rw[Zre,Zc4 rfl hu rfl];exact ei) rfl)) (show 2<=1000 by decide)) rfl) (ZjA H (n+2) q bX (.fetch i) hx)))).trans rfl))).trans rfl))).trans rfl),q.setR _⟩
 |_=>cases hr
def Zsf(H:Cof P)(n:Nat)(q:St h0 h c us w (A++x::B_) ws)(t e:T)(last:Bool)(hp:t.parts=[e])(hb:bnd t≠[])(hx:x.rows.length<=100000)(hU:(A++x::B_).length<=90000)(hw:ws.length<=100000)(hs:x.sc.length<=100000):
 ∃h' y,run P (n+4) (mnm (O "Coder") (O "do_part")) [.ref c,.ref x.u,t.d,.bl last] h=.ok .non h'/\y.sc=(bnd t).reverse++x.sc/\y.rows=[]
  /\ St h0 h' c us w ((A++{x with rows:=x.rows++[.close (A++x::B_).length (bnd t).reverse]}::B_)++[y]) (ws++Zb0 y.u [.part e Wr,.row .back]):=by
 rw[Zbh H.n_Coder_do_part H.Coder_do_part (by rfl)];obtain⟨h',y,e1,y1,y2,q1⟩:=Zp5 H n q t e hp hb hx hU hw hs;refine⟨h',y,?_,y1,y2,q1⟩;have ha:∀(w:Str) (ds:List D),t.d=.tup (.str w::ds)->w≠O "num" -> w≠O "name" -> Zd (xs2 (P.tbl (n+3)) ZaM [J (.ref c),J (.ref x.u),J t.d,J (.bl last)] h)=.ok .non h':=λw ds ed n1 n2=>by
  have eb:=ZeC H (n+2) t h;cases hb':bnd t with
  |nil=>exact absurd hb' hb
  |cons b r=>rw[hb']at eb;rw[ed]at e1 eb ⊢;exact congrArg Zd ((Za ((Zg (Zk (ZR (ZhT rfl) rfl) (decide_eq_false n1))).trans ((Za ((Zg (Zk (ZR (ZhT rfl) rfl) (decide_eq_false n2))).trans ((Za ((Zt (Zdo eb rfl rfl)).trans ((Za (Zad (Zcb rfl q.qc rfl rfl e1))).trans rfl))).trans rfl))).trans rfl))).trans rfl)
 cases t with
 |fn a b=>exact ha _ _ rfl (by decide) (by decide)
 |rcc f a b=>exact ha _ _ rfl (by decide) (by decide)
 |_=>exact absurd rfl hb
def Zp2(H:Cof P)(n:Nat)(q:St h0 h c us w (A++x::B_) ws)(t:T)(last:Bool)(ht:its last t≠[])(hz:t.size<=1000)(hw:ws.length<=100000):
 ∃h',run P (n+4) (mnm (O "Coder") (O "do_part")) [.ref c,.ref x.u,t.d,.bl last] h=.ok .non h'/\St h0 h' c us w (A++x::B_) (ws++Zb0 x.u (its last t)):=by
 rw[Zbh H.n_Coder_do_part H.Coder_do_part (by rfl)];obtain⟨g,e1⟩:=ZlJ H n t last h hz ht;have q2:St h0 (h++g++[.lst ((its last t).map It.d)]) c us w (A++x::B_) ws:=q.app.app;have hl:(its last t).length<=5:=by cases t<;>simp[its]
 have e2:=ZlI H (n+2) q2 (u:=x.u) (k:=(h++g).length) (ps:=(its last t).map It.d) ZaN (by simp;lia) hw;have q3:=(q2.app (g:=[.lst (((its last t).map It.d).reverse.map λd=>.tup [.ref x.u,d])])).setW (ws++((its last t).map It.d).reverse.map λd=>.tup [.ref x.u,d]);generalize (List.set (h++g++[.lst ((its last t).map It.d)]++[DO.lst (((its last t).map It.d).reverse.map λd=>.tup [.ref x.u,d])]) w (.lst (ws++((its last t).map It.d).reverse.map λd=>.tup [.ref x.u,d])))=h2 at e2 q3;rw[show((its last t).map It.d).reverse.map (λd=>D.tup [.ref x.u,d])=Zb0 x.u (its last t) by simp[Zb0,List.map_reverse,Function.comp_def]]at q3;refine⟨h2,?_,q3⟩;have ha:∀(w:Str) (ds:List D),t.d=.tup (.str w::ds)->w≠O "num" -> w≠O "name" -> bnd t=[]->Zd (xs2 (P.tbl (n+3)) ZaM [J (.ref c),J (.ref x.u),J t.d,J (.bl last)] h)=.ok .non h2:=λw ds ed n1 n2 hb=>by have eb:=ZeC H (n+2) t h;rw[hb]at eb;rw[ed]at e1 eb ⊢;exact congrArg Zd ((Za ((Zg (Zk (ZR (ZhT rfl) rfl) (decide_eq_false n1))).trans ((Za ((Zg (Zk (ZR (ZhT rfl) rfl) (decide_eq_false n2))).trans ((Za ((Zg (Zdo eb rfl rfl)).trans ((Za (Zad (Zcb rfl q.qc rfl (Zb rfl (Zb (Zw e1 rfl) rfl)) e2))).trans rfl))).trans rfl))).trans rfl))).trans rfl)
 cases t with
 |call f a=>exact ha _ _ rfl (by decide) (by decide) rfl
 |op wd a b=>exact ha _ _ rfl ZpI.mp Zm7.mp rfl
 |iff a b d=>exact ha _ _ rfl (by decide) (by decide) rfl
 |_=>exact absurd rfl ht
def Zml:Sxs:=.u (.s 1 (.meth .pop (.a "Coder" V0 "waiting") .n)) (.s 2 (.ix V1 K1)) (.iff (.q (.ix V2 K0) (.Ci_ "row")) (.o (.drp (.m "Unit" "add_row" (.ix V1 K0) (.o (.ix V2 K1))))) (.o (.drp (.m "Coder" "do_part" V0 (.u (.ix V1 K0) (.ix V2 K1) (.ix V2 K2))))))
def loop(P:Pg)(n c fuel:Nat)(pr pc:Option D)(h:Hd):kz (Fl×Ev):=Z9 (tst ⟨P.G,P.GD,run P (n+4),P.L⟩ (.ex (.att [O "Coder"] (.var 0) (O "waiting")))) (xs2 ⟨P.G,P.GD,run P (n+4),P.L⟩ Zml) fuel [J (.ref c),pr,pc] h
inductive Sr(h0:Hd)(P:Pg)(n c us w:Nat)(A B_:List Un)(x:Un)(rr:Rw)(ws:List D)(h:Hd)(fuel:Nat)(pr pc:Option D):Prop
 |mk (h':Hd) (bT bU:Option D) (e:loop P n c (fuel+1) pr pc h=loop P n c fuel bT bU h') (q:St h0 h' c us w (A++{x with rows:=x.rows++[rr.up x.rows.length]}::B_) ws)
def s_row(H:Cof P)(n fuel:Nat)(q:St h0 h c us w (A++x::B_) (ws++[.tup [.ref x.u,(It.row rr).d]]))(hx:x.rows.length<=100000)(pr pc:Option D):
 Sr h0 P n c us w A B_ x rr ws h fuel pr pc:=by
 have bX:x∈A++x::B_:=by simp
 have q1:=q.setW ws;have bB:=Ze2 (h:=h) (i:=w) q.qw;generalize h.set w (.lst ws)=hp at q1 bB;exact⟨_,J (.tup [.ref x.u,(It.row rr).d]),J (It.row rr).d,Zey (Zk (Zho (Zc4 rfl q.qc rfl) q.qw) (by simp)) ((Za (Zo (Zek (Zc4 rfl q.qc rfl) q.qw rfl bB))).trans ((Za (Zo rfl)).trans ((Za ((Zt rfl).trans ((Za (Zad (Zcb rfl (q1.qu x bX) rfl rfl (ZjA H (n+3) q1 bX rr hx)))).trans rfl))).trans rfl))),q1.setR _⟩
def Ziz(H:Cof P)(n fuel:Nat)(t:T)(last:Bool)(q:St h0 h c us w (A++x::B_) (ws++[.tup [.ref x.u,(It.part t last).d]]))(pr pc:Option D):
 ∃hp,St h0 hp c us w (A++x::B_) ws/\∀h',run P (n+4) (mnm (O "Coder") (O "do_part")) [.ref c,.ref x.u,t.d,.bl last] hp=.ok .non h'->∃bT bU,loop P n c (fuel+1) pr pc h=loop P n c fuel bT bU h':=by
 have q1:=q.setW ws;have bB:=Ze2 (h:=h) (i:=w) q.qw;generalize h.set w (.lst ws)=hp at q1 bB;exact⟨hp,q1,λh' e=>⟨J (.tup [.ref x.u,(It.part t last).d]),J (It.part t last).d,Zey (Zk (Zho (Zc4 rfl q.qc rfl) q.qw) (by simp)) ((Za (Zo (Zek (Zc4 rfl q.qc rfl) q.qw rfl bB))).trans ((Za (Zo rfl)).trans ((Za ((Zg rfl).trans ((Za (Zad (Zcb rfl q1.qc rfl rfl e))).trans rfl))).trans rfl)))⟩⟩
end
section
def comp:T->List Str->Bool->Nat->Nat->List Rw×List (List Rw)
 |.num n,_,_,_,_=>([.num n],[])
 |.name y,sc,_,_,_=>([.fetch ((Tx.place y sc).getD 0)],[])
 |.fn y e,sc,_,_,k=>([.close k [y]],((comp e (y::sc) Wr 0 (k+1)).1++[.back])::(comp e (y::sc) Wr 0 (k+1)).2)
 |.rcc f y e,sc,_,_,k=>([.close k [y,f]],((comp e (y::f::sc) Wr 0 (k+1)).1++[.back])::(comp e (y::f::sc) Wr 0 (k+1)).2)
 |.call f a,sc,l,p,k=>
  ((comp f sc Ws p k).1++((comp a sc Ws (p+cnt f) (k+(comp f sc Ws p k).2.length)).1++[if l then .hop else .call]),
   (comp f sc Ws p k).2++(comp a sc Ws (p+cnt f) (k+(comp f sc Ws p k).2.length)).2)
 |.op w f a,sc,_,p,k=>
  ((comp f sc Ws p k).1++((comp a sc Ws (p+cnt f) (k+(comp f sc Ws p k).2.length)).1++[.work w]),
   (comp f sc Ws p k).2++(comp a sc Ws (p+cnt f) (k+(comp f sc Ws p k).2.length)).2)
 |.iff c t e,sc,l,p,k=>
  ((comp c sc Ws p k).1++(.unl ((p+cnt c+1+cnt t+1:Nat):Int)::((comp t sc l (p+cnt c+1) (k+(comp c sc Ws p k).2.length)).1 ++
   (.jmp ((p+cnt c+1+cnt t+1+cnt e:Nat):Int)::(comp e sc l (p+cnt c+1+cnt t+1) (k+(comp c sc Ws p k).2.length+(comp t sc l (p+cnt c+1) (k+(comp c sc Ws p k).2.length)).2.length)).1))),
   (comp c sc Ws p k).2++((comp t sc l (p+cnt c+1) (k+(comp c sc Ws p k).2.length)).2 ++
    (comp e sc l (p+cnt c+1+cnt t+1) (k+(comp c sc Ws p k).2.length+(comp t sc l (p+cnt c+1) (k+(comp c sc Ws p k).2.length)).2.length)).2))
theorem Zm:∀(t:T) (sc:List Str) (l:Bool) (p k:Nat),(comp t sc l p k).1.length=cnt t
 |.num _,_,_,_,_=>rfl
 |.name _,_,_,_,_=>rfl
 |.fn _ _,_,_,_,_=>rfl
 |.rcc _ _ _,_,_,_,_=>rfl
 |.call f a,sc,l,p,k=>by simp[comp,Zm f,Zm a,cnt];lia
 |.op w f a,sc,l,p,k=>by simp[comp,Zm f,Zm a,cnt];lia
 |.iff c t e,sc,l,p,k=>by simp[comp,Zm c,Zm t,Zm e,cnt];lia
noncomputable def cost:T->Nat
 |.num _=>1
 |.name _=>1
 |.fn _ e=>cost e+2
 |.rcc _ _ e=>cost e+2
 |.call f a=>cost f+cost a+2
 |.op _ f a=>cost f+cost a+2
 |.iff c t e=>cost c+cost t+cost e+3
theorem Zbj:∀t:T,cnt t<=2*t.size
 |.num _=>by simp[cnt,T.size,T.places]
 |.name _=>by simp[cnt,T.size,T.places]
 |.fn _ e=>by rw[Zf];simp[cnt,T.parts];lia
 |.rcc _ _ e=>by rw[Zf];simp[cnt,T.parts];lia
 |.call f a=>by have:=Zbj f;have:=Zbj a;rw[Zf];simp[cnt,T.parts];lia
 |.op _ f a=>by have:=Zbj f;have:=Zbj a;rw[Zf];simp[cnt,T.parts];lia
 |.iff c t e=>by have:=Zbj c;have:=Zbj t;have:=Zbj e;rw[Zf];simp[cnt,T.parts];lia
theorem units_le:∀(t:T) (sc:List Str) (l:Bool) (p k:Nat),(comp t sc l p k).2.length+1<=t.size
 |.num _,_,_,_,_=>by simp[comp,T.size,T.places]
 |.name _,_,_,_,_=>by simp[comp,T.size,T.places]
 |.fn y e,sc,l,p,k=>by have:=units_le e (y::sc) Wr 0 (k+1);rw[Zf];simp[comp,T.parts];lia
 |.rcc f y e,sc,l,p,k=>by have:=units_le e (y::f::sc) Wr 0 (k+1);rw[Zf];simp[comp,T.parts];lia
 |.call f a,sc,l,p,k=>by have:=units_le f sc Ws p k;have:=units_le a sc Ws (p+cnt f) (k+(comp f sc Ws p k).2.length);rw[Zf];simp[comp,T.parts];lia
 |.op w f a,sc,l,p,k=>by have:=units_le f sc Ws p k;have:=units_le a sc Ws (p+cnt f) (k+(comp f sc Ws p k).2.length);rw[Zf];simp[comp,T.parts];lia
 |.iff c t e,sc,l,p,k=>by
  have:=units_le c sc Ws p k;have:=units_le t sc l (p+cnt c+1) (k+(comp c sc Ws p k).2.length);have:=units_le e sc l (p+cnt c+1+cnt t+1) (k+(comp c sc Ws p k).2.length+(comp t sc l (p+cnt c+1) (k+(comp c sc Ws p k).2.length)).2.length);rw[Zf];simp[comp,T.parts]
  lia
variable {P:Pg}{h0:Hd}{c us w:Nat}
structure Ri(m:Nat)(A B_:List Un)(x:Un)(ws:List D):Prop where
 z:m<=2000
 r:x.rows.length+m<=50000
 u:2*(A++x::B_).length+m<=100000
 w:2*ws.length+5*m<=100000
 s:x.sc.length+m<=50000
abbrev Rm(t:T):=Ri (2*t.size)
inductive Dn(h0:Hd)(P:Pg)(n c us w:Nat)(t:T)(last:Bool)(A B_:List Un)(x:Un)(ws:List D)(h:Hd)(fuel:Nat)(pr pc:Option D):Prop
 |mk (h':Hd) (bT bU:Option D) (N:List Un) (e:loop P n c (fuel+cost t) pr pc h=loop P n c fuel bT bU h') (m:N.map Un.rows=(comp t x.sc last x.rows.length (A++x::B_).length).2)
  (q:St h0 h' c us w (A++{x with rows:=x.rows++(comp t x.sc last x.rows.length (A++x::B_).length).1}::(B_++N)) ws)
def Done(h0:Hd)(P:Pg)(n c us w:Nat)(t:T)(last:Bool)(A B_:List Un)(x:Un)(ws:List D)(h:Hd):Prop:=∀fuel pr pc,Dn h0 P n c us w t last A B_ x ws h fuel pr pc
def Zgk(H:Cof P)(n:Nat)(t:T)(last:Bool)(rm:Rm t A B_ x ws)(hr:leaf x.sc t=J r)(hc:(comp t x.sc last x.rows.length (A++x::B_).length)=([r],[]))(R:cost t=1)
 (q:St h0 h c us w (A++x::B_) (ws++[.tup [.ref x.u,(It.part t last).d]])):Done h0 P n c us w t last A B_ x ws h:=by
 intro fuel pr pc;have kc:=rm.r;obtain⟨hp,q1,k⟩:=Ziz H n fuel t last q pr pc;obtain⟨h',e1,q2⟩:=Zp3 H n q1 t last hr (by lia);obtain⟨bT,bU,e2⟩:=k h' e1;refine⟨h',bT,bU,[],by rw[R];exact e2,by rw[hc];rfl,?_⟩;rw[hc];simpa using q2
end
section
variable {P:Pg}{h0:Hd}{c us w:Nat}
def map_len{N:List Un}(e:N.map Un.rows=l):N.length=l.length:=by rw[<-e];simp
def Zh0(H:Cof P)(n:Nat)(t e:T)(last:Bool)(rm:Rm t A B_ x ws)(hp:t.parts=[e])(hb:bnd t≠[])(bI:cost t=cost e+2)
 (hc:comp t x.sc last x.rows.length (A++x::B_).length=([.close (A++x::B_).length (bnd t).reverse],((comp e ((bnd t).reverse++x.sc) Wr 0 ((A++x::B_).length+1)).1++[.back])::(comp e ((bnd t).reverse++x.sc) Wr 0 ((A++x::B_).length+1)).2))
 (ih:∀(A' B':List Un) (x':Un) (aH:List D) (h':Hd),x'.sc=(bnd t).reverse++x.sc->Rm e A' B' x' aH->St h0 h' c us w (A'++x'::B') (aH++[.tup [.ref x'.u,(It.part e Wr).d]])->Done h0 P n c us w e Wr A' B' x' aH h')
 (q:St h0 h c us w (A++x::B_) (ws++[.tup [.ref x.u,(It.part t last).d]])):Done h0 P n c us w t last A B_ x ws h:=by
 intro fuel pr pc;obtain⟨r5,r1,r2,r3,r4⟩:=rm;have sz:t.size=1+e.size:=by rw[Zf,hp];simp
 have ep:=ZeT e;have bl:(bnd t).length<=2:=by cases t<;>simp[bnd]
 obtain⟨ji,q1,k⟩:=Ziz H n (fuel+1+cost e) t last q pr pc;obtain⟨R,y,e1,y1,y2,q2⟩:=Zsf H n q1 t e last hp hb (by lia) (by lia) (by lia) (by lia);obtain⟨bu,bw,e2⟩:=k R e1;have pe:ws++Zb0 y.u [.part e Wr,.row .back]=(ws++[.tup [.ref y.u,(It.row .back).d]])++[.tup [.ref y.u,(It.part e Wr).d]]:=by simp[Zb0]
 rw[pe]at q2;have bm:((A++{x with rows:=x.rows++[Rw.close (A++x::B_).length (bnd t).reverse]}::B_)++[y]).length=(A++x::B_).length+1:=by simp;lia
 have iC:Rm e (A++{x with rows:=x.rows++[Rw.close (A++x::B_).length (bnd t).reverse]}::B_) [] y (ws++[.tup [.ref y.u,(It.row .back).d]]):=⟨by lia,by rw[y2];simp;lia,by rw[bm];lia,by simp;lia,by rw[y1];simp;lia⟩
 obtain⟨h2,cb,ce,N,e3,n3,q3⟩:=ih _ [] y _ R y1 iC q2 (fuel+1) bu bw;rw[y1,y2,bm]at n3 q3;simp only[List.length_nil,OB]at n3 q3;obtain⟨h3,iE,iI,e4,q4⟩:=s_row H n fuel q3 (by simp only[Zm];have:=Zbj e;lia) cb ce;refine⟨h3,iE,iI,{y with rows:=(comp e ((bnd t).reverse++x.sc) Wr 0 ((A++x::B_).length+1)).1++[Rw.back]}::N,?_,?_,?_⟩
 . rw[bI,show fuel+(cost e+2)=fuel+1+cost e+1 by lia,e2,e3,e4]
 . rw[hc,Op,n3]
 . rw[hc];simpa[Rw.up,y1]using q4
noncomputable def It.cnt:It->Nat
 |.row _=>1
 |.part t _=>Ce.cnt t
def It.wt:It->Nat
 |.row _=>1
 |.part t _=>2*t.size
noncomputable def It.cost:It->Nat
 |.row _=>1
 |.part t _=>Ce.cost t
def It.comp(sc:List Str)(p k:Nat):It->List Rw×List (List Rw)
 |.row r=>([r.up p],[])
 |.part t l=>Ce.comp t sc l p k
def Zg1(sc:List Str):List It->Nat->Nat->List Rw×List (List Rw)
 |[],_,_=>([],[])
 |i::is,p,k=>((i.comp sc p k).1++(Zg1 sc is (p+i.cnt) (k+(i.comp sc p k).2.length)).1,(i.comp sc p k).2++(Zg1 sc is (p+i.cnt) (k+(i.comp sc p k).2.length)).2)
def PI(h0:Hd)(P:Pg)(n c us w:Nat)(sc:List Str):List It->Prop
 |[]=>True
 |.row _::is=>PI h0 P n c us w sc is
 |.part t l::is=>(∀(A B_:List Un) (x:Un) (ws:List D) (h:Hd),x.sc=sc->Rm t A B_ x ws->St h0 h c us w (A++x::B_) (ws++[.tup [.ref x.u,(It.part t l).d]])->Done h0 P n c us w t l A B_ x ws h)/\PI h0 P n c us w sc is
inductive Di(h0:Hd)(P:Pg)(n c us w:Nat)(co:Nat)(cp:List Rw×List (List Rw))(A B_:List Un)(x:Un)(ws:List D)(h:Hd)(fuel:Nat)(pr pc:Option D):Prop
 |mk (h':Hd) (bT bU:Option D) (N:List Un) (e:loop P n c (fuel+co) pr pc h=loop P n c fuel bT bU h') (m:N.map Un.rows=cp.2) (q:St h0 h' c us w (A++{x with rows:=x.rows++cp.1}::(B_++N)) ws)
theorem Zlf:∀is:List It,is.length<=(is.map It.wt).sum
 |[]=>Oq _
 |i::is=>by
  have:=Zlf is;have:1<=i.wt:=by
   cases i with
   |row _=>exact Oq _
   |part t _=>have:=ZeT t;show 1<=2*t.size;lia
  rw[Op,OI,Os]
  lia
def ZsX(i:It)(sc:List Str)(p k:Nat):(i.comp sc p k).1.length=i.cnt/\i.cnt<=i.wt/\2*(i.comp sc p k).2.length<=i.wt:=by
 cases i with
 |row r=>exact⟨rfl,Oq _,Yv _⟩
 |part t l=>exact⟨Zm t sc l p k,Zbj t,by have:=units_le t sc l p k;show 2*(Ce.comp t sc l p k).2.length<=2*t.size;lia⟩
theorem items(H:Cof P)(n:Nat):∀(is:List It) (A B_:List Un) (x:Un) (ws:List D) (h:Hd),PI h0 P n c us w x.sc is->Ri (is.map It.wt).sum A B_ x ws->St h0 h c us w (A++x::B_) (ws++Zb0 x.u is)->∀fuel pr pc,
 Di h0 P n c us w (is.map It.cost).sum (Zg1 x.sc is x.rows.length (A++x::B_).length) A B_ x ws h fuel pr pc
 |[],A,B_,x,ws,h,pi,ri,q,fuel,pr,pc=>⟨h,pr,pc,[],rfl,rfl,by simpa[Zb0,Zg1]using q⟩
 |i::is,A,B_,x,ws,h,pi,ri,q,fuel,pr,pc=>by
  rw[Op,OI]at ri;obtain⟨z,r,u,w',s⟩:=ri;have l0:=ZsX i x.sc x.rows.length (A++x::B_).length;have lw:=Zlf is;rw[show ws++Zb0 x.u (i::is)=(ws++Zb0 x.u is)++[.tup [.ref x.u,i.d]] by simp[Zb0]]at q;have st:PI h0 P n c us w x.sc is/\Di h0 P n c us w i.cost (i.comp x.sc x.rows.length (A++x::B_).length) A B_ x (ws++Zb0 x.u is) h (fuel+(is.map It.cost).sum) pr pc:=by
   cases i with
   |row rr=>obtain⟨R,bu,bw,e1,q1⟩:=s_row H n (fuel+(is.map It.cost).sum) q (by lia) pr pc;exact⟨pi,R,bu,bw,[],e1,rfl,by rw[Yr];exact q1⟩
   |part t l=>rw[show(It.part t l).wt=2*t.size from rfl]at z r u w' s;obtain⟨R,bu,bw,N,e1,m,q1⟩:=pi.1 A B_ x _ h rfl ⟨by lia,by lia,by lia,by simp only[OA,Zb0,List.length_reverse,Ys];lia,by lia⟩ q (fuel+(is.map It.cost).sum) pr pc;exact⟨pi.2,R,bu,bw,N,e1,m,q1⟩
  obtain⟨iG,R,bu,bw,N,e1,m,q1⟩:=st;have ml:=map_len m;have lx:(x.rows++(i.comp x.sc x.rows.length (A++x::B_).length).1).length=x.rows.length+i.cnt:=by rw[OA,l0.1]
  have lu:(A++{x with rows:=x.rows++(i.comp x.sc x.rows.length (A++x::B_).length).1}::(B_++N)).length=(A++x::B_).length+(i.comp x.sc x.rows.length (A++x::B_).length).2.length:=by rw[<-ml];simp only[OA,Os];lia
  obtain⟨h2,cb,ce,N2,e2,m2,q2⟩:=items H n is A (B_++N) {x with rows:=x.rows++(i.comp x.sc x.rows.length (A++x::B_).length).1} ws R iG ⟨by lia,by rw[lx];lia,by rw[lu];lia,by lia,by show x.sc.length+_<=_;lia⟩ q1 fuel bu bw;rw[lx,lu]at m2 q2;refine⟨h2,cb,ce,N++N2,?_,?_,?_⟩
  . rw[Op,OI,Nat.add_comm i.cost,<-Nat.add_assoc];exact e1.trans e2
  . rw[List.map_append,m,m2];rfl
  . rw[<-Oz,show(Zg1 x.sc (i::is) x.rows.length (A++x::B_).length).1=_++_ from rfl,<-Oz];exact q2
def Zfo(H:Cof P)(n:Nat)(t:T)(last:Bool)(rm:Rm t A B_ x ws)(ht:its last t≠[])(hw:((its last t).map It.wt).sum<=2*t.size)(bI:cost t=((its last t).map It.cost).sum+1)(hc:comp t x.sc last x.rows.length (A++x::B_).length=Zg1 x.sc (its last t) x.rows.length (A++x::B_).length)
 (pi:PI h0 P n c us w x.sc (its last t)) (q:St h0 h c us w (A++x::B_) (ws++[.tup [.ref x.u,(It.part t last).d]])):Done h0 P n c us w t last A B_ x ws h:=by
 intro fuel pr pc;obtain⟨z,r,u,w',s⟩:=rm;obtain⟨ji,q1,k⟩:=Ziz H n (fuel+((its last t).map It.cost).sum) t last q pr pc;obtain⟨R,e1,q2⟩:=Zp2 H n q1 t last ht (by lia) (by lia);obtain⟨bu,bw,e2⟩:=k R e1;obtain⟨h2,cb,ce,N,e3,m,q3⟩:=items H n (its last t) A B_ x ws R pi ⟨by lia,by lia,by lia,by lia,by lia⟩ q2 fuel bu bw;rw[<-hc]at m q3;exact⟨h2,cb,ce,N,by rw[bI];exact e2.trans e3,m,q3⟩
theorem ZfL(H:Cof P)(n:Nat):∀ (t:T) (last:Bool) (A B_:List Un) (x:Un) (ws:List D) (h:Hd),Gn.Cl x.sc t->Rm t A B_ x ws->St h0 h c us w (A++x::B_) (ws++[.tup [.ref x.u,(It.part t last).d]])->Done h0 P n c us w t last A B_ x ws h
 |.num m,last,A,B_,x,ws,h,hc,rm,q=>Zgk H n (.num m) last rm (r:=.num m) rfl rfl rfl q
 |.name y,last,A,B_,x,ws,h,hc,rm,q=>by
   obtain⟨i,e1,_⟩:=ZdF (show y∈x.sc from hc);exact Zgk H n (.name y) last rm (r:=.fetch i) (by simp [leaf,e1]) (by simp [comp,e1]) rfl q
 |.fn y e,last,A,B_,x,ws,h,hc,rm,q=>Zh0 H n (.fn y e) e last rm rfl (by simp [bnd]) rfl (by simp [comp,bnd]) (λA' B' x' aH h' hs rm' q'=>ZfL H n e Wr A' B' x' aH h' (by rw [hs];exact hc.1) rm' q') q
 |.rcc f y e,last,A,B_,x,ws,h,hc,rm,q=>Zh0 H n (.rcc f y e) e last rm rfl (by simp [bnd]) rfl (by simp [comp,bnd]) (λA' B' x' aH h' hs rm' q'=>ZfL H n e Wr A' B' x' aH h' (by rw [hs];exact hc.1) rm' q') q
 |.call f a,last,A,B_,x,ws,h,hc,rm,q=>Zfo H n (.call f a) last rm nofun (by rw [Zf];simp [its,It.wt,T.parts];lia) (by simp [its,It.cost,cost];lia) (by cases last<;>simp [comp,Zg1,its,It.comp,It.cnt,Rw.up])
     ⟨λA' B' x' aH h' hs rm' q'=>ZfL H n f Ws A' B' x' aH h' (by rw [hs];exact hc.1) rm' q',λA' B' x' aH h' hs rm' q'=>ZfL H n a Ws A' B' x' aH h' (by rw [hs];exact hc.2) rm' q',trivial⟩ q
 |.op wd f a,last,A,B_,x,ws,h,hc,rm,q=>Zfo H n (.op wd f a) last rm nofun (by rw [Zf];simp [its,It.wt,T.parts];lia) (by simp [its,It.cost,cost];lia) (by simp [comp,Zg1,its,It.comp,It.cnt,Rw.up])
     ⟨λA' B' x' aH h' hs rm' q'=>ZfL H n f Ws A' B' x' aH h' (by rw [hs];exact hc.1) rm' q',λA' B' x' aH h' hs rm' q'=>ZfL H n a Ws A' B' x' aH h' (by rw [hs];exact hc.2) rm' q',trivial⟩ q
 |.iff f a b,last,A,B_,x,ws,h,hc,rm,q=>Zfo H n (.iff f a b) last rm nofun (by rw [Zf];simp [its,It.wt,T.parts];lia) (by simp [its,It.cost,cost];lia) (by
       simp only [comp,Zg1,its,It.comp,It.cnt,Rw.up,List.length_nil,Nat.add_zero,Yr,OB,List.cons_append];rw [show ((x.rows.length+cnt f:Nat):Int)+((cnt a:Int)+2)=((x.rows.length+cnt f+1+cnt a+1:Nat):Int) by lia,show ((x.rows.length+cnt f+1+cnt a:Nat):Int)+((cnt b:Int)+1)=((x.rows.length+cnt f+1+cnt a+1+cnt b:Nat):Int) by lia])
     ⟨λA' B' x' aH h' hs rm' q'=>ZfL H n f Ws A' B' x' aH h' (by rw [hs];exact hc.1) rm' q',λA' B' x' aH h' hs rm' q'=>ZfL H n a last A' B' x' aH h' (by rw [hs];exact hc.2.1) rm' q',λA' B' x' aH h' hs rm' q'=>ZfL H n b last A' B' x' aH h' (by rw [hs];exact hc.2.2) rm' q',trivial⟩ q
end
section
variable {P:Pg}{h0 h:Hd}{c us w:Nat}{U A:List Un}{x:Un}{ws:List D}
def Zmm(n fuel:Nat)(q:St h0 h c us w U [])(pr pc:Option D):loop P n c (fuel+1) pr pc h=.ok (.nx,[J (.ref c),pr,pc]) h:=by exact Zgy (Zk (Zho (Zc4 rfl q.qc rfl) q.qw) rfl)
def Zsh(H:Cof P)(n:Nat)(t:T)(ct:Gn.Cl [] t)(hz:t.size<=1000)(hs:x.sc=[])(hr:x.rows=[])(q:St h0 h c us w [x] (Zb0 x.u [.part t Ws,.row .fin])):
 ∃h' y N,run P (n+5) (mnm (O "Coder") (O "do_all")) [.ref c] h=.ok .non h'/\St h0 h' c us w (y::N) []/\(y::N).map Un.rows=((comp t [] Ws 0 1).1++[.fin])::(comp t [] Ws 0 1).2:=by
 rw[Zbh H.n_Coder_do_all H.Coder_do_all (by rfl)];have cl:∀t:T,cost t<=3*t.size:=by
  intro t;induction t with
  |num m=>simp[cost,T.size,T.places]
  |name m=>simp[cost,T.size,T.places]
  |fn y e ih=>rw[Zf];simp[cost,T.parts];lia
  |rcc f y e ih=>rw[Zf];simp[cost,T.parts];lia
  |call f a i1 i2=>rw[Zf];simp[cost,T.parts];lia
  |op wd f a i1 i2=>rw[Zf];simp[cost,T.parts];lia
  |iff a b d i1 i2 i3=>rw[Zf];simp[cost,T.parts];lia
 have hb:=H.big;have kj:=cl t;obtain⟨m,hm⟩:∃m,P.L=(m+1+1)+cost t:=⟨P.L-2-cost t,by lia⟩
 have pe:Zb0 x.u [.part t Ws,.row .fin]=[D.tup [.ref x.u,(It.row .fin).d]]++[.tup [.ref x.u,(It.part t Ws).d]]:=by simp[Zb0]
 rw[pe]at q;obtain⟨R,bu,bw,N,e1,n1,q1⟩:=ZfL H n t Ws [] [] x _ h (by rw[hs];exact ct) ⟨by lia,by rw[hr];simp;lia,by simp;lia,by simp;lia,by rw[hs];simp;lia⟩ q (m+1+1) M M;rw[hs,hr]at n1 q1;simp only[OB,List.length_nil,Os,Nat.zero_add]at n1 q1;obtain⟨h2,cb,ce,e2,q2⟩:=s_row H n (m+1) (A:=[]) (ws:=[]) (by simpa using q1) (by simp only[Zm];have:=Zbj t;lia) bu bw;have e3:=Zmm (P:=P) n m q2 cb ce;refine⟨h2,_,N,?_,q2,?_⟩
 . have e4:loop P n c P.L M M h=.ok (.nx,[J (.ref c),cb,ce]) h2:=by rw[hm,e1,e2,e3]
   exact congrArg Zd ((Za (s:=.whl (.ex (.att [O "Coder"] (.var 0) (O "waiting"))) Zml) (T:=P.tbl (n+4)) e4).trans rfl)
 . rw[Op,n1];simp[Rw.up]
noncomputable def ZO(a:Nat):List (List Rw)->List Nat
 |[]=>[a]
 |r::rs=>a::ZO (a+r.length) rs
noncomputable def nmb(a:Nat)(F:List Nat):Rw->Rw
 |.unl k=>.unl (a+k)
 |.jmp k=>.jmp (a+k)
 |.close k ns=>.close (((F[k.toNat]?).getD 0:Nat):Int) ns
 |r=>r
def flat(F:List Nat)(a:Nat):List (List Rw)->List Rw
 |[]=>[]
 |r::rs=>r.map (nmb a F)++flat F (a+r.length) rs
def Zgc:Sxs:=.o (.drp (.meth .app V1 (.o (.bin .Add (.ix V1 (.neg K1)) (.blt .len (.o (.a "Unit" V2 "rows")))))))
def ZhX{j:Nat}{L:List D}{g:Tg}{body:Ev->Hd->kz (Fl×Ev)}{d:D}{ds:List D}{S:Ev}{h:Hd}(e:h[j]?=J (.lst L)):ZP (J (j,L)) g body (d::ds) S h=match Zbd g d S with
 |none=>.bad
 |some ρ1=>(body ρ1 h).bnd λp h2=>match p with
  |(.nx,ρ2)=>ZP (J (j,L)) g body ds ρ2 h2
  |(.ct,ρ2)=>ZP (J (j,L)) g body ds ρ2 h2
  |(.bk,ρ2)=>.ok (.nx,ρ2) h2
  |(.rt d,ρ2)=>.ok (.rt d,ρ2) h2:=by
 have:Wk.stays (J (j,L)) h=Wr:=by simp[Wk.stays,e]
 rw[ZP,if_pos this];rfl
def ZgV(e:h[j]?=J (.lst L))(b:Zbd g d S=J ρ1)(q:body ρ1 h=.ok (.nx,ρ2) h2):ZP (J (j,L)) g body (d::ds) S h=ZP (J (j,L)) g body ds ρ2 h2:=by rw[ZhX e,b];simp only;rw[q];rfl
def Zi4{U:Tb}(p:ev U e S h=.ok (.ref i) R)(l:R[i]?=J (.lst ys)):evi U (.pl e) S h=.ok ⟨J (i,ys),ys⟩ R:=by rw[ZgY,p,Zr];simp only[ZV,l];rfl
def ZhY{j:Nat}{L:List D}{g:Tg}{body:Ev->Hd->kz (Fl×Ev)}{S:Ev}{h:Hd}(e:h[j]?=J (.lst L)):ZP (J (j,L)) g body [] S h=.ok (.nx,S) h:=by
 have:Wk.stays (J (j,L)) h=Wr:=by simp[Wk.stays,e]
 rw[ZP,if_pos this]
theorem ZhQ{T:Tb}(q:St h0 h c us w U ws){o0:Option D}:∀(V:List Un) (ag:List D) (a:Nat) (un:Option D),(∀y∈V,y∈U)->ag.length+V.length<=100000->∃cH,
 ZP (J (us,U.map λx=>D.ref x.u)) (.nm 2) (xs2 T Zgc) (V.map λx=>D.ref x.u) [o0,J (.ref h.length),un] (h++[.lst (ag++[.int (a:Int)])])
  = .ok (.nx,[o0,J (.ref h.length),cH]) (h++[.lst (ag++(ZO a (V.map Un.rows)).map λ(n:Nat)=>D.int (n:Int))])
 |[],ag,a,un,hV,hz=>⟨un,by rw[Oy,ZhY (keep q.qs)];simp[ZO]⟩
 |y::V,ag,a,un,hV,hz=>by
  obtain⟨cH,e⟩:=ZhQ (T:=T) q (o0:=o0) V (ag++[.int (a:Int)]) (a+y.rows.length) (J (.ref y.u)) (λz hz=>hV z (Oh _ hz)) (by simp at hz ⊢;lia);have hy:=hV y Oi;have k2:(h++[DO.lst (ag++[.int (a:Int)])])[y.r]?=_:=keep (q.qr y hy);have ix:Zau T.GD (.ref h.length) (.int (-1)) (h++[.lst (ag++[.int (a:Int)])])=.ok (.int (a:Int)) (h++[.lst (ag++[.int (a:Int)])]):=by rw[ZG ZaN,IV.ZmW];rfl
  have x:xs2 T Zgc [o0,J (.ref h.length),J (.ref y.u)] (h++[.lst (ag++[.int (a:Int)])])=.ok (.nx,[o0,J (.ref h.length),J (.ref y.u)]) (h++[.lst (ag++[.int (a:Int)]++[.int ((a+y.rows.length:Nat):Int)])]):=(Za (Zad (Zek rfl ZaN (Zb ((Ze ((ZF rfl rfl).trans ix) (ZcC (Zb (Zc4 rfl (keep (q.qu y hy)) rfl) rfl) (Zgd k2))).trans (by rw[Ys];rfl)) rfl) ((Zdc ZaN (by rw[YA];simp at hz ⊢;lia)).trans (by rw[ZjD,Int.natCast_add]))))).trans rfl
  exact⟨cH,(ZgV (keep q.qs) rfl x).trans (e.trans (by rw[Oz];rfl))⟩
def ZlL(H:Cof P)(n:Nat)(q:St h0 h c us w U ws)(hU:U.length<=90000):run P (n+1) (O "first_rows") [.ref us] h=.ok (.ref h.length) (h++[.lst ((ZO 0 (U.map Un.rows)).map λ(n:Nat)=>D.int (n:Int))]):=by rw[Zh H.first_rows (by rfl)];obtain⟨un,e⟩:=ZhQ (T:=P.tbl n) q (o0:=J (.ref us)) U [] 0 M (λy hy=>hy) (by simp;lia);have w:xs2 (P.tbl n) Zdv [J (.ref us),M,M] h=.ok (.rt (.ref h.length),_) _:=(Za (Zo (Zel (xs:=[_]) rfl (show 1<=1000 by decide)))).trans ((Za ((Zfe (Zi4 rfl (keep q.qs))).trans e)).trans (Zc (ZA rfl)));exact congrArg Zd w
end
section
variable {P:Pg}{h0:Hd}{c us w:Nat}{U:List Un}{ws:List D}
def Zb1(m:Nat):Rw->Prop
 |.close k _=>∃i:Nat,k=i/\i<m
 |_=>True
noncomputable def Fd'(F:List Nat):List D:=F.map λ(n:Nat)=>D.int (n:Int)
def Zsd(H:Cof P)(n:Nat)(r:Rw)(a fk:Nat)(F:List Nat)(h:Hd)(hf:h[fk]?=J (.lst (Fd' F)))(hr:Zb1 F.length r):run P (n+1) (O "numbered") [r.d,.int (a:Int),.ref fk] h=.ok (nmb a F r).d h:=by
 rw[Zh H.numbered rfl];have t:=Zlv H n (e:=.var 0) (S:=[J r.d,J (.int (a:Int)),J (.ref fk)]) (h:=h) r rfl;have go:wd r ≠ "unless" -> wd r ≠ "jump" -> Str.ofString (wd r)≠O "close" -> nmb a F r=r->Zd (xs2 (P.tbl n) Zfy [J r.d,J (.int (a:Int)),J (.ref fk)] h)=.ok (nmb a F r).d h:=λw1 w2 w3 e=>by rw[e];obtain⟨ds,ed⟩:=Zrr r;rw[ed]at t ⊢;exact congrArg Zd ((Za ((Zg (Zk t (decide_eq_false λz=>z.elim w1 w2))).trans rfl)).trans ((Za ((Zg (Zk (ZR (ZhT rfl) rfl) (decide_eq_false w3))).trans rfl)).trans (Zc (ZA rfl))))
 cases r with
 |close k ns=>
  obtain⟨i,rfl,hi⟩:=hr;have e:Zau (P.tbl n).GD (.ref fk) (.int (i:Int)) h=.ok (.int ((F[i]'hi:Nat):Int)) h:=by rw[ZG hf,IV.Zas];simp[Fd',hi]
  exact(congrArg Zd ((Za ((Zg (Zk t (decide_eq_false (by simp[wd])))).trans rfl)).trans (Zc ((Zt rfl).trans (Zc (ZA (ZX (xs:=[_,_,_]) (Zb rfl (Zb ((ZF rfl rfl).trans e) rfl)) (show 3<=1000 by decide)))))))).trans (by simp[nmb,Rw.d,hi])
 |unl k=>exact congrArg Zd (Zc ((Zt (Zk t (decide_eq_true (.inl rfl)))).trans (Zc (ZA rfl))))
 |jmp k=>exact congrArg Zd (Zc ((Zt (Zk t (decide_eq_true (.inr rfl)))).trans (Zc (ZA rfl))))
 |_=>exact go (by simp[wd]) (by simp[wd]) (by simp[wd]) rfl
theorem Zpo(H:Cof P)(n:Nat){k a fk:Nat}(e:h[k]?=J (.lst ps))(hf:h[fk]?=J (.lst (Fd' F))):∀(ds:List Rw) (ag:List D),ag.length+ds.length<=100000->(∀r∈ds,Zb1 F.length r) ->
 Zz (J (k,ps)) (.nm 0) (tsto ⟨P.G,P.GD,run P (n+1),P.L⟩ M) (ev ⟨P.G,P.GD,run P (n+1),P.L⟩ (.call (O "numbered") (.cons (.var 0) (.cons (.var 1) (.cons (.var 2) .nil))))) (ds.map Rw.d) [M,J (.int (a:Int)),J (.ref fk)] ag h=.ok (ag++(ds.map (nmb a F)).map Rw.d) h
 |[],ag,hz,hc=>by simp[Zz,Wk.stays,e]
 |d::ds,ag,hz,hc=>by
  have ih:=Zpo H n (a:=a) e hf ds (ag++[(nmb a F d).d]) (by simp at hz ⊢;lia) (λr hr=>hc r (Oh _ hr));have dR:ag.length<16777216:=by simp at hz;lia
  have en:=Zsd H n d a fk F h hf (hc d Oi);rw[Op,ZC];simp[Wk.stays,e,dR,YA,en];simpa using ih
structure Ct(h0 h:Hd)(c us w ck fk:Nat)(U:List Un)(ws:List D)(F:List Nat)(cs:List Rw):Prop where
 q:St h0 h c us w U ws
 f:h[fk]?=J (.lst (Fd' F))
 k:h[ck]?=J (.lst (cs.map Rw.d))
 n1:ck≠us
 n2:ck≠w
 n3:ck≠fk
 n4:∀y∈U,ck≠y.r
 n5:h0.length<=ck
theorem Ct.app(z:Ct h0 h c us w ck fk U ws F cs):Ct h0 (h++g) c us w ck fk U ws F cs:=⟨z.q.app,keep z.f,keep z.k,z.n1,z.n2,z.n3,z.n4,z.n5⟩
theorem Ct.set(z:Ct h0 h c us w ck fk U ws F cs)(ds:List Rw):Ct h0 (h.set ck (.lst (ds.map Rw.d))) c us w ck fk U ws F ds:=by
 have q:=z.q;refine⟨⟨?_,?_,?_,λy hy=>?_,λy hy=>?_,q.nd,q.d1,q.d2,q.d3,q.o1,q.o2,q.o3,by simpa using q.ol,λi hi=>by rw[Oc (by have:=z.n5;lia)];exact q.old i hi⟩,?_,?_,z.n1,z.n2,z.n3,z.n4,z.n5⟩
 . rw[Oc (Zdb q.qc z.k)];exact q.qc
 . rw[Oc z.n1];exact q.qs
 . rw[Oc z.n2];exact q.qw
 . rw[Oc (Zdb (q.qu y hy) z.k)];exact q.qu y hy
 . rw[Oc (z.n4 y hy)];exact q.qr y hy
 . rw[Oc z.n3];exact z.f
 . rw[Ol (ZcG z.k)]
def Zon:Sxs:=.w (.s 5 (.blt .len (.o V3))) (.drp (.meth .ext V3 (.o (.comp [O "row",O "first",O "firsts"] [M,J 5,J 2] (.pl (.a "Unit" V4 "rows")) (.nm 0) M (.f "numbered" (.u V0 V1 V2))))))
theorem Zms(H:Cof P)(n:Nat):∀(V:List Un) (cs:List Rw) (h:Hd) (un fs:Option D),(∀y∈V,y∈U)->(∀y∈V,∀r∈y.rows,Zb1 F.length r)->cs.length+(V.map λy=>y.rows.length).sum<=50000->Ct h0 h c us w ck fk U ws F cs->∃h' cH b7,
 ZP (J (us,U.map λx=>D.ref x.u)) (.nm 4) (xs2 ⟨P.G,P.GD,run P (n+1),P.L⟩ Zon) (V.map λx=>D.ref x.u) [o0,o1,J (.ref fk),J (.ref ck),un,fs] h=.ok (.nx,[o0,o1,J (.ref fk),J (.ref ck),cH,b7]) h'
  /\ Ct h0 h' c us w ck fk U ws F (cs++flat F cs.length (V.map Un.rows))
 |[],cs,h,un,fs,hV,hc,hz,z=>⟨h,un,fs,by rw[Oy,ZhY z.q.qs],by simpa[flat]using z⟩
 |y::V,cs,h,un,fs,hV,hc,hz,z=>by
  have hy:=hV y Oi;simp only[Op,OI]at hz;have ec:=Zpo H n (a:=cs.length) (z.q.qr y hy) z.f y.rows [] (by simp;lia) (hc y Oi);have z1:=(z.app (g:=[.lst ((y.rows.map (nmb cs.length F)).map Rw.d)])).set (cs++y.rows.map (nmb cs.length F));obtain⟨h',cH,b7,e,z2⟩:=Zms H n (o0:=o0) (o1:=o1) V _ _ (J (.ref y.u)) (J (.int (cs.length:Int))) (λr hr=>hV r (Oh _ hr)) (λr hr=>hc r (Oh _ hr)) (by simp;lia) z1;refine⟨h',cH,b7,?_,?_⟩
  . refine(ZgV z.q.qs rfl ?_).trans e;rw[List.map_append];exact(Za (Zo ((ZcC rfl (Zgd z.k)).trans (by rw[Ys])))).trans ((Za (Zad (Zek rfl z.k (Zb (Zfn (Zi4 (Zc4 rfl (z.q.qu y hy) rfl) (z.q.qr y hy)) ec) rfl) (Zps (keep z.k) ZaN (by rw[YA];simp;lia))))).trans rfl)
  . have hl:(cs++y.rows.map (nmb cs.length F)).length=cs.length+y.rows.length:=by simp
    rw[hl]at z2;simpa[flat]using z2
end
set_option tactic.hygienic true
section
variable {P:Pg}
def Zb1.mono(h:m<=k)(c:Zb1 m r):Zb1 k r:=by
 cases r with
 |close a ns=>obtain⟨i,e,q⟩:=c;exact⟨i,e,by lia⟩
 |_=>trivial
theorem ZhA:∀(L:List (List Rw)) (a:Nat),(ZO a L).length=L.length+1
 |[],a=>rfl
 |r::L,a=>by simp[ZO,ZhA L]
def Rows(X:List Rw×List (List Rw))(Q:Rw->Prop):Prop:=(∀r∈X.1,Q r)/\∀u∈X.2,∀r∈u,Q r
def Rows.imp(h:Rows X Q)(f:∀r,Q r->Q' r):Rows X Q':=⟨λr hr=>f r (h.1 r hr),λu hu r hr=>f r (h.2 u hu r hr)⟩
def Zlp(hx:Rows X (Zb1 (k+X.2.length)))(hy:Rows Y (Zb1 (k+X.2.length+Y.2.length)))(h0:∀{m},Zb1 m r0):Rows (X.1++(Y.1++[r0]),X.2++Y.2) (Zb1 (k+(X.2++Y.2).length)):=by
 have bq:=hx.imp (λr hr=>hr.mono (k:=k+(X.2++Y.2).length) (by simp));have bW:=hy.imp (λr hr=>hr.mono (k:=k+(X.2++Y.2).length) (by simp;lia));refine⟨?_,?_⟩
 . intro r hr;simp only[OD,Ox]at hr;rcases hr with hr|hr|rfl
   . exact bq.1 r hr
   . exact bW.1 r hr
   . exact h0
 . intro u hu r hr;rcases OD.mp hu with hu|hu
   . exact bq.2 u hu r hr
   . exact bW.2 u hu r hr
def Zlt(hx:Rows X (Zb1 (k+X.2.length)))(hy:Rows Y (Zb1 (k+X.2.length+Y.2.length)))(hz:Rows Z_ (Zb1 (k+X.2.length+Y.2.length+Z_.2.length))):Rows (X.1++(.unl a::(Y.1++(.jmp b::Z_.1))),X.2++(Y.2++Z_.2)) (Zb1 (k+(X.2++(Y.2++Z_.2)).length)):=by
 have bq:=hx.imp (λr hr=>hr.mono (k:=k+(X.2++(Y.2++Z_.2)).length) (by simp));have bW:=hy.imp (λr hr=>hr.mono (k:=k+(X.2++(Y.2++Z_.2)).length) (by simp;lia));have dU:=hz.imp (λr hr=>hr.mono (k:=k+(X.2++(Y.2++Z_.2)).length) (by simp;lia));refine⟨?_,?_⟩
 . intro r hr;simp only[OD,O2]at hr;rcases hr with hr|rfl|hr|rfl|hr
   . exact bq.1 r hr
   . trivial
   . exact bW.1 r hr
   . trivial
   . exact dU.1 r hr
 . intro u hu r hr;simp only[OD]at hu;rcases hu with hu|hu|hu
   . exact bq.2 u hu r hr
   . exact bW.2 u hu r hr
   . exact dU.2 u hu r hr
theorem Z6:∀(t:T) (sc:List Str) (l:Bool) (p k:Nat),Rows (comp t sc l p k) (Zb1 (k+(comp t sc l p k).2.length))
 |.num _,_,_,_,_=>by simp[comp,Rows,Zb1]
 |.name _,_,_,_,_=>by simp[comp,Rows,Zb1]
 |.fn y e,sc,l,p,k=>by
  have ih:=Z6 e (y::sc) Wr 0 (k+1);have dQ:=ih.imp (λr hr=>hr.mono (k:=k+((comp e (y::sc) Wr 0 (k+1)).2.length+1)) (by lia));refine⟨?_,?_⟩
  . intro r hr;simp[comp]at hr;subst hr;exact⟨k,rfl,by simp[comp]⟩
  . intro u hu r hr;simp only[comp,O2]at hu;rcases hu with rfl|hu
    . rcases OD.mp hr with hr|hr
      . exact dQ.1 r hr
      . simp at hr;subst hr;trivial
    . exact dQ.2 u hu r hr
 |.rcc f y e,sc,l,p,k=>by
  have ih:=Z6 e (y::f::sc) Wr 0 (k+1);have dQ:=ih.imp (λr hr=>hr.mono (k:=k+((comp e (y::f::sc) Wr 0 (k+1)).2.length+1)) (by lia));refine⟨?_,?_⟩
  . intro r hr;simp[comp]at hr;subst hr;exact⟨k,rfl,by simp[comp]⟩
  . intro u hu r hr;simp only[comp,O2]at hu;rcases hu with rfl|hu
    . rcases OD.mp hr with hr|hr
      . exact dQ.1 r hr
      . simp at hr;subst hr;trivial
    . exact dQ.2 u hu r hr
 |.call f a,sc,l,p,k=>Zlp (Z6 f sc Ws p k) (Z6 a sc Ws (p+cnt f) (k+(comp f sc Ws p k).2.length)) (by cases l<;>(intro m;trivial))
 |.op w f a,sc,l,p,k=>Zlp (Z6 f sc Ws p k) (Z6 a sc Ws (p+cnt f) (k+(comp f sc Ws p k).2.length)) trivial
 |.iff c t e,sc,l,p,k=>Zlt (Z6 c sc Ws p k) (Z6 t sc l (p+cnt c+1) (k+(comp c sc Ws p k).2.length))
  (Z6 e sc l (p+cnt c+1+cnt t+1) (k+(comp c sc Ws p k).2.length+(comp t sc l (p+cnt c+1) (k+(comp c sc Ws p k).2.length)).2.length))
def units(t:T):List (List Rw):=((comp t [] Ws 0 1).1++[.fin])::(comp t [] Ws 0 1).2
def code(t:T):List Rw:=flat (ZO 0 (units t)) 0 (units t)
def Zln(t:T):∀u∈units t,∀r∈u,Zb1 (ZO 0 (units t)).length r:=by
 have q:=Z6 t [] Ws 0 1;have q':=q.imp (λr hr=>hr.mono (k:=(ZO 0 (units t)).length) (by rw[ZhA];simp[units];lia));intro u hu r hr;simp only[units,O2]at hu;rcases hu with rfl|hu
 . rcases OD.mp hr with hr|hr
   . exact q'.1 r hr
   . simp at hr;subst hr;trivial
 . exact q'.2 u hu r hr
theorem Zai:∀(t:T) (sc:List Str) (l:Bool) (p k:Nat),(comp t sc l p k).1.length+((comp t sc l p k).2.map List.length).sum<=3*t.size
 |.num _,_,_,_,_=>by simp[comp,T.size,T.places]
 |.name _,_,_,_,_=>by simp[comp,T.size,T.places]
 |.fn y e,sc,l,p,k=>by have:=Zai e (y::sc) Wr 0 (k+1);rw[Zf];simp[comp,T.parts];lia
 |.rcc f y e,sc,l,p,k=>by have:=Zai e (y::f::sc) Wr 0 (k+1);rw[Zf];simp[comp,T.parts];lia
 |.call f a,sc,l,p,k=>by have:=Zai f sc Ws p k;have:=Zai a sc Ws (p+cnt f) (k+(comp f sc Ws p k).2.length);rw[Zf];simp[comp,T.parts];lia
 |.op w f a,sc,l,p,k=>by have:=Zai f sc Ws p k;have:=Zai a sc Ws (p+cnt f) (k+(comp f sc Ws p k).2.length);rw[Zf];simp[comp,T.parts];lia
 |.iff c t e,sc,l,p,k=>by
  have:=Zai c sc Ws p k;have:=Zai t sc l (p+cnt c+1) (k+(comp c sc Ws p k).2.length);have:=Zai e sc l (p+cnt c+1+cnt t+1) (k+(comp c sc Ws p k).2.length+(comp t sc l (p+cnt c+1) (k+(comp c sc Ws p k).2.length)).2.length);rw[Zf];simp[comp,T.parts]
  lia
def Znw(H:Cof P)(n:Nat)(h:Hd):ZhJ (run P (n+1)) (O "Coder") [] h=.ok (.ref h.length) (h++[.ins (O "Coder") [(O "units",.ref (h.length+1)),(O "waiting",.ref (h.length+2))],.lst [],.lst []]):=by unfold ZhJ;rw[Zbh H.n_Coder___init__ H.Coder___init__ (by rfl)];simp[Z0,ZbA,ZL,Zhs,ZkK,YA]
theorem ZlM (H:Cof P) (n:Nat) (t:T) (ct:Gn.Cl [] t) (hz:t.size<=1000) (h:Hd):∃ h' k,run P (n+6) (O "code_of") [t.d] h=.ok (.ref k) h'/\h'[k]?=J (.lst ((code t).map Rw.d))/\h.length<=k/\h.length<=h'.length/\∀ i,i<h.length->h'[i]?=h[i]? := by
 rw [Zh H.code_of (by rfl)];have e0:=Znw H (n+4) h;have q0:St h (h++[.ins (O "Coder") [(O "units",.ref (h.length+1)),(O "waiting",.ref (h.length+2))],.lst [],.lst []]) h.length (h.length+1) (h.length+2) [] [] :=
   ⟨by simp,by simp,by simp,by simp,by simp,by simp,by lia,by simp,by simp,by lia,by lia,by simp,by simp,λi hi=>by rw [Oe hi]⟩
 have c0:=q0.qc;generalize (h++[.ins (O "Coder") [(O "units",.ref (h.length+1)),(O "waiting",.ref (h.length+2))],.lst [],.lst []])=R at *;obtain⟨h2,y,e1,y1,y2,q1⟩:=Zjz H (n+3) q0 t [] Ws (by simp) (by simp);simp only [OB] at q1;have c1:=q1.qc;obtain⟨h3,z,N,e2,q2,er⟩:=Zsh H n t ct hz y1 y2 q1;have c2:=q2.qc;have hl:(z::N).length=(units t).length:=by rw [<-Ys (f:=Un.rows),er];rfl
 have hu:=units_le t [] Ws 0 1;have e3:=ZlL H (n+4) q2 (by rw [hl];simp [units];lia);rw [er] at e3;have q3:Ct h (h3++[.lst (Fd' (ZO 0 (units t)))]++[.lst []]) h.length (h.length+1) (h.length+2) (h3.length+1) h3.length (z::N) [] (ZO 0 (units t)) []:=by
   have l1:=ZcG q2.qs;have l2:=ZcG q2.qw;exact⟨q2.app.app,by simp [Fd'],by simp,by lia,by lia,by lia,λx hx=>by have:=ZcG (q2.qr x hx);lia,by have:=q2.ol;lia⟩
 have k2:(h3++[DO.lst (Fd' (ZO 0 (units t)))]++[.lst []])[h.length+1]?=_:=q3.q.qs;have k3:(h3++[DO.lst (Fd' (ZO 0 (units t)))]++[.lst []])[h.length]?=_:=q3.q.qc;have fM:∀ u∈z::N,u.rows∈units t:=λu hu=>by
   have:u.rows∈(z::N).map Un.rows:=List.mem_map_of_mem hu;rw [er] at this;exact this
 obtain⟨h4,un,fs,e4,q4⟩:=Zms H (n+4) (o0:=J t.d) (o1:=J (.ref h.length)) (z::N) [] _ M M (λy hy=>hy) (λy hy r hr=>Zln t y.rows (fM y hy) r hr) (by
     have:((z::N).map λy=>y.rows.length).sum=((units t).map List.length).sum:=by
       rw [show (λy:Un=>y.rows.length)=List.length ∘ Un.rows from rfl,<-List.map_map,er];rfl
     rw [this];have:=Zai t [] Ws 0 1;simp [units]
     lia) q3
 refine⟨h4,h3.length+1,?_,?_,by have:=q2.ol;lia,q4.q.ol,q4.q.old⟩
 . have x5:∀ S,ev (P.tbl (n+5)) (.lstl .nil) S (h3++[.lst (Fd' (ZO 0 (units t)))])=.ok (.ref (h3.length+1)) (h3++[.lst (Fd' (ZO 0 (units t)))]++[.lst []]):=λS=>(Zel (xs:=[]) rfl (by decide)).trans (by rw [OA];rfl);have x6:xs1 (P.tbl (n+5)) Zec [J t.d,J (.ref h.length),J (.ref h3.length),J (.ref (h3.length+1)),M,M] _=_:=(Zfe (Zi4 (Zc4 rfl k3 rfl) k2)).trans e4;have w:xs2 (P.tbl (n+5)) Zgu [J t.d,M,M,M,M,M] h=.ok (.rt (.ref (h3.length+1)),_) h4:=(Za (Zo (ZsM rfl e0))).trans ((Za (Zad (Zcb rfl c0 rfl rfl e1))).trans ((Za (Zad (Zcb rfl c1 rfl rfl e2))).trans ((Za (Zo (Zw e3 (Zb (Zc4 rfl c2 rfl) rfl)))).trans ((Za (Zo (x5 _))).trans ((Za x6).trans (Zc (ZA rfl)))))));exact congrArg Zd w
 . have:=q4.k;rw [er] at this;simpa [code,units] using this
end
end Ce
namespace K52L
open PySem L2 IV
def ZfV:Sx:=.ret (.ands (.w (.blt .isi (.w V0 (.cst (.ty "int")))) (.nt (.blt .isi (.w V0 (.cst (.ty "bool")))))))
def Zia:Sxs:=.o ZfV
def Zd2:Fd:=fd_ 1 ["_law_found"] Zia
def ZfX:Sx:=.ret (.comp [O "_law_part"] [M] (.pl V0) (.nm 0) (J (.ex (.blt .isi (.w V0 (.cst (.ty "tuple")))))) V0)
def Zib:Sxs:=.o ZfX
def Zd4:Fd:=fd_ 1 ["_law_told"] Zib
def Zdq:Sx:=.s 2 (.lstl .n)
def Zdp:Sx:=.s 3 (.bin .Add V1 K1)
def ZbF:Ix:=.pl (.f "_law_inner" (.o V0))
def Zck:Sx:=.drp (.meth .app V2 (.o (.tupl (.w V4 V3))))
def Zcj:Sx:=.s 3 (.bin .Add V3 (.f "_law_width" (.o V4)))
def ZaT:Sxs:=.w Zck Zcj
def Zhf:Sx:=.forr (.nm 4) ZbF ZaT
def Zhe:Sx:=.ret V2
def Zja:Sxs:=.z Zdq Zdp Zhf Zhe
def Zfk:Fd:=fd_ 2 ["_law_told","_law_place","_law_spots","_law_at","_law_part"] Zja
def ZfB:Sx:=.s 6 (.tupl (.o (.ix V2 K1)))
def Zfu:Tx:=.q (.ix V2 K0) (.Ci_ "rec")
def Zdu:Sx:=.s 6 (.tupl (.w (.ix V2 K2) (.ix V2 K1)))
def Ze6:Sxs:=.o Zdu
def ZfA:Sx:=.iff Zfu Ze6 .n
def Za7:Sx:=.s 7 (.ix (.bin .Add (.sl V0 (J V1) (J (.bin .Add V1 K1))) (.lstl (.o (.tupl (.o (.Ci_ "end")))))) K0)
def Za3:Tx:=.ors (.c (.nq (.blt .len (.o V7)) K3) (.c (.nq (.ix V7 K0) (.Ci_ "close")) (.c (.nt (.ex (.f "_law_whole" (.o (.ix V7 K1))))) (.one (.nq (.ix V7 K2) V6)))))
def Zdt:Sx:=.ret (.neg K1)
def Ze5:Sxs:=.o Zdt
def Zcn:Sx:=.iff Za3 Ze5 .n
def Zaq:Sx:=.put V4 V3 (.tupl (.u (.ix V7 K1) (.ix V2 (.neg K1)) (.bin .Add (.blt .lst (.o V6)) V5)))
def Za6:Sx:=.ret (.bin .Add V1 K1)
def Zhk:Sxs:=.c ZfB (.y ZfA Za7 Zcn Zaq Za6)
def Zdh:Fd:=fd_ 6 ["_law_code","_law_at","_law_told","_law_place","_law_waiting","_law_scope","_law_names_here","_law_row"] Zhk
def ZbY:Sx:=.s 6 (.f "_law_fits" (.c V0 (.y V1 (.ix V2 K0) V3 (.cst (.bl Ws)) V5)))
def Zen:Tx:=.x .Lt V6 K0
def Zc0:Sx:=.ret (.neg K1)
def Zei:Sxs:=.o Zc0
def Zer:Sx:=.iff Zen Zei .n
def ZbX:Sx:=.s 7 (.f "_law_fits" (.c V0 (.y (.bin .Add V6 K1) (.ix V2 K1) V3 V4 V5)))
def Zem:Tx:=.x .Lt V7 K0
def ZcZ:Sx:=.ret (.neg K1)
def Zeh:Sxs:=.o ZcZ
def Zeq:Sx:=.iff Zem Zeh .n
def ZbW:Sx:=.s 8 (.f "_law_fits" (.c V0 (.y (.bin .Add V7 K1) (.ix V2 K2) V3 V4 V5)))
def ZaI:Tx:=.ors (.c (.x .Lt V8 K0) (.c (.nq (.ix V0 V6) (.tupl (.w (.Ci_ "unless") (.bin .Add V7 K1)))) (.one (.nq (.ix V0 V7) (.tupl (.w (.Ci_ "jump") V8))))))
def ZcY:Sx:=.ret (.neg K1)
def Zeg:Sxs:=.o ZcY
def Zep:Sx:=.iff ZaI Zeg .n
def Zeo:Sx:=.ret V8
def ZfY:Sxs:=.c ZbY (.c Zer (.y ZbX Zeq ZbW Zep Zeo))
def ZcN:Fd:=fd_ 6 ["_law_code","_law_at","_law_near_here","_law_scope","_law_last","_law_waiting","_law_test","_law_jump","_law_behind"] ZfY
def Zhj:Sx:=.set (.two 6 7) V2
def Zhc:Tx:=.ors (.c (.q (.ix V6 K0) (.Ci_ "fn")) (.one (.q (.ix V6 K0) (.Ci_ "rec"))))
def Zex:Sx:=.ret (.f "_law_closes" (.c V0 (.y V1 V6 V7 V5 V3)))
def ZgR:Sxs:=.o Zex
def Zhi:Sx:=.iff Zhc ZgR .n
def Zhb:Tx:=.q (.ix V6 K0) (.Ci_ "if")
def Zew:Sx:=.ret (.f "_law_if_fits" (.c V0 (.y V1 (.f "_law_near" (.w V6 V7)) V3 V4 V5)))
def ZgQ:Sxs:=.o Zew
def Zhh:Sx:=.iff Zhb ZgQ .n
def Zhg:Sx:=.s 8 (.tupl (.w (.Ci_ "work") (.ix V6 K0)))
def Zha:Tx:=.q (.ix V6 K0) (.Ci_ "num")
def Zev:Sx:=.s 8 V6
def ZgP:Sxs:=.o Zev
def Zds:Sx:=.iff Zha ZgP .n
def Zg9:Tx:=.q (.ix V6 K0) (.Ci_ "name")
def Zeu:Sx:=.s 8 (.tupl (.w (.Ci_ "fetch") (.lix V3 (.ix V6 K1))))
def ZgO:Sxs:=.o Zeu
def ZbM:Sx:=.iff Zg9 ZgO .n
def Zg8:Tx:=.q (.ix V6 K0) (.Ci_ "call")
def Zet:Sx:=.s 8 (.tupl (.o (.ix (.lstl (.w (.Ci_ "call") (.Ci_ "hop"))) (.blt .int (.o V4)))))
def ZgN:Sxs:=.o Zet
def ZbL:Sx:=.iff Zg8 ZgN .n
def Zde:Ix:=.pl (.f "_law_near" (.w V6 V7))
def Zcm:Sx:=.s 1 (.f "_law_fits" (.c V0 (.y V1 V9 V3 (.cst (.bl Ws)) V5)))
def Zft:Tx:=.x .Lt V1 K0
def Zdr:Sx:=.ret (.neg K1)
def Ze4:Sxs:=.o Zdr
def Zfz:Sx:=.iff Zft Ze4 .n
def Zam:Sxs:=.w Zcm Zfz
def ZJ:Sx:=.forr (.nm 9) Zde Zam
def Zdn:Tx:=.nq (.sl V0 (J V1) (J (.bin .Add V1 K1))) (.lstl (.o V8))
def Zes:Sx:=.ret (.neg K1)
def ZgM:Sxs:=.o Zes
def ZI:Sx:=.iff Zdn ZgM .n
def Zy:Sx:=.ret (.bin .Add V1 K1)
def ZY:Sxs:=.c Zhj (.c Zhi (.c Zhh (.c Zhg (.c Zds (.y ZbM ZbL ZJ ZI Zy)))))
def Zfl:Fd:=fd_ 6 ["_law_code","_law_at","_law_spot","_law_scope","_law_last","_law_waiting","_law_told","_law_place","_law_row","_law_inner_here"] ZY
def ZfR:Tx:=.ex (.blt .isi (.w V1 (.cst (.ty "tuple"))))
def Zby:Tx:=.ors (.c (.nt (.ex (.blt .isi (.w V0 (.cst (.ty "tuple")))))) (.one (.nq (.blt .len (.o V0)) (.blt .len (.o V1)))))
def ZcD:Sx:=.ret (.cst (.bl Ws))
def ZdI:Sxs:=.o ZcD
def ZdS:Sx:=.iff Zby ZdI .n
def Zbz:Sx:=.ret (.blt .all (.o (.comp [O "_law_one",O "_law_other"] [M,M] (.zp V0 V1) (.two 0 1) M (.f "_law_alike" (.w V0 V1)))))
def ZfO:Sxs:=.w ZdS Zbz
def ZfZ:Sx:=.iff ZfR ZfO .n
def ZfQ:Tx:=.ex (.blt .isi (.w V1 (.cst (.ty "str"))))
def ZdR:Sx:=.ret (.ands (.w (.blt .isi (.w V0 (.cst (.ty "str")))) (.cmp .Eq V0 V1)))
def ZfN:Sxs:=.o ZdR
def ZcR:Sx:=.iff ZfQ ZfN .n
def ZcQ:Sx:=.ret (.ands (.w (.f "_law_whole" (.o V0)) (.cmp .Eq V0 V1)))
def Zic:Sxs:=.u ZfZ ZcR ZcQ
def Zd5:Fd:=fd_ 2 ["_law_found","_law_due"] Zic
def Zks:Sx:=.s 1 (.f "_law_program" (.w V0 K0))
def Zkr:Sx:=.s 2 (.f "code_of" (.o V1))
def Zkj:Tx:=.ors (.c (.nt (.ex (.blt .isi (.w V2 (.cst (.ty "list")))))) (.one (.nt (.ex (.blt .all (.o (.comp [O "_law_row"] [M] (.pl V2) (.nm 0) M (.blt .isi (.w V0 (.cst (.ty "tuple")))))))))))
def Zjc:Sx:=.ret (.cst (.bl Ws))
def Zoq:Sxs:=.o Zjc
def Zo2:Sx:=.iff Zkj Zoq .n
def Zkq:Sx:=.s 3 (.blt .lst (.o V2))
def Zkp:Sx:=.s 4 (.dictl .n)
def Zko:Sx:=.s 5 (.f "_law_fits" (.c V2 (.y K0 (.tupl (.w V1 K0)) (.lstl .n) (.cst (.bl Ws)) V4)))
def Zki:Tx:=.ors (.c (.x .Lt V5 K0) (.one (.nq (.sl V2 (J V5) (J (.bin .Add V5 K1))) (.lstl (.o (.tupl (.o (.Ci_ "end"))))))))
def Zjb:Sx:=.ret (.cst (.bl Ws))
def Zop:Sxs:=.o Zjb
def Zo1:Sx:=.iff Zki Zop .n
def Zkn:Sx:=.s 5 (.bin .Add V5 K1)
def Zo0:Sx:=.s 6 K0
def Zfx:Tx:=.x .Lt V6 (.blt .lnd (.o V4))
def ZfF:Sx:=.s 7 (.ix (.blt .sri (.o V4)) V6)
def Zc2:Sx:=.set (.many [8,9,10]) (.ix V4 V7)
def Zfw:Tx:=.nq V8 V5
def Zf1:Sx:=.ret (.cst (.bl Ws))
def ZiS:Sxs:=.o Zf1
def Zje:Sx:=.iff Zfw ZiS .n
def ZfE:Sx:=.s 5 (.f "_law_fits" (.c V2 (.y V5 (.tupl (.w V9 (.bin .Add V7 K1))) V10 (.cst (.bl Wr)) V4)))
def Zfv:Tx:=.ors (.c (.x .Lt V5 K0) (.one (.nq (.sl V2 (J V5) (J (.bin .Add V5 K1))) (.lstl (.o (.tupl (.o (.Ci_ "back"))))))))
def Zf0:Sx:=.ret (.cst (.bl Ws))
def ZiR:Sxs:=.o Zf0
def Zjd:Sx:=.iff Zfv ZiR .n
def ZfD:Sx:=.s 5 (.bin .Add V5 K1)
def ZfC:Sx:=.s 6 (.bin .Add V6 K1)
def ZhP:Sxs:=.c ZfF (.c Zc2 (.y Zje ZfE Zjd ZfD ZfC))
def Zig:Sx:=.whl Zfx ZhP
def Zif:Sx:=.drp (.meth .app V2 (.o (.tupl (.o (.Ci_ "end")))))
def Zie:Sx:=.s 11 (.f "code_of" (.o V1))
def Zid:Sx:=.ret (.ands (.u (.cmp .Eq V5 (.blt .len (.o V3))) (.cmp .Eq V11 V3) (.blt .all (.o (.comp [O "_law_k",O "_law_again",O "_law_kept"] [M,J 11,J 3] (.rng (.blt .len (.o V3))) (.nm 0) M (.f "_law_alike" (.w (.ix V1 V0) (.ix V2 V0))))))))
def Ztj:Sxs:=.c Zks (.c Zkr (.c Zo2 (.c Zkq (.c Zkp (.c Zko (.c Zo1 (.c Zkn (.y Zo0 Zig Zif Zie Zid))))))))
def ZhZ:Fd:=fd_ 1 ["_law_script","_law_told","_law_code","_law_kept","_law_waiting","_law_at","_law_done","_law_place","_law_begin","_law_body","_law_scope","_law_again"] Ztj
structure Lw(P:Pg):Prop where
 m:Gn.Mkr P
 c:Ce.Cof P
 law_whole:P.tb.lookup (O "_law_whole")=J Zd2
 law_inner:P.tb.lookup (O "_law_inner")=J Zd4
 law_near:P.tb.lookup (O "_law_near")=J Zfk
 law_closes:P.tb.lookup (O "_law_closes")=J Zdh
 law_if_fits:P.tb.lookup (O "_law_if_fits")=J ZcN
 law_fits:P.tb.lookup (O "_law_fits")=J Zfl
 law_alike:P.tb.lookup (O "_law_alike")=J Zd5
 law:P.tb.lookup (O "law")=J ZhZ
end K52L
namespace Ce
open PySem L2 IV
set_option tactic.hygienic false
section
noncomputable def off(L:List (List Rw))(i:Nat):Nat:=((L.take i).map List.length).sum
theorem ZjE:∀(L:List (List Rw)) (a i:Nat),i<=L.length->(ZO a L)[i]?=J (a+off L i)
 |[],a,i,h=>by simp at h;subst h;simp[ZO,off]
 |r::L,a,0,h=>by simp[ZO,off]
 |r::L,a,i+1,h=>by
  have:=ZjE L (a+r.length) i (by simpa using h);simp[ZO,this,off]
  lia
theorem Zj0(F:List Nat):∀(L:List (List Rw)) (a i j:Nat) (u:List Rw) (r:Rw),L[i]?=J u->u[j]?=J r->(flat F a L)[off L i+j]?=J (nmb (a+off L i) F r)
 |[],a,i,j,u,r,hi,hj=>by simp at hi
 |v::L,a,0,j,u,r,hi,hj=>by simp at hi;subst hi;have hl:=(Ob.mp hj).1;rw[flat,show off (v::L) 0=0 by simp[off],Nat.zero_add,Oe (by simpa using hl),On,hj];rfl
 |v::L,a,i+1,j,u,r,hi,hj=>by
  have ih:=Zj0 F L (a+v.length) i j u r (by simpa using hi) hj;have e:off (v::L) (i+1)=v.length+off L i:=by simp[off]
  rw[flat,e,Om (by simp;lia)];rw[show v.length+off L i+j-(v.map (nmb a F)).length=off L i+j by simp;lia,ih];congr 2
  lia
def Plc(L:List (List Rw))(i p:Nat)(rs:List Rw):Prop:=∃u,L[i]?=J u/\∀j r,rs[j]?=J r->u[p+j]?=J r
def Uts(L:List (List Rw))(k:Nat)(us:List (List Rw)):Prop:=∀j u,us[j]?=J u->L[k+j]?=J u
variable {L:List (List Rw)}{i p k:Nat}
def Plc.left(h:Plc L i p (a++b)):Plc L i p a:=by obtain⟨u,R,h2⟩:=h;exact⟨u,R,λj r hr=>h2 j r (by rw[Oe (Ob.mp hr).1];exact hr)⟩
def Plc.right(h:Plc L i p (a++b)):Plc L i (p+a.length) b:=by
 obtain⟨u,R,h2⟩:=h;refine⟨u,R,λj r hr=>?_⟩;have:=h2 (a.length+j) r (by rw[Om (by lia)];simpa using hr);rw[<-this];congr 1
 lia
def Plc.head(h:Plc L i p (r::b)):(flat (ZO 0 L) 0 L)[off L i+p]?=J (nmb (off L i) (ZO 0 L) r):=by obtain⟨u,R,h2⟩:=h;have:=Zj0 (ZO 0 L) L 0 i p u r R (by simpa using h2 0 r rfl);simpa using this
def Plc.tail(h:Plc L i p (r::b)):Plc L i (p+1) b:=Plc.right (a:=[r]) h
def Uts.left(h:Uts L k (a++b)):Uts L k a:=λj u hu=>h j u (by rw[Oe (Ob.mp hu).1];exact hu)
def Uts.right(h:Uts L k (a++b)):Uts L (k+a.length) b:=λj u hu=>by
 have:=h (a.length+j) u (by rw[Om (by lia)];simpa using hu);rw[<-this];congr 1
 lia
def Uts.head(h:Uts L k (r::b)):Plc L k 0 r:=⟨r,by simpa using h 0 r rfl,λj x hx=>by simpa using hx⟩
def Uts.len(h:Uts L k (r::b)):k<L.length:=(Ob.mp (show L[k]?=J r by simpa using h 0 r rfl)).1
def Uts.tail(h:Uts L k (r::b)):Uts L (k+1) b:=Uts.right (a:=[r]) h
end
end Ce
namespace K52L
open PySem L2 IV
open Ce (Rw comp cnt off Plc Uts Zm)
open Gn (Cl fw)
section
noncomputable def nu:T->Nat
 |.num _|.name _=>0
 |.fn _ e|.rcc _ _ e=>nu e+1
 |.call f a|.op _ f a=>nu f+nu a
 |.iff c t e=>nu c+nu t+nu e
theorem ZE:∀(t:T) (sc:List Str) (l:Bool) (p k:Nat),(comp t sc l p k).2.length=nu t
 |.num _,_,_,_,_=>rfl
 |.name _,_,_,_,_=>rfl
 |.fn _ e,_,_,_,_=>by simp[comp,ZE e,nu]
 |.rcc _ _ e,_,_,_,_=>by simp[comp,ZE e,nu]
 |.call f a,_,_,_,_=>by simp[comp,ZE f,ZE a,nu]
 |.op _ f a,_,_,_,_=>by simp[comp,ZE f,ZE a,nu]
 |.iff c t e,_,_,_,_=>by simp[comp,ZE c,ZE t,ZE e,nu];lia
theorem ZcF:∀t:T,4*(nu t:Int)=fw t+t.size
 |.num _=>rfl
 |.name _=>rfl
 |.fn _ e=>by have:=ZcF e;simp[nu,fw,T.size,T.places]at *;lia
 |.rcc _ _ e=>by have:=ZcF e;simp[nu,fw,T.size,T.places]at *;lia
 |.call f a=>by have:=ZcF f;have:=ZcF a;simp[nu,fw,T.size,T.places]at *;lia
 |.op _ f a=>by have:=ZcF f;have:=ZcF a;simp[nu,fw,T.size,T.places]at *;lia
 |.iff c t e=>by have:=ZcF c;have:=ZcF t;have:=ZcF e;simp[nu,fw,T.size,T.places]at *;lia
structure Fn where
 q:Nat
 e:T
 sc:List Str
 u:Nat
def fns:T->List Str->Nat->Nat->List Fn
 |.num _,_,_,_=>[]
 |.name _,_,_,_=>[]
 |.fn x e,sc,q,k=>[⟨q,e,x::sc,k⟩]
 |.rcc f x e,sc,q,k=>[⟨q,e,x::f::sc,k⟩]
 |.call f a,sc,q,k=>fns f sc (q+1) k++fns a sc (q+1+f.size) (k+nu f)
 |.op _ f a,sc,q,k=>fns f sc (q+1) k++fns a sc (q+1+f.size) (k+nu f)
 |.iff c t e,sc,q,k=>fns c sc (q+1) k++(fns t sc (q+1+c.size) (k+nu c)++fns e sc (q+1+c.size+t.size) (k+nu c+nu t))
def z2(f a:T):(T.call f a).size=1+f.size+a.size:=by simp[T.size,T.places];lia
def zo(w:Wd)(f a:T):(T.op w f a).size=1+f.size+a.size:=by simp[T.size,T.places];lia
def z3(c t e:T):(T.iff c t e).size=1+c.size+t.size+e.size:=by simp[T.size,T.places];lia
def z1(x:Str)(e:T):(T.fn x e).size=1+e.size:=by simp[T.size,T.places];lia
def zr(f x:Str)(e:T):(T.rcc f x e).size=1+e.size:=by simp[T.size,T.places];lia
def Bh(f g:Fn):Prop:=f.q+1+f.e.size<=g.q
def Wi(a b:Nat)(fs:List Fn):Prop:=fs.Pairwise Bh/\∀f∈fs,a<=f.q/\f.q+1+f.e.size<=b
def Wi.app(x:Wi a m fs)(y:Wi m' b gs)(R:a'<=a)(h2:m<=m')(h3:m<=b)(h4:a'<=m'):Wi a' b (fs++gs):=by
 refine⟨List.pairwise_append.mpr ⟨x.1,y.1,λf hf g hg=>?_⟩,λf hf=>?_⟩
 . have:=(x.2 f hf).2;have:=(y.2 g hg).1;unfold Bh
   lia
 . rcases OD.mp hf with z|z
   . have:=x.2 f z;lia
   . have:=y.2 f z;lia
theorem Wi.one(R:a<=q)(h2:q+1+e.size<=b):Wi a b [⟨q,e,sc,u⟩]:=⟨.cons (by simp) .nil,λf hf=>by
 rw [Ox.mp hf];exact⟨R,h2⟩⟩
theorem Zaw:∀(t:T) (sc:List Str) (q k:Nat),Wi q (q+t.size) (fns t sc q k)
 |.num _,_,_,_=>⟨.nil,nofun⟩
 |.name _,_,_,_=>⟨.nil,nofun⟩
 |.fn x e,sc,q,k=>.one (Oq _) (by rw[z1];lia)
 |.rcc f x e,sc,q,k=>.one (Oq _) (by rw[zr];lia)
 |.call f a,sc,q,k=>(Zaw f sc (q+1) k).app (by rw[z2];have:=Zaw a sc (q+1+f.size) (k+nu f);rw[show q+(1+f.size+a.size)=q+1+f.size+a.size by lia];exact this) (by lia) (Oq _) (by rw[z2];lia) (by lia)
 |.op w f a,sc,q,k=>(Zaw f sc (q+1) k).app (by rw[zo];have:=Zaw a sc (q+1+f.size) (k+nu f);rw[show q+(1+f.size+a.size)=q+1+f.size+a.size by lia];exact this) (by lia) (Oq _) (by rw[zo];lia) (by lia)
 |.iff c t e,sc,q,k=>by have h:=Zaw e sc (q+1+c.size+t.size) (k+nu c+nu t);rw[z3,show q+(1+c.size+t.size+e.size)=q+1+c.size+t.size+e.size by lia];exact(Zaw c sc (q+1) k).app ((Zaw t sc (q+1+c.size) (k+nu c)).app (b:=q+1+c.size+t.size+e.size) h (Oq _) (Oq _) (by lia) (by lia)) (by lia) (Oq _) (by lia) (by lia)
variable {L:List (List Rw)}
def Pn(L:List (List Rw)):Nat->List Fn->Nat->Prop
 |k,[],k'=>k=k'
 |k,f::fs,k'=>f.u=k/\Uts L k (((comp f.e f.sc Wr 0 (k+1)).1++[.back])::(comp f.e f.sc Wr 0 (k+1)).2)/\Cl f.sc f.e/\Pn L (k+1+nu f.e) fs k'
theorem Pn.app:∀{fs:List Fn}{k:Nat},Pn L k fs m->Pn L m gs k'->Pn L k (fs++gs) k'
 |[],_,x,y=>by cases x;exact y
 |_::_,_,x,y=>⟨x.1,x.2.1,x.2.2.1,x.2.2.2.app y⟩
theorem Pn.len:∀{fs:List Fn}{k:Nat},Pn L k fs k'->k+fs.length<=k'
 |[],_,x=>by cases x;exact Oq _
 |_::_,_,x=>by have:=x.2.2.2.len;rw[Os];lia
theorem ZbH:∀(t:T) (sc:List Str) (l:Bool) (p q k:Nat),Cl sc t->Uts L k (comp t sc l p k).2->Pn L k (fns t sc q k) (k+nu t)
 |.num _,_,_,_,_,_,_,_=>rfl
 |.name _,_,_,_,_,_,_,_=>rfl
 |.fn x e,sc,l,p,q,k,c,hu=>⟨rfl,hu,c.1,by show _=_;simp only[nu];lia⟩
 |.rcc f x e,sc,l,p,q,k,c,hu=>⟨rfl,hu,c.1,by show _=_;simp only[nu];lia⟩
 |.call f a,sc,l,p,q,k,c,hu=>by have h2:=hu.right;rw[ZE]at h2;have:=ZbH a sc Ws (p+cnt f) (q+1+f.size) (k+nu f) c.2 h2;rw[show k+nu f+nu a=k+nu (T.call f a) by simp only[nu];lia]at this;exact(ZbH f sc Ws p (q+1) k c.1 hu.left).app this
 |.op w f a,sc,l,p,q,k,c,hu=>by have h2:=hu.right;rw[ZE]at h2;have:=ZbH a sc Ws (p+cnt f) (q+1+f.size) (k+nu f) c.2 h2;rw[show k+nu f+nu a=k+nu (T.op w f a) by simp only[nu];lia]at this;exact(ZbH f sc Ws p (q+1) k c.1 hu.left).app this
 |.iff b t e,sc,l,p,q,k,c,hu=>by have h2:=hu.right.left;have h3:=hu.right.right;rw[ZE]at h2 h3;rw[ZE]at h3;have:=ZbH e sc l _ (q+1+b.size+t.size) (k+nu b+nu t) c.2.2 h3;rw[show k+nu b+nu t+nu e=k+nu (T.iff b t e) by simp only[nu];lia]at this;exact(ZbH b sc Ws p (q+1) k c.1 hu.left).app ((ZbH t sc l _ (q+1+b.size) (k+nu b) c.2.1 h2).app this)
end
end K52L
namespace K52L
open PySem L2 IV
open Ce (Rw)
open Gn (Cl Up Zj dep)
section
variable {P:Pg}{h R:Hd}{C:List Rw}{U:Tb}{S:Ev}
def ZeU(r:Rw):(Rw.d r).pure=Wr/\(Rw.d r).dp<=3:=by
 cases r with
 |close k ns=>
  have:∀ns:List Str,D.pures (ns.map D.str)=Wr/\D.dps (ns.map D.str)<=1:=λns=>by
   induction ns with
   |nil=>exact⟨rfl,by simp[D.dps]⟩
   |cons x r ih=>exact⟨by simp[D.pures,D.pure,ih.1],by simp only[Op,D.dps,D.dp];lia⟩
  have q:=this ns;exact⟨by simp[Rw.d,D.pure,D.pures,q.1],by simp only[Rw.d,D.dp,D.dps];lia⟩
 |_=>exact⟨by simp[Rw.d,D.pure,D.pures],by simp[Rw.d,D.dp,D.dps]⟩
theorem ZdC:∀rs:List Rw,D.pures (rs.map Rw.d)=Wr/\D.dps (rs.map Rw.d)<=3
 |[]=>⟨rfl,by simp[D.dps]⟩
 |r::rs=>by have a:=ZeU r;have b:=ZdC rs;exact⟨by simp[D.pures,a.1,b.1],by simp only[Op,D.dps];lia⟩
def eqL(hp:D.pures xs=Wr)(hd:D.dps xs<=1000)(p:h[i]?=J (.lst xs))(q:h[j]?=J (.lst xs)):IV.Zbu n (.ref i) (.ref j) h=.ok (.bl (!n)) h:=by
 obtain⟨ps,e1,e2,e3⟩:=pys_same (rd:=Zee h 3) xs hp;have g:∀{i:Nat},h[i]?=J (.lst xs)->ZfK h (.ref i)=J (.list ps):=λ{i} e=>by show Zee h 4 i=_;rw[Zee,e];simp only[e1,Yt]
 unfold IV.Zbu;rw[g p,g q];simp only;rw[if_pos (by simp only[PyData.depth];lia),show YO (.list ps) (.list ps)=Wr by simp[YO,e3]];cases n<;>rfl
def Zup{xs:List D}{p:Nat}(e:xs[p]?=J x):cutD xs (J (p:Int)) (J ((p:Int)+1))=[x]:=by
 have lt:=(Ob.mp e).1;have e1:HT.sIx xs.length 0 (J (p:Int))=p:=by simp[HT.sIx];lia
 have e2:HT.sIx xs.length xs.length (J ((p:Int)+1))=p+1:=by simp[HT.sIx];lia
 unfold cutD;rw[e1,e2,List.drop_eq_getElem_cons lt,show p+1-p=1 by lia,List.take_succ_cons,List.take_zero];rw[Og lt]at e;rw[YE e]
def Zsa{p:Nat}{r:Rw}(hk:h[k]?=J (.lst (C.map Rw.d)))(hc:C[p]?=J r)(pa:ev U a S h=.ok (.ref k) h)(pl:ev U lo S h=.ok (.int (p:Int)) h):ev U (.sl a (J lo) (J (.bin .Add lo (.ci 1)))) S h=.ok (.ref h.length) (h++[.lst [r.d]]):=by have e2:ev U (.bin .Add lo (.ci 1)) S h=.ok (.int ((p:Int)+1)) h:=(Ze pl rfl).trans ZZ;have c:=Zup (xs:=C.map Rw.d) (p:=p) (x:=r.d) (by rw[On,hc];rfl);rw[Zpt,pa,Zr];show kz.bnd ((ev U lo S h).bind _) _=_;rw[pl];show kz.bnd ((ev U (.bin .Add lo (.ci 1)) S h).bind _) _=_;rw[e2];show ZfM (.ref k) (J (p:Int)) (J ((p:Int)+1)) h=_;simp only[ZfM,lstOf,hk,c,ZaS]
def ZiJ{p:Nat}{r:Rw}(hk:h[k]?=J (.lst (C.map Rw.d)))(hc:C[p]?=J r)(pa:ev U a S h=.ok (.ref k) h)(pl:ev U lo S h=.ok (.int (p:Int)) h)(pe:ev U e S (h++[.lst [r.d]])=.ok r.d (h++[.lst [r.d]])):
 tst U (.ex (.cmp .NotEq (.sl a (J lo) (J (.bin .Add lo (.ci 1)))) (.lstl (.cons e .nil)))) S h=.ok Ws (h++[.lst [r.d]]++[.lst [r.d]]):=by
 have q:=ZdC [r];refine ZaH ((Zv (Zsa hk hc pa pl) (Zel (Zb pe rfl) (by simp))).trans ?_);exact(ZcT (GD:=U.GD)).trans (eqL (n:=true) (xs:=[r.d]) q.1 (OE q.2 (by decide)) (by simp) (by simp))
def Zjw(H:Lw P)(n:Nat)(z:Int):run P (n+1) (O "_law_whole") [.int z] h=.ok (.bl Wr) h:=by rw[Zh H.law_whole (by rfl)];exact rfl
abbrev Old(h h':Hd):Prop:=h.length<=h'.length/\∀m,m<h.length->h'[m]?=h[m]?
def Old.at{h h':Hd}{o:DO}{m:Nat}(x:Old h h')(e:h[m]?=J o):h'[m]?=J o:=(x.2 m (Zj e)).trans e
def Old.app(g:Hd):Old h (h++g):=⟨by simp,λm a=>Oe a⟩
def Old.up{h h':Hd}(x:Old h h'):Up w h h':=⟨x.1,λm a _=>x.2 m a⟩
theorem Zkb:∀(ts:List T) (ag:List D),ag.length+ts.length<=100->Zz M (.nm 0) (tsto U (J Gn.isT)) (ev U (.var 0)) (ts.map T.d) [M] ag h=.ok (ag++ts.map T.d) h
 |[],ag,_=>by rw[Oy,Yr];rfl
 |t::ts,ag,hz=>by have hl:ag.length<sizeLine:=Ot (show ag.length<101 by simp only[Os]at hz;lia) (by decide);have it:tst U Gn.isT [J t.d] h=.ok Wr h:=ZaH (b:=true) ((ZcC (Zb rfl (Zb rfl rfl)) (by rw[Gn.Zi7];exact Gn.ZjW)));rw[Op,ZC,if_pos ⟨rfl,hl⟩];show kz.bnd (kz.plain (tst U Gn.isT [J t.d] h)) _=_;rw[it];show Zz M (.nm 0) (tsto U (J Gn.isT)) (ev U (.var 0)) (ts.map T.d) [M] (ag++[t.d]) h=_;rw[Zkb ts (ag++[t.d]) (by simp only[OA,Os,List.length_nil]at *;lia),Oz];rfl
def ZhE(t:T):t.parts.length<=3:=by cases t<;>simp[T.parts]
def Znv(H:Lw P)(n:Nat)(t:T):run P (n+1) (O "_law_inner") [t.d] h=.ok (.ref h.length) (h++[.lst (t.parts.map T.d)]):=by
 rw[Zh H.law_inner (by rfl)];have hp:=ZhE t;have e:Zz M (.nm 0) (tsto (P.tbl n) (J Gn.isT)) (ev (P.tbl n) (.var 0)) (Gn.Zgh t++t.parts.map T.d) [M] [] h=.ok (t.parts.map T.d) h:=by rw[Gn.ZcW _ (Gn.Zfd t) (by rw[YA];simp),Zkb t.parts [] (by simp;lia)];rfl
 exact congrArg Zd (Zc (ZA (Zfn (Zrc (xs:=Gn.Zgh t++t.parts.map T.d) (by rw[<-Gn.Zi7];rfl)) e)))
def Zah:List T->Nat->List D
 |[],_=>[]
 |t::ts,q=>.tup [t.d,.int (q:Int)]::Zah ts (q+t.size)
noncomputable def vn(td:D)(q:Nat)(s:Nat)(aB:Nat)(o:Option D):Ev:=[J td,J (.int (q:Int)),J (.ref s),J (.int (aB:Int)),o]
theorem Zmr(H:Lw P)(n:Nat){ki s:Nat}{L:List D}{td:D}{q:Nat}(ne:ki≠s):∀(ts:List T) (aB:Nat) (ag:List D) (o:Option D) (h:Hd),(∀t∈ts,dep t<n)->ag.length+ts.length<=100->h[ki]?=J (.lst L)->h[s]?=J (.lst ag) ->
 ∃h' a o',ZP (J (ki,L)) (.nm 4) (xs2 (P.tbl n) ZaT) (ts.map T.d) (vn td q s aB o) h=.ok (.nx,vn td q s a o') h'/\Up s h h'/\h'[s]?=J (.lst (ag++Zah ts aB))
 |[],aB,ag,o,h,_,_,hi,hs=>⟨h,aB,o,by rw[Oy];unfold ZP;rw[Wk.stays,decide_eq_true hi];rfl,Up.refl,by rw[Zah,Yr];exact hs⟩
 |t::ts,aB,ag,o,h,hd,hz,hi,hs=>by
  have hl:ag.length<sizeLine:=Ot (show ag.length<101 by simp only[Os]at hz;lia) (by decide);have u1:Up s h (h.set s (.lst (ag++[.tup [t.d,.int (aB:Int)]]))):=Up.set;have x1:xs1 (P.tbl n) Zck (vn td q s aB (J t.d)) h=.ok (.nx,vn td q s aB (J t.d)) (h.set s (.lst (ag++[.tup [t.d,.int (aB:Int)]]))):=by refine Zad (d:=.non) (Zek (i:=s) (ys:=ag) (xs:=[.tup [t.d,.int (aB:Int)]]) rfl hs (Zb (ZX (Zb rfl (Zb rfl rfl)) (by simp)) rfl) ?_);simp[ZaP,Zef,Zmk,hs,hl]
  have s1:(h.set s (.lst (ag++[.tup [t.d,.int (aB:Int)]])))[s]?=J (.lst (ag++[.tup [t.d,.int (aB:Int)]])):=by rw[Ol (Zj hs)]
  generalize h.set s (.lst (ag++[.tup [t.d,.int (aB:Int)]]))=R at *;obtain⟨g,e2⟩:=Gn.ZeJ H.m n t R (hd t Oi);have x2:xs1 (P.tbl n) Zcj (vn td q s aB (J t.d)) R=.ok (.nx,vn td q s (aB+t.size) (J t.d)) (R++g):=Zo ((Ze (x:=.int (aB:Int)) rfl (Zw e2 rfl)).trans ZZ);have u2:=u1.trans (Up.app (i:=s) (g:=g));obtain⟨h',a,o',e,u,z⟩:=Zmr H n ne ts (aB+t.size) (ag++[.tup [t.d,.int (aB:Int)]]) (J t.d) (R++g) (λt ht=>hd t (Oh _ ht)) (by simp only[OA,Os,List.length_nil]at *;lia) (u2.at hi ne) (by rw[Oe (Zj s1)];exact s1);refine⟨h',a,o',?_,u2.trans u,by rw[z,Zah,Oz];rfl⟩;rw[Op,Ce.ZhX hi];show kz.bnd (xs2 (P.tbl n) ZaT (vn td q s aB (J t.d)) h) _=_;rw[show xs2 (P.tbl n) ZaT (vn td q s aB (J t.d)) h=.ok (.nx,vn td q s (aB+t.size) (J t.d)) (R++g)from(Za x1).trans ((Za x2).trans rfl)];exact e
def ZlK(H:Lw P)(n:Nat)(t:T)(q:Nat)(hn:dep t<=n):∃h' j,run P (n+2) (O "_law_near") [t.d,.int (q:Int)] h=.ok (.ref j) h'/\Old h h'/\h'[j]?=J (.lst (Zah t.parts (q+1))):=by
 rw[Zh H.law_near (by rfl)];have e1:=Znv H n t (h:=h++[.lst []]);obtain⟨h',a,o',e,u,z⟩:=Zmr H (n+1) (ki:=(h++[DO.lst []]).length) (s:=h.length) (L:=t.parts.map T.d) (td:=t.d) (q:=q) (by simp) t.parts (q+1) [] M (h++[.lst []]++[.lst (t.parts.map T.d)]) (λs hs=>by have:=Gn.Zcd hs;lia) (by have:=ZhE t;simp;lia) (by simp) (by simp);refine⟨h',h.length,?_,⟨?_,λm hm=>?_⟩,by simpa using z⟩
 . have x1:xs1 (P.tbl (n+1)) Zdq [J t.d,J (.int (q:Int)),M,M,M] h=.ok (.nx,[J t.d,J (.int (q:Int)),J (.ref h.length),M,M]) (h++[.lst []]):=Zo (Zel rfl (by simp));have x2:xs1 (P.tbl (n+1)) Zdp [J t.d,J (.int (q:Int)),J (.ref h.length),M,M] (h++[.lst []])=.ok (.nx,vn t.d q h.length (q+1) M) (h++[.lst []]):=Zo ((Ze (x:=.int (q:Int)) rfl rfl).trans ZZ);have ei:evi (P.tbl (n+1)) ZbF (vn t.d q h.length (q+1) M) (h++[.lst []])=.ok ⟨J ((h++[DO.lst []]).length,t.parts.map T.d),t.parts.map T.d⟩ (h++[.lst []]++[.lst (t.parts.map T.d)]):=by rw[ZbF,ZgY,Zw e1 rfl,Zr];simp[ZV]
   exact congrArg Zd ((Za x1).trans ((Za x2).trans ((Za ((Zfe ei).trans e)).trans (Zc rfl))))
 . have:=u.1;simp at this;lia
 . rw[u.2 m (by simp;lia) (by lia)];simp[Oe hm,Oz]
end
end K52L
namespace Ce
open PySem L2 IV
set_option tactic.hygienic false
section
variable {h:Hd}{C:List Rw}
def ZbB{GD:Str->Option (List (Key×D))}{k p:Nat}{r:Rw}(hk:h[k]?=J (.lst (C.map Rw.d)))(hc:C[p]?=J r):Zau GD (.ref k) (.int (p:Int)) h=.ok r.d h:=by rw[ZG hk,IV.Zas,On,hc];rfl
end
set_option tactic.hygienic true
section
variable {L:List (List Rw)}{i p k:Nat}
def Zbw{ns:List Str}{r:List Rw}{us:List (List Rw)}(hp:Plc L i p [.close k ns])(hu:Uts L k (r::us)):(flat (ZO 0 L) 0 L)[off L i+p]?=J (.close ((off L k:Nat):Int) ns):=by
 have e:nmb (off L i) (ZO 0 L) (.close k ns)=.close ((off L k:Nat):Int) ns:=by have:=ZjE L 0 k (Nat.le_of_lt hu.len);simp[nmb,this]
 rw[<-e];exact hp.head
def Zrs{m:Nat}{rs:List Rw}{us:List (List Rw)}(hu:Uts L k ((rs++[.back])::us))(hm:rs.length=m):(flat (ZO 0 L) 0 L)[off L k+(0+m)]?=J .back:=by have:=hu.head.right.head;rw[hm]at this;exact this
end
end Ce
namespace K52L
open PySem L2 IV
open Ce (Rw comp cnt off Plc Uts Zm flat ZO nmb ZbB)
open Gn (Cl Up Zj dep)
section
variable {P:Pg}{h R h2:Hd}{L:List (List Rw)}{ck wk sk:Nat}{sc:List Str}{kvs es:List (Key×D)}
inductive En(L:List (List Rw))(h:Hd)(w:Nat):List (Key×D)->List Fn->Prop
 |nil:En L h w [] []
 |cons {f:Fn}{s:Nat}{es:List (Key×D)}{fs:List Fn} (hs:h[s]?=J (.lst (f.sc.map .str))) (ne:s≠w) (r:En L h w es fs):En L h w ((.inl (f.q:Int),.tup [.int (off L f.u:Int),f.e.d,.ref s])::es) (f::fs)
def En.up(x:En L h w es fs)(u:Up w h h'):En L h' w es fs:=by
 induction x with
 |nil=>exact .nil
 |cons hs ne r ih=>exact .cons (u.at hs ne) ne ih
def En.app(x:En L h w es fs)(y:En L h w eL gs):En L h w (es++eL) (fs++gs):=by
 induction x with
 |nil=>exact y
 |cons hs ne r ih=>exact .cons hs ne ih
def En.keys(x:En L h w es fs):es.map (·.1)=fs.map λf=>.inl (f.q:Int):=by
 induction x with
 |nil=>rfl
 |cons hs ne r ih=>rw[Op,Op,ih]
def Fr(kvs:List (Key×D))(a b:Nat):Prop:=∀p∈kvs,∀x:Nat,a<=x->x<b->p.1≠.inl (x:Int)
def Fr.sub(x:Fr kvs a b)(R:a<=a')(h2:b'<=b):Fr kvs a' b':=λp hp y c d=>x p hp y (by lia) (by lia)
def Fr.more(x:Fr kvs a b)(y:En L h w es fs)(z:Wi m m' fs)(R:m'<=a):Fr (kvs++es) a b:=λp hp v c d=>by
 rcases OD.mp hp with q|q
 . exact x p q v c d
 . have:p.1∈es.map (·.1):=List.mem_map_of_mem q;rw[y.keys]at this;obtain⟨f,hf,e⟩:=List.mem_map.mp this;have:=z.2 f hf;rw[<-e];intro e2;injection e2 with e2
   lia
structure Cn(L:List (List Rw))(ck wk sk:Nat)(sc:List Str)(h:Hd)(kvs:List (Key×D)):Prop where
 hk:h[ck]?=J (.lst ((flat (ZO 0 L) 0 L).map Rw.d))
 hs:h[sk]?=J (.lst (sc.map .str))
 hw:h[wk]?=J (.dic kvs)
 n1:ck≠wk
 n2:sk≠wk
def Cn.up(c:Cn L ck wk sk sc h kvs)(u:Up wk h h')(e:h'[wk]?=J (.dic ai)):Cn L ck wk sk sc h' ai:=⟨u.at c.hk c.n1,u.at c.hs c.n2,e,c.n1,c.n2⟩
def Cn.old(c:Cn L ck wk sk sc h kvs)(o:Old h h'):Cn L ck wk sk sc h' kvs:=⟨o.at c.hk,o.at c.hs,o.at c.hw,c.n1,c.n2⟩
inductive Ft(L:List (List Rw))(wk:Nat)(h:Hd)(kvs:List (Key×D))(a:Nat)(fs:List Fn)(r:kz D):Prop
 |mk (h':Hd) (es:List (Key×D)) (e:r=.ok (.int (a:Int)) h') (u:Up wk h h') (w:h'[wk]?=J (.dic (kvs++es))) (n:En L h' wk es fs)
def ZnB(e:h[wk]?=J (.dic kvs))(hz:kvs.length<=1000)(f:Fr kvs q (q+1))(v:D):Zak (.ref wk) (.int (q:Int)) v h=.ok () (h.set wk (.dic (kvs++[(.inl (q:Int),v)]))):=by
 have hl:kvs.length<sizeLine:=Nat.lt_of_le_of_lt hz (by decide);have na:(kvs.any λkv=>Wt (kv.1=YD (q:Int)))=Ws:=by rw[List.any_eq_false];intro p hp;simpa using f p hp q (Oq _) (OH _)
 simp only[Zak,e,keyOf,hl,if_true,putD,na];rfl
def vc(ck a:Nat)(td:D)(q wk sk:Nat)(nm row:Option D):Ev:=[J (.ref ck),J (.int (a:Int)),J td,J (.int (q:Int)),J (.ref wk),J (.ref sk),nm,row]
def Zd8(H:Lw P)(n:Nat)(c:Cn L ck wk sk sc h kvs){a b q:Nat}{ns:List Str}{td ed:D}(hc:(flat (ZO 0 L) 0 L)[a]?=J (.close (b:Int) ns))(ht:∀h,Zau P.GD td (.int (-1)) h=.ok ed h)(hz:kvs.length<=1000)(hn:ns.length+sc.length<=1000)(f:Fr kvs q (q+1)):
 ∃h' s,Zd (xs2 (P.tbl (n+1)) (.cons Za7 (.cons Zcn (.cons Zaq (.cons Za6 .nil)))) (vc ck a td q wk sk (J (.tup (ns.map .str))) M) h)=.ok (.int ((a+1:Nat):Int)) h'/\Up wk h h'/\h'[wk]?=J (.dic (kvs++[(.inl (q:Int),.tup [.int (b:Int),ed,.ref s])]))/\h'[s]?=J (.lst ((ns++sc).map .str))/\s≠wk:=by
 have z0:=YA;let h3:Hd:=h++[DO.lst [(Rw.close (b:Int) ns).d],.lst [Rw.fin.d],.lst [(Rw.close (b:Int) ns).d,Rw.fin.d]];have x3:xs1 (P.tbl (n+1)) Za7 (vc ck a td q wk sk (J (.tup (ns.map .str))) M) h=.ok (.nx,vc ck a td q wk sk (J (.tup (ns.map .str))) (J (Rw.close (b:Int) ns).d)) h3:=by
  have e1:ev (P.tbl (n+1)) (.lstl (.cons (.tupl (.cons (.Ci_ "end") .nil)) .nil)) (vc ck a td q wk sk (J (.tup (ns.map .str))) M) (h++[.lst [(Rw.close (b:Int) ns).d]])=.ok (.ref (h.length+1)) (h++[.lst [(Rw.close (b:Int) ns).d],.lst [Rw.fin.d]]):=(Zel (Zb (ZX (Zb rfl rfl) (by simp)) rfl) (by simp)).trans (by simp[Rw.d]);have e2:opB .Add (.ref h.length) (.ref (h.length+1)) (h++[.lst [(Rw.close (b:Int) ns).d],.lst [Rw.fin.d]])=.ok (.ref (h.length+2)) h3:=by simp[opB,Zlc,YA,ZaS,h3]
  have e3:ev (P.tbl (n+1)) (.bin .Add (.sl (.var 0) (J (.var 1)) (J (.bin .Add (.var 1) (.ci 1)))) (.lstl (.cons (.tupl (.cons (.Ci_ "end") .nil)) .nil))) (vc ck a td q wk sk (J (.tup (ns.map .str))) M) h=.ok (.ref (h.length+2)) h3:=(Ze (Zsa c.hk hc rfl rfl) e1).trans e2;exact Zo (i:=7) ((ZF e3 rfl).trans ((ZG (xs:=[(Rw.close (b:Int) ns).d,Rw.fin.d]) (by simp[h3])).trans rfl))
 have c3:=c.old (h':=h3) (Old.app _);have u3:Up wk h h3:=Up.app;generalize h3=h3 at *;have t4:tst (P.tbl (n+1)) Za3 (vc ck a td q wk sk (J (.tup (ns.map .str))) (J (Rw.close (b:Int) ns).d)) h3=.ok Ws h3:=by
  have q1:tst (P.tbl (n+1)) (.ex (.cmp .NotEq (.blt .len (.cons (.var 7) .nil)) (.ci 3))) (vc ck a td q wk sk (J (.tup (ns.map .str))) (J (Rw.close (b:Int) ns).d)) h3=.ok Ws h3:=ZaH ((Zv (x:=.int 3) (y:=.int 3) rfl rfl).trans (by rw[ZcT,Zbt,decide_eq_true rfl];rfl));have q2:tst (P.tbl (n+1)) (.ex (.cmp .NotEq (.ix (.var 7) (.ci 0)) (.Ci_ "close"))) (vc ck a td q wk sk (J (.tup (ns.map .str))) (J (Rw.close (b:Int) ns).d)) h3=.ok Ws h3:=ZaH ((Zv (x:=.str (O "close")) (y:=.str (O "close")) rfl rfl).trans (by rw[ZcT,Ze0,decide_eq_true rfl];rfl));have q3:tst (P.tbl (n+1)) (.nt (.ex (.call (O "_law_whole") (.cons (.ix (.var 7) (.ci 1)) .nil)))) (vc ck a td q wk sk (J (.tup (ns.map .str))) (J (Rw.close (b:Int) ns).d)) h3=.ok Ws h3:=by rw[Zit,ZaH (Zw (Zjw H n (b:Int)) (Zb rfl rfl))];rfl
  have q4:tst (P.tbl (n+1)) (.ex (.cmp .NotEq (.ix (.var 7) (.ci 2)) (.var 6))) (vc ck a td q wk sk (J (.tup (ns.map .str))) (J (Rw.close (b:Int) ns).d)) h3=.ok Ws h3:=by have pr:=ZeU (.close (b:Int) ns);simp only[Rw.d,D.pure,D.pures,Bool.true_and,Bool.and_true,D.dp,D.dps]at pr;exact ZaH ((Zv (x:=.tup (ns.map .str)) (y:=.tup (ns.map .str)) rfl rfl).trans ((ZcT (GD:=P.GD)).trans (Zf9 (n:=true) (by simpa[D.pure]using pr.1) (by simp only[D.dp];lia))))
  rw[Za3,Zez,Zaa,q1,Zr];show tstOr _ _ _ h3=_;rw[Zaa,q2,Zr];show tstOr _ _ _ h3=_;rw[Zaa,q3,Zr];exact q4
 have x5:xs1 (P.tbl (n+1)) Zaq (vc ck a td q wk sk (J (.tup (ns.map .str))) (J (Rw.close (b:Int) ns).d)) h3=.ok (.nx,vc ck a td q wk sk (J (.tup (ns.map .str))) (J (Rw.close (b:Int) ns).d)) (List.set (h3++[DO.lst (ns.map .str),.lst ((ns++sc).map .str)]) wk (DO.dic (kvs++[(YD (q:Int),D.tup [.int (b:Int),ed,.ref (h3.length+1)])]))):=by
  have es:ev (P.tbl (n+1)) (.bin .Add (.blt .lst (.cons (.var 6) .nil)) (.var 5)) (vc ck a td q wk sk (J (.tup (ns.map .str))) (J (Rw.close (b:Int) ns).d)) h3=.ok (.ref (h3.length+1)) (h3++[.lst (ns.map .str),.lst ((ns++sc).map .str)]):=by refine(Ze (x:=.ref h3.length) (y:=.ref sk) (R:=h3++[.lst (ns.map .str)]) (h2:=h3++[.lst (ns.map .str)]) (ZcC (Zb rfl rfl) rfl) rfl).trans ?_;have s1:(h3++[DO.lst (ns.map .str)])[sk]?=J (.lst (sc.map .str)):=(Old.app _).at c3.hs;simp only[opB,Zlc,s1,ZaN];rw[if_pos (by simp;lia)];simp[ZaS]
  have et:ev (P.tbl (n+1)) (.tupl (.cons (.ix (.var 7) (.ci 1)) (.cons (.ix (.var 2) (.neg (.ci 1))) (.cons (.bin .Add (.blt .lst (.cons (.var 6) .nil)) (.var 5)) .nil)))) (vc ck a td q wk sk (J (.tup (ns.map .str))) (J (Rw.close (b:Int) ns).d)) h3=.ok (.tup [.int (b:Int),ed,.ref (h3.length+1)]) (h3++[.lst (ns.map .str),.lst ((ns++sc).map .str)]):=ZX (Zb rfl (Zb ((ZF rfl rfl).trans (ht _)) (Zb es rfl))) (by simp);rw[Zaq,Zgw,et,Zr];show kz.bnd (Zak (.ref wk) (.int (q:Int)) (.tup [.int (b:Int),ed,.ref (h3.length+1)]) (h3++[.lst (ns.map .str),.lst ((ns++sc).map .str)])) _=_;rw[ZnB ((Old.app _).at c3.hw) hz f];rfl
 have lw:=Zj c3.hw;have x6:∀h,xs1 (P.tbl (n+1)) Za6 (vc ck a td q wk sk (J (.tup (ns.map .str))) (J (Rw.close (b:Int) ns).d)) h=.ok (.rt (.int ((a+1:Nat):Int)),vc ck a td q wk sk (J (.tup (ns.map .str))) (J (Rw.close (b:Int) ns).d)) h:=λh=>ZA ((Ze (x:=.int (a:Int)) rfl rfl).trans ZZ);refine⟨_,h3.length+1,congrArg Zd ((Za x3).trans ((Za ((Zg t4).trans rfl)).trans ((Za x5).trans (Zc (x6 _))))),u3.trans (Up.app.trans Up.set),?_,?_,by lia⟩
 . rw[Ol (by simp;lia)]
 . rw[Oc (by lia)];simp
end
end K52L
namespace K52L
open PySem L2 IV
open Ce (Rw comp cnt off Plc Uts Zm flat ZO nmb ZbB Zbw)
open Gn (Cl Up Zj dep)
section
variable {P:Pg}{h R h2:Hd}{U:Tb}{S:Ev}{L:List (List Rw)}{ck wk sk:Nat}{sc:List Str}{kvs es:List (Key×D)}
def Ft.close{a q k:Nat}{e:T}{ns:List Str}{r:kz D}(x:∃h' s,r=.ok (.int ((a+1:Nat):Int)) h'/\Up wk h h'/\h'[wk]?=J (.dic (kvs++[(.inl (q:Int),.tup [.int (off L k:Int),e.d,.ref s])]))/\h'[s]?=J (.lst (ns.map .str))/\s≠wk):Ft L wk h kvs (a+1) [⟨q,e,ns,k⟩] r:=by obtain⟨h',s,e1,u,w,hs,ne⟩:=x;exact⟨h',_,e1,u,w,.cons (f:=⟨q,e,ns,k⟩) hs ne .nil⟩
def Zhx(H:Lw P)(n:Nat)(c:Cn L ck wk sk sc h kvs){a q k:Nat}{x:Str}{e:T}(hc:(flat (ZO 0 L) 0 L)[a]?=J (.close (off L k:Int) [x]))(hz:kvs.length<=1000)(hn:sc.length<=900)(f:Fr kvs q (q+1)):
 Ft L wk h kvs (a+1) [⟨q,e,x::sc,k⟩] (run P (n+2) (O "_law_closes") [.ref ck,.int (a:Int),(T.fn x e).d,.int (q:Int),.ref wk,.ref sk] h):=by
 rw[Zh H.law_closes (by rfl)];refine Ft.close ?_;obtain⟨h',s,e1,r⟩:=Zd8 H n c (td:=(T.fn x e).d) (ed:=e.d) hc (λ_=>rfl) hz (by simp;lia) f;exact⟨h',s,(congrArg Zd ((Za rfl).trans (Za ((Zg (Zk (ZR (x:=O "fn") rfl rfl) (by decide))).trans rfl)))).trans e1,r⟩
def ZgD(H:Lw P)(n:Nat)(c:Cn L ck wk sk sc h kvs){a q k:Nat}{g x:Str}{e:T}(hc:(flat (ZO 0 L) 0 L)[a]?=J (.close (off L k:Int) [x,g]))(hz:kvs.length<=1000)(hn:sc.length<=900)(f:Fr kvs q (q+1)):
 Ft L wk h kvs (a+1) [⟨q,e,x::g::sc,k⟩] (run P (n+2) (O "_law_closes") [.ref ck,.int (a:Int),(T.rcc g x e).d,.int (q:Int),.ref wk,.ref sk] h):=by
 rw[Zh H.law_closes (by rfl)];refine Ft.close ?_;obtain⟨h',s,e1,r⟩:=Zd8 H n c (td:=(T.rcc g x e).d) (ed:=e.d) hc (λ_=>rfl) hz (by simp;lia) f;exact⟨h',s,(congrArg Zd ((Za rfl).trans (Za ((Zt (Zk (ZR (x:=O "rec") rfl rfl) (by decide))).trans rfl)))).trans e1,r⟩
noncomputable def vi(ck a j sk:Nat)(l:Bool)(wk:Nat)(t1 t2 t3:Option D):Ev:=[J (.ref ck),J (.int (a:Int)),J (.ref j),J (.ref sk),J (.bl l),J (.ref wk),t1,t2,t3]
def lt0(p:ev U a S h=.ok (.int (m:Nat)) h):tst U (.ex (.cmp .Lt a (.ci 0))) S h=.ok Ws h:=Zk (Zol p rfl) (decide_eq_false (by lia))
def Zpm(hk:h[k]?=J (.lst (List.map Rw.d C))){p:Nat}{r:Rw}(hc:C[p]?=J r)(pa:ev U a S h=.ok (.ref k) h)(pl:ev U lo S h=.ok (.int (p:Int)) h)(pe:ev U e S h=.ok r.d h):tst U (.ex (.cmp .NotEq (.ix a lo) e)) S h=.ok Ws h:=by have q:=ZeU r;exact ZaH ((Zv ((ZF pa pl).trans (ZbB hk hc)) pe).trans ((ZcT (GD:=U.GD)).trans (Zf9 (n:=true) q.1 (OE q.2 (by decide)))))
def Fit(P:Pg)(L:List (List Rw))(ck wk sk:Nat)(sc:List Str)(n:Nat)(t:T)(a a' q:Nat)(l:Bool)(fs:List Fn):Prop:=∀(h:Hd) (kvs:List (Key×D)),Cn L ck wk sk sc h kvs->kvs.length+t.size<=1000->Fr kvs q (q+t.size) ->
 Ft L wk h kvs a' fs (run P n (O "_law_fits") [.ref ck,.int (a:Int),.tup [t.d,.int (q:Int)],.ref sk,.bl l,.ref wk] h)
def En.len(x:En L h w es fs):es.length=fs.length:=by simpa using congrArg List.length x.keys
theorem Zgx:∀{fs:List Fn}{a b:Nat},Wi a b fs->a<=b->fs.length+a<=b
 |[],a,b,_,h=>by simpa using h
 |f::fs,a,b,x,h=>by
  have R:=x.2 f Oi;have h2:Wi (f.q+1+f.e.size) b fs:=by
   cases x.1 with
   |cons p r=>exact⟨r,λg hg=>⟨p g hg,(x.2 g (Oh _ hg)).2⟩⟩
  have:=Zgx h2 R.2;rw[Os]
  lia
def ZtX(H:Lw P)(n:Nat){j a a1 a2 a3 q:Nat}{l:Bool}{c t e:T}(cn:Cn L ck wk sk sc h kvs)(hz:kvs.length+(T.iff c t e).size<=1000)(fr:Fr kvs q (q+(T.iff c t e).size))(hj:h[j]?=J (.lst (Zah [c,t,e] (q+1))))(jw:j≠wk)
 (F1:Fit P L ck wk sk sc n c a a1 (q+1) Ws f1) (F2:Fit P L ck wk sk sc n t (a1+1) a2 (q+1+c.size) l f2) (F3:Fit P L ck wk sk sc n e (a2+1) a3 (q+1+c.size+t.size) l f3)
 (w1:Wi (q+1) (q+1+c.size) f1) (w2:Wi (q+1+c.size) (q+1+c.size+t.size) f2)
 (hu:(flat (ZO 0 L) 0 L)[a1]?=J (.unl ((a2+1:Nat):Int))) (hv:(flat (ZO 0 L) 0 L)[a2]?=J (.jmp (a3:Int))) :
 Ft L wk h kvs a3 (f1++(f2++f3)) (run P (n+1) (O "_law_if_fits") [.ref ck,.int (a:Int),.ref j,.ref sk,.bl l,.ref wk] h):=by
 rw[z3]at hz fr;have l1:=Zgx w1 (by lia);have l2:=Zgx w2 (by lia);rw[Zh H.law_if_fits (by rfl)];cases F1 h kvs cn (by lia) (fr.sub (by lia) (by lia))with
 |mk R es1 e1 u1 k1 n1=>
 have c1:=cn.up u1 k1;cases F2 R _ c1 (by rw[OA,n1.len];lia) ((fr.sub (a':=q+1+c.size) (b':=q+1+c.size+t.size) (by lia) (by lia)).more n1 w1 (Oq _))with
 |mk h2 es2 e2 u2 k2 n2=>
 have c2:=c1.up u2 k2;cases F3 h2 _ c2 (by rw[OA,OA,n1.len,n2.len];lia) (((fr.sub (a':=q+1+c.size+t.size) (b':=q+1+c.size+t.size+e.size) (by lia) (by lia)).more n1 w1 (by lia)).more n2 w2 (Oq _))with
 |mk h3 es3 e3 u3 k3 n3=>
 have c3:=c2.up u3 k3;refine⟨h3,es1++(es2++es3),?_,u1.trans (u2.trans u3),by rw[k3];simp only[Oz],((n1.up u2).up u3).app ((n2.up u3).app n3)⟩;have sp:∀{h':Hd}{i:Nat}{x:D},h'[j]?=J (.lst (Zah [c,t,e] (q+1)))->(Zah [c,t,e] (q+1))[i]?=J x->Zau P.GD (.ref j) (.int (i:Int)) h'=.ok x h':=λe1 e2=>by rw[ZG e1,IV.Zas,e2];rfl
 have x1:xs1 (P.tbl n) ZbY (vi ck a j sk l wk M M M) h=.ok (.nx,vi ck a j sk l wk (J (.int (a1:Int))) M M) R:=Zo (Zw e1 (Zb rfl (Zb rfl (Zb ((ZF rfl rfl).trans (sp (i:=0) hj rfl)) rfl))));have x3:xs1 (P.tbl n) ZbX (vi ck a j sk l wk (J (.int (a1:Int))) M M) R=.ok (.nx,vi ck a j sk l wk (J (.int (a1:Int))) (J (.int (a2:Int))) M) h2:=Zo (Zw e2 (Zb rfl (Zb ((Ze (x:=.int (a1:Int)) rfl rfl).trans ZZ) (Zb ((ZF rfl rfl).trans (sp (i:=1) (u1.at hj jw) rfl)) rfl))));have x5:xs1 (P.tbl n) ZbW (vi ck a j sk l wk (J (.int (a1:Int))) (J (.int (a2:Int))) M) h2=.ok (.nx,vi ck a j sk l wk (J (.int (a1:Int))) (J (.int (a2:Int))) (J (.int (a3:Int)))) h3:=Zo (Zw e3 (Zb rfl (Zb ((Ze (x:=.int (a2:Int)) rfl rfl).trans ZZ) (Zb ((ZF rfl rfl).trans (sp (i:=2) ((u1.trans u2).at hj jw) rfl)) rfl))));have t6:tst (P.tbl n) ZaI (vi ck a j sk l wk (J (.int (a1:Int))) (J (.int (a2:Int))) (J (.int (a3:Int)))) h3=.ok Ws h3:=by have q2:=Zpm (U:=P.tbl n) (S:=vi ck a j sk l wk (J (.int (a1:Int))) (J (.int (a2:Int))) (J (.int (a3:Int)))) (a:=.var 0) (lo:=.var 6) (e:=.tupl (.cons (.Ci_ "unless") (.cons (.bin .Add (.var 7) (.ci 1)) .nil))) c3.hk hu rfl rfl (ZX (Zb rfl (Zb ((Ze (x:=.int (a2:Int)) rfl rfl).trans ZZ) rfl)) (by simp));have q3:=Zpm (U:=P.tbl n) (S:=vi ck a j sk l wk (J (.int (a1:Int))) (J (.int (a2:Int))) (J (.int (a3:Int)))) (a:=.var 0) (lo:=.var 7) (e:=.tupl (.cons (.Ci_ "jump") (.cons (.var 8) .nil))) c3.hk hv rfl rfl (ZX (Zb rfl (Zb rfl rfl)) (by simp));rw[ZaI,Zez,Zaa,lt0 (m:=a3) rfl,Zr];show tstOr _ _ _ h3=_;rw[Zaa,q2,Zr];exact q3
 exact congrArg Zd ((Za x1).trans ((Za ((Zg (lt0 (m:=a1) rfl)).trans rfl)).trans ((Za x3).trans ((Za ((Zg (lt0 (m:=a2) rfl)).trans rfl)).trans ((Za x5).trans ((Za ((Zg t6).trans rfl)).trans (Zc rfl)))))))
def vf(ck a:Nat)(sp:D)(sk:Nat)(l:Bool)(wk:Nat)(td:D)(q:Nat)(row inn:Option D):Ev:=[J (.ref ck),J (.int (a:Int)),J sp,J (.ref sk),J (.bl l),J (.ref wk),J td,J (.int (q:Int)),row,inn]
section
variable {a q:Nat}{l:Bool}{td sp:D}{w0:Str}{ds:List D}
def ZgX(n1:Wt (w0=O "fn")=Ws)(n2:Wt (w0=O "rec")=Ws)(n3:Wt (w0=O "if")=Ws):
 xs2 U ZY [J (.ref ck),J (.int (a:Int)),J (.tup [.tup (.str w0::ds),.int (q:Int)]),J (.ref sk),J (.bl l),J (.ref wk),M,M,M,M] h
  = xs2 U (.cons Zds (.cons ZbM (.cons ZbL (.cons ZJ (.cons ZI (.cons Zy .nil)))))) (vf ck a (.tup [.tup (.str w0::ds),.int (q:Int)]) sk l wk (.tup (.str w0::ds)) q (J (.tup [.str (O "work"),.str w0])) M) h:=by
 have a0:ev U (.ix (.var 6) (.ci 0)) (vf ck a (.tup [.tup (.str w0::ds),.int (q:Int)]) sk l wk (.tup (.str w0::ds)) q M M) h=.ok (.str w0) h:=(ZF (x:=.tup (.str w0::ds)) (y:=.int 0) rfl rfl).trans (by simp[Zau,seqOf]);exact(Za (ρ1:=vf ck a (.tup [.tup (.str w0::ds),.int (q:Int)]) sk l wk (.tup (.str w0::ds)) q M M) (R:=h) rfl).trans ((Za ((Zg (ZeZ (Zk (ZR a0 rfl) n1) (Zk (ZR a0 rfl) n2))).trans rfl)).trans ((Za ((Zg (Zk (ZR a0 rfl) n3)).trans rfl)).trans (Za (Zo (i:=8) (ZX (Zb (x:=.str (O "work")) (R:=h) rfl (Zb a0 rfl)) (by simp))))))
def Zs5(hk:h[ck]?=J (.lst (List.map Rw.d C))){r:Rw}(hc:C[a]?=J r)(inn:Option D):Zd (xs2 U (.cons ZI (.cons Zy .nil)) (vf ck a sp sk l wk td q (J r.d) inn) h)=.ok (.int ((a+1:Nat):Int)) (h++[.lst [r.d]]++[.lst [r.d]]):=by have t9:tst U Zdn (vf ck a sp sk l wk td q (J r.d) inn) h=.ok Ws (h++[.lst [r.d]]++[.lst [r.d]]):=ZiJ (p:=a) hk hc rfl rfl rfl;have cE:∀h,xs1 U Zy (vf ck a sp sk l wk td q (J r.d) inn) h=.ok (.rt (.int ((a+1:Nat):Int)),vf ck a sp sk l wk td q (J r.d) inn) h:=λh=>ZA ((Ze (x:=.int (a:Int)) rfl rfl).trans ZZ);exact congrArg Zd ((Za ((Zg t9).trans rfl)).trans (Zc (cE _)))
def ZoA(H:Lw P)(n:Nat)(t:T)(hd:dep t+2<=n)(cn:Cn L ck wk sk sc h kvs){row:Option D}{a':Nat}{fs:List Fn}
 (go:∀(j:Nat) (R:Hd),Cn L ck wk sk sc R kvs->R[j]?=J (.lst (Zah t.parts (q+1)))->j≠wk->∃h' es inn,ZP (J (j,Zah t.parts (q+1))) (.nm 9) (xs2 (P.tbl n) Zam) (Zah t.parts (q+1)) (vf ck a sp sk l wk t.d q row M) R=.ok (.nx,vf ck a' sp sk l wk t.d q row inn) h'/\Up wk R h'/\h'[wk]?=J (.dic (kvs++es))/\En L h' wk es fs) :
 ∃h' es inn,xs1 (P.tbl n) ZJ (vf ck a sp sk l wk t.d q row M) h=.ok (.nx,vf ck a' sp sk l wk t.d q row inn) h'/\Up wk h h'/\h'[wk]?=J (.dic (kvs++es))/\En L h' wk es fs:=by
 obtain⟨n,rfl⟩:∃m,n=m+2:=⟨n-2,by lia⟩
 obtain⟨R,j,e1,o,hj⟩:=ZlK H n t q (by lia) (h:=h);have jw:j≠wk:=λz=>by have:=o.at cn.hw;rw[<-z,hj]at this;cases this
 obtain⟨h',es,inn,e,u,w,en⟩:=go j R (cn.old o) hj jw;refine⟨h',es,inn,(Zfe (w:=⟨J (j,Zah t.parts (q+1)),Zah t.parts (q+1)⟩) ?_).trans e,o.up.trans u,w,en⟩;rw[Zde,ZgY,Zw e1 rfl,Zr];simp[ZV,hj]
def Ft.from{a:Nat}{fs:List Fn}(x:Ft L wk R kvs a fs r')(u:Up wk h R)(e:r=r'):Ft L wk h kvs a fs r:=by
 subst e;cases x with
 |mk h' es e u1 w n=>exact⟨h',es,e,u.trans u1,w,n⟩
def Zi2(hj:h[j]?=J (.lst L')):ZP (J (j,L')) (.nm 9) (xs2 U b) [] S h=.ok (.nx,S) h:=by unfold ZP;rw[Wk.stays,decide_eq_true hj];rfl
def Zpr(n:Nat){row:Option D}{f g:T}{a1 a2:Nat}(cn:Cn L ck wk sk sc h kvs)(hz:kvs.length+f.size+g.size+1<=1000)(fr:Fr kvs q (q+1+f.size+g.size))(hj:h[j]?=J (.lst (Zah [f,g] (q+1))))(jw:j≠wk)
 (F1:Fit P L ck wk sk sc n f a a1 (q+1) Ws f1) (F2:Fit P L ck wk sk sc n g a1 a2 (q+1+f.size) Ws f2) (w1:Wi (q+1) (q+1+f.size) f1) :
 ∃h' es inn,ZP (J (j,Zah [f,g] (q+1))) (.nm 9) (xs2 (P.tbl n) Zam) (Zah [f,g] (q+1)) (vf ck a sp sk l wk td q row M) h=.ok (.nx,vf ck a2 sp sk l wk td q row inn) h'/\Up wk h h'/\h'[wk]?=J (.dic (kvs++es))/\En L h' wk es (f1++f2):=by
 have l1:=Zgx w1 (by lia);cases F1 h kvs cn (by lia) (fr.sub (by lia) (by lia))with
 |mk R es1 e1 u1 k1 n1=>
 have c1:=cn.up u1 k1;cases F2 R _ c1 (by rw[OA,n1.len];lia) ((fr.sub (a':=q+1+f.size) (b':=q+1+f.size+g.size) (by lia) (by lia)).more n1 w1 (Oq _))with
 |mk h2 es2 e2 u2 k2 n2=>
 refine⟨h2,es1++es2,J (.tup [g.d,.int ((q+1+f.size:Nat):Int)]),?_,u1.trans u2,by rw[k2,Oz],(n1.up u2).app n2⟩;have bd:∀{t:T}{b b' q':Nat}{inn:Option D}{h h':Hd},run P n (O "_law_fits") [.ref ck,.int (b:Int),.tup [t.d,.int (q':Int)],.ref sk,.bl Ws,.ref wk] h=.ok (.int (b':Int)) h'->xs2 (P.tbl n) Zam (vf ck b sp sk l wk td q row (J (.tup [t.d,.int (q':Int)]))) h=.ok (.nx,vf ck b' sp sk l wk td q row (J (.tup [t.d,.int (q':Int)]))) h':=λ{t b b' q' inn h h'} e=>by have x1:xs1 (P.tbl n) Zcm (vf ck b sp sk l wk td q row (J (.tup [t.d,.int (q':Int)]))) h=.ok (.nx,vf ck b' sp sk l wk td q row (J (.tup [t.d,.int (q':Int)]))) h':=Zo (i:=1) (Zw e rfl);exact(Za x1).trans ((Za ((Zg (lt0 (m:=b') rfl)).trans rfl)).trans rfl)
 exact(Ce.ZgV hj (ρ1:=vf ck a sp sk l wk td q row (J (.tup [f.d,.int ((q+1:Nat):Int)]))) rfl (bd (inn:=M) e1)).trans ((Ce.ZgV (u1.at hj jw) (ρ1:=vf ck a1 sp sk l wk td q row (J (.tup [g.d,.int ((q+1+f.size:Nat):Int)]))) rfl (bd (inn:=M) e2)).trans (Zi2 ((u1.trans u2).at hj jw)))
end
def Zs8{o e:Ex}{i j:Nat}{ss:List Str}{y:Str}(p:ev U o S h=.ok (.ref i) R)(l:R[i]?=J (.lst (ss.map .str)))(q:ev U e S R=.ok (.str y) R)(pl:Tx.place y ss=J j):ev U (.lix o e) S h=.ok (.int (j:Int)) R:=by rw[Zrg,p,Zr,Zgg l,if_pos rfl,q,Zr];simp only[ZmU,lstOf,l,Ce.Zjq,pl];rfl
def Zj1(H:Lw P)(n:Nat)(t:T)(hd:dep t+2<=n)(cn:Cn L ck wk sk sc h kvs){a q:Nat}{l:Bool}{sp:D}{r:Rw}{a':Nat}{fs:List Fn}(hc:(flat (ZO 0 L) 0 L)[a']?=J r)
 (go:∀(j:Nat) (R:Hd),Cn L ck wk sk sc R kvs->R[j]?=J (.lst (Zah t.parts (q+1)))->j≠wk->∃h' es inn,ZP (J (j,Zah t.parts (q+1))) (.nm 9) (xs2 (P.tbl n) Zam) (Zah t.parts (q+1)) (vf ck a sp sk l wk t.d q (J r.d) M) R=.ok (.nx,vf ck a' sp sk l wk t.d q (J r.d) inn) h'/\Up wk R h'/\h'[wk]?=J (.dic (kvs++es))/\En L h' wk es fs) :
 Ft L wk h kvs (a'+1) fs (Zd (xs2 (P.tbl n) (.cons ZJ (.cons ZI (.cons Zy .nil))) (vf ck a sp sk l wk t.d q (J r.d) M) h)):=by
 obtain⟨h',es,inn,e,u,w,en⟩:=ZoA H n t hd cn go;have uu:Up wk h' (h'++[.lst [r.d]]++[.lst [r.d]]):=Up.app.trans Up.app;exact⟨_,es,(congrArg Zd (Za e)).trans (Zs5 (u.at cn.hk cn.n1) hc inn),u.trans uu,by rw[Oz];exact(Old.app _).at w,en.up uu⟩
theorem ZaV(H:Lw P)(sc:List Str)(sk:Nat)(hn:sc.length<=900):∀(t:T) (n:Nat) (l:Bool) (p k i q:Nat),3*dep t+8<=n->Cl sc t->Plc L i p (comp t sc l p k).1->Uts L k (comp t sc l p k).2->Fit P L ck wk sk sc n t (off L i+p) (off L i+(p+cnt t)) q l (fns t sc q k)
 |.num m,n,l,p,k,i,q,hd,ct,hp,hu=>λh kvs cn hz fr=>by
  obtain⟨n,rfl⟩:∃m,n=m+1:=⟨n-1,by lia⟩
  rw[Zh H.law_fits (by rfl)];have:=Zj1 (l:=l) (a:=off L i+p) (q:=q) (sp:=.tup [(T.num m).d,.int (q:Int)]) (fs:=[]) H n (.num m) (by lia) cn (r:=.num m) hp.head (λj R c1 hj jw=>⟨R,[],M,Zi2 hj,Up.refl,by rw[Yr];exact c1.hw,.nil⟩);have e:xs2 (P.tbl n) ZY [J (.ref ck),J (.int ((off L i+p:Nat):Int)),J (.tup [(T.num m).d,.int (q:Int)]),J (.ref sk),J (.bl l),J (.ref wk),M,M,M,M] h=xs2 (P.tbl n) (.cons ZJ (.cons ZI (.cons Zy .nil))) (vf ck (off L i+p) (.tup [(T.num m).d,.int (q:Int)]) sk l wk (T.num m).d q (J (Rw.num m).d) M) h:=(ZgX (by decide) (by decide) (by decide)).trans ((Za ((Zt (Zk (ZR (x:=O "num") rfl rfl) (by decide))).trans rfl)).trans ((Za ((Zg (Zk (ZR (x:=O "num") rfl rfl) (by decide))).trans rfl)).trans (Za ((Zg (Zk (ZR (x:=O "num") rfl rfl) (by decide))).trans rfl))))
  show Ft L wk h kvs (off L i+(p+1)) [] (Zd (xs2 (P.tbl n) ZY _ h));exact(congrArg Zd e)▸this
 |.name y,n,l,p,k,i,q,hd,ct,hp,hu=>λh kvs cn hz fr=>by
  obtain⟨n,rfl⟩:∃m,n=m+1:=⟨n-1,by lia⟩
  rw[Zh H.law_fits (by rfl)];obtain⟨m,e1,_⟩:=Ce.ZdF (show y∈sc from ct);have hc:=hp.head;simp only[e1,Option.getD_some]at hc;have:=Zj1 (l:=l) (a:=off L i+p) (q:=q) (sp:=.tup [(T.name y).d,.int (q:Int)]) (fs:=[]) H n (.name y) (by lia) cn (r:=.fetch m) hc (λj R c1 hj jw=>⟨R,[],M,Zi2 hj,Up.refl,by rw[Yr];exact c1.hw,.nil⟩);have x6:xs1 (P.tbl n) ZbM (vf ck (off L i+p) (.tup [(T.name y).d,.int (q:Int)]) sk l wk (T.name y).d q (J (.tup [.str (O "work"),.str (O "name")])) M) h=.ok (.nx,vf ck (off L i+p) (.tup [(T.name y).d,.int (q:Int)]) sk l wk (T.name y).d q (J (Rw.fetch m).d) M) h:=(Zt (Zk (ZR (x:=O "name") rfl rfl) (by decide))).trans ((Za (Zo (i:=8) (ZX (Zb rfl (Zb (Zs8 (y:=y) rfl cn.hs rfl e1) rfl)) (by simp)))).trans rfl);have e:xs2 (P.tbl n) ZY [J (.ref ck),J (.int ((off L i+p:Nat):Int)),J (.tup [(T.name y).d,.int (q:Int)]),J (.ref sk),J (.bl l),J (.ref wk),M,M,M,M] h=xs2 (P.tbl n) (.cons ZJ (.cons ZI (.cons Zy .nil))) (vf ck (off L i+p) (.tup [(T.name y).d,.int (q:Int)]) sk l wk (T.name y).d q (J (Rw.fetch m).d) M) h:=(ZgX (by decide) (by decide) (by decide)).trans ((Za ((Zg (Zk (ZR (x:=O "name") rfl rfl) (by decide))).trans rfl)).trans ((Za x6).trans (Za ((Zg (Zk (ZR (x:=O "name") rfl rfl) (by decide))).trans rfl))))
  show Ft L wk h kvs (off L i+(p+1)) [] (Zd (xs2 (P.tbl n) ZY _ h));exact(congrArg Zd e)▸this
 |.fn x e,n,l,p,k,i,q,hd,ct,hp,hu=>λh kvs cn hz fr=>by
  rw[z1]at hz fr;obtain⟨n,rfl⟩:∃m,n=m+3:=⟨n-3,by lia⟩
  rw[Zh H.law_fits (by rfl)];cases Zhx (e:=e) H n cn (Zbw hp hu) (by lia) hn (fr.sub (Oq _) (by lia))with
  |mk h' es e1 u w en=>exact⟨h',es,congrArg Zd ((Za rfl).trans (Zc ((Zt (Zqx (Zk (ZR (x:=O "fn") rfl rfl) (by decide)))).trans (Zc (ZA (Zw e1 rfl)))))),u,w,en⟩
 |.rcc g x e,n,l,p,k,i,q,hd,ct,hp,hu=>λh kvs cn hz fr=>by
  rw[zr]at hz fr;obtain⟨n,rfl⟩:∃m,n=m+3:=⟨n-3,by lia⟩
  rw[Zh H.law_fits (by rfl)];cases ZgD (e:=e) H n cn (Zbw hp hu) (by lia) hn (fr.sub (Oq _) (by lia))with
  |mk h' es e1 u w en=>exact⟨h',es,congrArg Zd ((Za rfl).trans (Zc ((Zt (ZeZ (Zk (ZR (x:=O "rec") rfl rfl) (by decide)) (Zk (ZR (x:=O "rec") rfl rfl) (by decide)))).trans (Zc (ZA (Zw e1 rfl)))))),u,w,en⟩
 |.call f g,n,l,p,k,i,q,hd,ct,hp,hu=>λh kvs cn hz fr=>by
  rw[z2]at hz fr;obtain⟨n,rfl⟩:∃m,n=m+1:=⟨n-1,by lia⟩
  have hd:3*(max (dep f) (dep g)+1)+8<=n+1:=hd;have p2:=hp.right;rw[Zm]at p2;have p3:=p2.right;rw[Zm]at p3;have u2:=hu.right;rw[ZE]at u2 p2;have F1:=ZaV H sc sk hn f n Ws p k i (q+1) (by lia) ct.1 hp.left hu.left;have F2:=ZaV H sc sk hn g n Ws (p+cnt f) (k+nu f) i (q+1+f.size) (by lia) ct.2 p2.left u2;have hc:(flat (ZO 0 L) 0 L)[off L i+(p+cnt f+cnt g)]?=J (if l then .hop else .call):=by cases l<;>exact p3.head
  rw[Zh H.law_fits (by rfl)];have xa:xs1 (P.tbl n) ZbL (vf ck (off L i+p) (.tup [(T.call f g).d,.int (q:Int)]) sk l wk (T.call f g).d q (J (.tup [.str (O "work"),.str (O "call")])) M) h=.ok (.nx,vf ck (off L i+p) (.tup [(T.call f g).d,.int (q:Int)]) sk l wk (T.call f g).d q (J (if l then Rw.hop else Rw.call).d) M) (h++[.lst [.str (O "call"),.str (O "hop")]]):=(Zt (Zk (ZR (x:=O "call") rfl rfl) (by decide))).trans ((Za (Zo (i:=8) (ZX (Zb (Zgn (xs:=[.str (O "call"),.str (O "hop")]) (z:=if l then 1 else 0) (d:=.str (Str.ofString (if l then "hop" else "call"))) (by cases l<;>rfl) rfl (by cases l<;>rfl) (by simp)) rfl) (by simp)))).trans (by cases l<;>rfl));have:=Zj1 (l:=l) (a:=off L i+p) (q:=q) (sp:=.tup [(T.call f g).d,.int (q:Int)]) H n (.call f g) (by show max (dep f) (dep g)+1+2<=n;lia) (cn.old (Old.app [.lst [.str (O "call"),.str (O "hop")]])) hc (λj R c1 hj jw=>Zpr n c1 (by lia) (fr.sub (by lia) (by lia)) hj jw F1 F2 (Zaw f sc (q+1) k));have e:xs2 (P.tbl n) ZY [J (.ref ck),J (.int ((off L i+p:Nat):Int)),J (.tup [(T.call f g).d,.int (q:Int)]),J (.ref sk),J (.bl l),J (.ref wk),M,M,M,M] h=xs2 (P.tbl n) (.cons ZJ (.cons ZI (.cons Zy .nil))) (vf ck (off L i+p) (.tup [(T.call f g).d,.int (q:Int)]) sk l wk (T.call f g).d q (J (if l then Rw.hop else Rw.call).d) M) (h++[.lst [.str (O "call"),.str (O "hop")]]):=(ZgX (by decide) (by decide) (by decide)).trans ((Za ((Zg (Zk (ZR (x:=O "call") rfl rfl) (by decide))).trans rfl)).trans ((Za ((Zg (Zk (ZR (x:=O "call") rfl rfl) (by decide))).trans rfl)).trans (Za xa)))
  rw[show off L i+(p+cnt (T.call f g))=off L i+(p+cnt f+cnt g)+1 by simp only[cnt];lia];exact this.from Up.app (congrArg Zd e)
 |.op w f g,n,l,p,k,i,q,hd,ct,hp,hu=>λh kvs cn hz fr=>by
  rw[zo]at hz fr;obtain⟨n,rfl⟩:∃m,n=m+1:=⟨n-1,by lia⟩
  have hd:3*(max (dep f) (dep g)+1)+8<=n+1:=hd;have p2:=hp.right;rw[Zm]at p2;have p3:=p2.right;rw[Zm]at p3;have u2:=hu.right;rw[ZE]at u2 p2;have F1:=ZaV H sc sk hn f n Ws p k i (q+1) (by lia) ct.1 hp.left hu.left;have F2:=ZaV H sc sk hn g n Ws (p+cnt f) (k+nu f) i (q+1+f.size) (by lia) ct.2 p2.left u2;rw[Zh H.law_fits (by rfl)];have:=Zj1 (l:=l) (a:=off L i+p) (q:=q) (sp:=.tup [(T.op w f g).d,.int (q:Int)]) H n (.op w f g) (by show max (dep f) (dep g)+1+2<=n;lia) cn (r:=.work w) p3.head (λj R c1 hj jw=>Zpr n c1 (by lia) (fr.sub (by lia) (by lia)) hj jw F1 F2 (Zaw f sc (q+1) k));have no:∀z:Str,z∈[O "fn",O "rec",O "if",O "num",O "name",O "call"]->Wt (w.s=z)=Ws:=λz hz=>by cases w<;>revert z<;>decide
  have e:xs2 (P.tbl n) ZY [J (.ref ck),J (.int ((off L i+p:Nat):Int)),J (.tup [(T.op w f g).d,.int (q:Int)]),J (.ref sk),J (.bl l),J (.ref wk),M,M,M,M] h=xs2 (P.tbl n) (.cons ZJ (.cons ZI (.cons Zy .nil))) (vf ck (off L i+p) (.tup [(T.op w f g).d,.int (q:Int)]) sk l wk (T.op w f g).d q (J (Rw.work w).d) M) h:=(ZgX (no _ (by simp)) (no _ (by simp)) (no _ (by simp))).trans ((Za ((Zg (Zk (ZR (x:=w.s) rfl rfl) (no _ (by simp)))).trans rfl)).trans ((Za ((Zg (Zk (ZR (x:=w.s) rfl rfl) (no _ (by simp)))).trans rfl)).trans (Za ((Zg (Zk (ZR (x:=w.s) rfl rfl) (no _ (by simp)))).trans rfl))))
  rw[show off L i+(p+cnt (T.op w f g))=off L i+(p+cnt f+cnt g)+1 by simp only[cnt];lia];exact this.from Up.refl (congrArg Zd e)
 |.iff c t e,n,l,p,k,i,q,hd,ct,hp,hu=>λh kvs cn hz fr=>by
  obtain⟨n,rfl⟩:∃m,n=m+3:=⟨n-3,by lia⟩
  have hd:3*(max (dep c) (max (dep t) (dep e))+1)+8<=n+3:=hd;have p2:=hp.right;rw[Zm]at p2;have p3:=p2.tail;have p4:=p3.right;rw[Zm]at p4;have hh:=p2.head;have hj:=p4.head;simp only[nmb]at hh hj;rw[show((off L i:Nat):Int)+((p+cnt c+1+cnt t+1:Nat):Int)=((off L i+(p+cnt c+1+cnt t)+1:Nat):Int) by lia]at hh;rw[show((off L i:Nat):Int)+((p+cnt c+1+cnt t+1+cnt e:Nat):Int)=((off L i+(p+cnt c+1+cnt t+1+cnt e):Nat):Int) by lia]at hj;have u2:=hu.right.left;have u3:=hu.right.right;have q3:=p3.left;have q4:=p4.tail;rw[ZE]at u2 u3 q3 q4;rw[ZE]at u3 q4;have F1:=ZaV H sc sk hn c (n+1) Ws p k i (q+1) (by lia) ct.1 hp.left hu.left;have F2:=ZaV H sc sk hn t (n+1) l (p+cnt c+1) (k+nu c) i (q+1+c.size) (by lia) ct.2.1 q3 u2;have F3:=ZaV H sc sk hn e (n+1) l (p+cnt c+1+cnt t+1) (k+nu c+nu t) i (q+1+c.size+t.size) (by lia) ct.2.2 q4 u3;obtain⟨R,j,e1,o,hs⟩:=ZlK H n (.iff c t e) q (by show max (dep c) (max (dep t) (dep e))+1<=n;lia) (h:=h);have jw:j≠wk:=λz=>by have:=o.at cn.hw;rw[<-z,hs]at this;cases this
  have:=ZtX H (n+1) (cn.old o) hz fr hs jw F1 F2 F3 (Zaw c sc (q+1) k) (Zaw t sc (q+1+c.size) (k+nu c)) hh hj;rw[Zh H.law_fits (by rfl)];rw[show off L i+(p+cnt (T.iff c t e))=off L i+(p+cnt c+1+cnt t+1+cnt e) by simp only[cnt];lia];cases this with
  |mk h' es e2 u w en=>exact⟨h',es,congrArg Zd ((Za rfl).trans ((Za ((Zg (ZeZ (Zk (ZR (x:=O "if") rfl rfl) (by decide)) (Zk (ZR (x:=O "if") rfl rfl) (by decide)))).trans rfl)).trans (Zc ((Zt (Zk (ZR (x:=O "if") rfl rfl) (by decide))).trans (Zc (ZA (Zw e2 (Zb rfl (Zb rfl (Zb (Zw e1 rfl) rfl)))))))))),o.up.trans u,w,en⟩
end
section
variable {P:Pg}{h R h2:Hd}{U:Tb}{S:Ev}{L:List (List Rw)}{ck wk:Nat}{kvs es:List (Key×D)}
theorem ZaU:∀(t:T) (sc:List Str) (q k:Nat),∀g∈fns t sc q k,dep g.e<dep t
 |.num _,_,_,_,g,hg=>by cases hg
 |.name _,_,_,_,g,hg=>by cases hg
 |.fn x e,sc,q,k,g,hg=>by rw[Ox.mp hg];exact OH _
 |.rcc f x e,sc,q,k,g,hg=>by rw[Ox.mp hg];exact OH _
 |.call f a,sc,q,k,g,hg=>by
  rcases OD.mp hg with z|z
  . have:=ZaU f _ _ _ g z;simp only[dep];lia
  . have:=ZaU a _ _ _ g z;simp only[dep];lia
 |.op w f a,sc,q,k,g,hg=>by
  rcases OD.mp hg with z|z
  . have:=ZaU f _ _ _ g z;simp only[dep];lia
  . have:=ZaU a _ _ _ g z;simp only[dep];lia
 |.iff c t e,sc,q,k,g,hg=>by
  rcases OD.mp hg with z|z
  . have:=ZaU c _ _ _ g z;simp only[dep];lia
  . rcases OD.mp z with z|z
    . have:=ZaU t _ _ _ g z;simp only[dep];lia
    . have:=ZaU e _ _ _ g z;simp only[dep];lia
theorem ZbG:∀(t:T) (sc:List Str) (q k:Nat),∀g∈fns t sc q k,g.sc.length<=sc.length+2
 |.num _,_,_,_,g,hg=>by cases hg
 |.name _,_,_,_,g,hg=>by cases hg
 |.fn x e,sc,q,k,g,hg=>by rw[Ox.mp hg];simp
 |.rcc f x e,sc,q,k,g,hg=>by rw[Ox.mp hg];simp
 |.call f a,sc,q,k,g,hg=>(OD.mp hg).elim (ZbG f _ _ _ g) (ZbG a _ _ _ g)
 |.op w f a,sc,q,k,g,hg=>(OD.mp hg).elim (ZbG f _ _ _ g) (ZbG a _ _ _ g)
 |.iff c t e,sc,q,k,g,hg=>(OD.mp hg).elim (ZbG c _ _ _ g) λz=>(OD.mp z).elim (ZbG t _ _ _ g) (ZbG e _ _ _ g)
structure Pd(L:List (List Rw))(Z_:Nat)(h:Hd)(wk:Nat)(kvs:List (Key×D))(ps:List Nat)(pd:List Fn):Prop where
 hw:h[wk]?=J (.dic kvs)
 pm:(kvs.map (·.1)).Perm ((ps++pd.map (·.q)).map λ(q:Nat)=>(YD (q:Int):Key))
 sa:ps.Pairwise (· < ·)
 sb:∀x∈ps,∀g∈pd,x<g.q
 sc:pd.Pairwise Bh
 vl:∀f∈pd,∃s:Nat,ZU kvs (.inl (f.q:Int))=J (.tup [.int (off L f.u:Int),f.e.d,.ref s])/\h[s]?=J (.lst (f.sc.map .str))/\s≠wk
 pn:Pn L (ps.length+1) pd L.length
 bd:∀f∈pd,f.q+1+f.e.size<=Z_/\f.sc.length<=2*(f.q+1)/\dep f.e<=20
def En.val(x:En L h w es fs):fs.Pairwise Bh->∀g∈fs,∃s:Nat,ZU es (.inl (g.q:Int))=J (.tup [.int (off L g.u:Int),g.e.d,.ref s])/\h[s]?=J (.lst (g.sc.map .str))/\s≠w:=by
 induction x with
 |nil=>exact λ_ g hg=>by cases hg
 |@cons f s es fs hs ne r ih=>
  intro p g hg;cases p with
  |cons p1 p2=>
   rcases O2.mp hg with rfl|hg
   . exact⟨s,by simp[ZU],hs,ne⟩
   . obtain⟨s',e1,e2⟩:=ih p2 g hg;have b:=p1 g hg;unfold Bh at b;refine⟨s',?_,e2⟩;rw[<-e1,ZU,ZU,Wn,decide_eq_false (λz=>by injection z with z;lia)]
def Pd.key(x:Pd L Z_ h wk kvs ps pd)(hp:p∈kvs):∃z:Nat,p.1=.inl (z:Int)/\z∈ps++pd.map (·.q):=by have:=x.pm.mem_iff.mp (List.mem_map_of_mem (f:=(·.1)) hp);obtain⟨z,hz,e⟩:=List.mem_map.mp this;exact⟨z,e.symm,hz⟩
def Pd.fr(x:Pd L Z_ h wk kvs ps (f::pd)):Fr kvs (f.q+1) (f.q+1+f.e.size):=λp hp v c d e=>by
 obtain⟨z,e1,hz⟩:=x.key hp;rw[e1]at e;injection e with e;have e:z=v:=by lia
 subst e;rcases OD.mp hz with q|q
 . have:=x.sb z q f Oi;lia
 . rcases O2.mp q with rfl|q
   . lia
   . obtain⟨g,hg,rfl⟩:=List.mem_map.mp q;cases x.sc with
     |cons p1 p2=>have:=p1 g hg;unfold Bh at this;lia
def Pd.len(x:Pd L Z_ h wk kvs ps pd):kvs.length=ps.length+pd.length:=by simpa using x.pm.length_eq
def Zne(e:ZU kvs k=J v):ZU (kvs++es) k=J v:=by
 unfold ZU at *;rw[List.find?_append];cases q:kvs.find? λp=>Wt (p.1=k)with
 |none=>rw[q]at e;cases e
 |some y=>rw[q]at e;exact e
def Znd(f:∀p∈kvs,p.1≠k):ZU (kvs++es) k=ZU es k:=by unfold ZU;rw[List.find?_append,List.find?_eq_none.mpr (λp hp=>by simpa using f p hp)];rfl
def Pd.step(x:Pd L Z_ h wk kvs ps (f::pd))(u:Up wk h h')(w:h'[wk]?=J (.dic (kvs++es)))(n:En L h' wk es (fns f.e f.sc (f.q+1) (ps.length+1+1))):Pd L Z_ h' wk (kvs++es) (ps++[f.q]) (fns f.e f.sc (f.q+1) (ps.length+1+1)++pd):=by
 have wi:=Zaw f.e f.sc (f.q+1) (ps.length+1+1);obtain⟨q1,q2,q3,q4⟩:=x.pn;have fr:=x.fr;obtain⟨b1,b2,b3⟩:=x.bd f Oi;cases x.sc with
 |cons p1 p2=>
 refine⟨w,?_,?_,?_,?_,?_,?_,?_⟩
 . rw[List.map_append,n.keys,List.map_append,List.map_append,Oz,<-Oz];have e:=x.pm;simp only[List.map_append,Op,Oy,List.map_map]at e ⊢;refine(e.append_right _).trans ?_;simp only[Oz,List.cons_append,OB];exact(List.Perm.refl _).append (.cons _ List.perm_append_comm)
 . refine List.pairwise_append.mpr ⟨x.sa,.cons (by simp) .nil,λa ha b hb=>?_⟩;rw[Ox.mp hb];exact x.sb a ha f Oi
 . intro a ha g hg;rcases OD.mp ha with za|za
   . rcases OD.mp hg with zg|zg
     . have:=x.sb a za f Oi;have:=wi.2 g zg;lia
     . exact x.sb a za g (Oh _ zg)
   . rw[Ox.mp za];rcases OD.mp hg with zg|zg
     . have:=wi.2 g zg;lia
     . have:=p1 g zg;unfold Bh at this;lia
 . refine List.pairwise_append.mpr ⟨wi.1,p2,λa ha b hb=>?_⟩;have:=wi.2 a ha;have:=p1 b hb;unfold Bh at *
   lia
 . intro g hg;rcases OD.mp hg with zg|zg
   . obtain⟨s,e1,e2⟩:=n.val wi.1 g zg;have:=wi.2 g zg;exact⟨s,(Znd (λp hp=>fr p hp g.q (by lia) (by lia))).trans e1,e2⟩
   . obtain⟨s,e1,e2,e3⟩:=x.vl g (Oh _ zg);exact⟨s,Zne e1,u.at e2 e3,e3⟩
 . rw[OA];exact(ZbH f.e f.sc Wr 0 (f.q+1) (ps.length+1+1) q3 q2.tail).app q4
 . intro g hg;rcases OD.mp hg with zg|zg
   . have:=wi.2 g zg;have:=ZaU f.e _ _ _ g zg;have:=ZbG f.e _ _ _ g zg;exact⟨by lia,by lia,by lia⟩
   . exact x.bd g (Oh _ zg)
noncomputable def unk:Key->Int
 |.inl z=>z
 |.inr _=>0
theorem ZjY:∀kvs:List (Key×D),(∀p∈kvs,∃z:Int,p.1=.inl z)->Zcx kvs=J (kvs.map λp=>unk p.1)
 |[],_=>rfl
 |(k,v)::r,hp=>by obtain⟨z,e⟩:=hp _ Oi;have e:k=.inl z:=e;subst e;rw[Zcx,ZjY r λp h=>hp p (Oh _ h)];rfl
def Pd.srt(x:Pd L Z_ h wk kvs ps pd)(hz:kvs.length<64):ZaJ GD .sri [.ref wk] h=.ok (.ref h.length) (h++[.lst ((ps++pd.map (·.q)).map λ(q:Nat)=>.int (q:Int))]):=by
 have e1:=ZjY kvs λp hp=>by obtain⟨z,e,_⟩:=x.key hp;exact⟨_,e⟩
 have e2:Zf6 (kvs.map λp=>unk p.1)=(ps++pd.map (·.q)).map λ(q:Nat)=>(q:Int):=by
  refine(ZeO ?_ ?_).symm
  . have:=(x.pm.map unk).symm;rw[List.map_map,List.map_map]at this;exact this
  . rw[List.pairwise_map];refine List.pairwise_append.mpr ⟨x.sa.imp (λh=>by lia),?_,λa ha b hb=>?_⟩
    . rw[List.pairwise_map];exact x.sc.imp (λh=>by unfold Bh at h;lia)
    . obtain⟨g,hg,rfl⟩:=List.mem_map.mp hb;have:=x.sb a ha g hg
      lia
 simp only[ZaJ,Zo3,dicOf,x.hw,Yw,e1,Ys,hz,if_true,e2,List.map_map,ZaS];rfl
def Lf:Nat->D->Prop
 |0,d=>(∃x,d=.str x)\/∃z,d=.int z
 |m+1,d=>((∃x,d=.str x)\/∃z,d=.int z)\/∃xs,d=.tup xs/\xs.length<=900/\∀x∈xs,Lf m x
def Ztn(p:ev U a S h=.ok (.bl Wr) R)(q:ev U b S R=.ok x h2):ev U (.ands (.cons a (.cons b .nil))) S h=.ok x h2:=by rw[Zj6,ZdN,p,Zr];exact q
theorem Zkc{N:Nat}:∀(xs ag:List D) (h:Hd),(∀x∈xs,∀h,∃g,run P N (O "_law_alike") [x,x] h=.ok (.bl Wr) (h++g))->ag.length+xs.length<=1000 ->
 ∃g,Zz M (.two 0 1) (tsto (P.tbl N) M) (ev (P.tbl N) (.call (O "_law_alike") (.cons (.var 0) (.cons (.var 1) .nil)))) (ZfI xs xs) [M,M] ag h=.ok (ag++xs.map λ_=>.bl Wr) (h++g)
 |[],ag,h,_,_=>⟨[],by rw[Oy,Yr,Yr];rfl⟩
 |x::xs,ag,h,hx,hz=>by have hl:ag.length<sizeLine:=Ot (show ag.length<1001 by simp only[Os]at hz;lia) (by decide);obtain⟨g1,e1⟩:=hx x Oi h;obtain⟨g2,e2⟩:=Zkc xs (ag++[.bl Wr]) (h++g1) (λy hy=>hx y (Oh _ hy)) (by simp only[OA,Os,List.length_nil]at *;lia);refine⟨g1++g2,?_⟩;rw[show ZfI (x::xs) (x::xs)=.tup [x,x]::ZfI xs xs from rfl,ZC,if_pos ⟨rfl,hl⟩];show kz.bnd (kz.plain (ev (P.tbl N) (.call (O "_law_alike") (.cons (.var 0) (.cons (.var 1) .nil))) [J x,J x] h)) _=_;rw[Zw (U:=P.tbl N) e1 rfl];show Zz M (.two 0 1) _ _ (ZfI xs xs) [M,M] (ag++[.bl Wr]) (h++g1)=_;rw[e2,Oz,Oz,Op];rfl
theorem Zpz:∀xs:List α,Zgo (xs.map λ_=>D.bl Wr)=J (xs.map λ_=>Wr)
 |[]=>rfl
 |x::xs=>by rw[Op,Zgo,Zpz xs];rfl
def Zm1(e:h[i]?=J (.lst ((xs:List α).map λ_=>.bl Wr))):ZaJ GD .all [.ref i] h=.ok (.bl Wr) h:=by simp only[ZaJ,Zo7,lstOf,e,Yw,Zpz,Yt,kz.ofO_some];congr 2;simp
def Znx(H:Lw P):∀(m n:Nat) (d:D) (h:Hd),Lf m d->∃g,run P (n+m+2) (O "_law_alike") [d,d] h=.ok (.bl Wr) (h++g):=by
 have leaf:∀(n:Nat) (d:D) (h:Hd),((∃x,d=.str x)\/∃z,d=.int z)->∃g,run P (n+2) (O "_law_alike") [d,d] h=.ok (.bl Wr) (h++g):=by
  intro n d h hd;refine⟨[],?_⟩;rw[Yr,Zh H.law_alike (by rfl)];rcases hd with⟨x,rfl⟩|⟨z,rfl⟩
  . have x2:xs1 (P.tbl (n+1)) ZcR [J (.str x),J (.str x)] h=.ok (.rt (.bl Wr),[J (.str x),J (.str x)]) h:=(Zt (ZaH rfl)).trans (Zc (ZA (Ztn (R:=h) rfl ((Zv (x:=.str x) (y:=.str x) rfl rfl).trans (by rw[ZdG,Ze0,decide_eq_true rfl];rfl)))));exact congrArg Zd ((Za ((Zg (ZaH rfl)).trans rfl)).trans (Zc x2))
  . have x3:xs1 (P.tbl (n+1)) ZcQ [J (.int z),J (.int z)] h=.ok (.rt (.bl Wr),[J (.int z),J (.int z)]) h:=ZA (Ztn (Zw (Zjw H n z) rfl) ((Zv (x:=.int z) (y:=.int z) rfl rfl).trans (by rw[ZdG,Zbt,decide_eq_true rfl];rfl)));exact congrArg Zd ((Za ((Zg (ZaH rfl)).trans rfl)).trans ((Za ((Zg (ZaH rfl)).trans rfl)).trans (Zc x3)))
 intro m;induction m with
 |zero=>exact λn d h hd=>leaf n d h hd
 |succ m ih=>
  intro n d h hd;rcases hd with hd|⟨xs,rfl,hz,hx⟩
  . have:=leaf (n+(m+1)) d h hd;exact this
  . rw[Zh H.law_alike (by rfl)];obtain⟨g,e⟩:=Zkc (P:=P) (N:=n+m+2) xs [] h (λx q h=>ih n x h (hx x q)) (by simp;lia);refine⟨g++[.lst (xs.map λ_=>.bl Wr)],?_⟩;have t1:tst (P.tbl (n+m+2)) Zby [J (.tup xs),J (.tup xs)] h=.ok Ws h:=ZeZ (R:=h) rfl (ZaH ((Zv (x:=.int (xs.length:Int)) (y:=.int (xs.length:Int)) rfl rfl).trans (by rw[ZcT,Zbt,decide_eq_true rfl];rfl)));have ei:evi (P.tbl (n+m+2)) (.zp (.var 0) (.var 1)) [J (.tup xs),J (.tup xs)] h=.ok ⟨M,ZfI xs xs⟩ h:=by show zpD (.tup xs) (.tup xs) h=_;simp only[zpD,if_true]
    have x2:xs1 (P.tbl (n+m+2)) Zbz [J (.tup xs),J (.tup xs)] h=.ok (.rt (.bl Wr),[J (.tup xs),J (.tup xs)]) (h++g++[.lst (xs.map λ_=>.bl Wr)]):=ZA (ZcC (Zb (Zfn ei e) rfl) (Zm1 (xs:=xs) (by simp)));rw[<-Oz];exact congrArg Zd (Zc ((Zt (ZaH rfl)).trans ((Za ((Zg t1).trans rfl)).trans (Zc x2))))
def Sm:Rw->Prop
 |.close _ ns=>ns.length<=2
 |_=>True
theorem small:∀(t:T) (sc:List Str) (l:Bool) (p k:Nat),Ce.Rows (comp t sc l p k) Sm
 |.num _,_,_,_,_=>by simp[comp,Ce.Rows,Sm]
 |.name _,_,_,_,_=>by simp[comp,Ce.Rows,Sm]
 |.fn y e,sc,l,p,k=>by
  have x:=small e (y::sc) Wr 0 (k+1);unfold Ce.Rows at *;simp only[comp,O2,List.not_mem_nil,or_false];refine⟨λr e=>by subst e;simp[Sm],λu hu r hr=>?_⟩;rcases hu with rfl|hu
  . rcases OD.mp hr with z|z
    . exact x.1 r z
    . rw[Ox.mp z];trivial
  . exact x.2 u hu r hr
 |.rcc f y e,sc,l,p,k=>by
  have x:=small e (y::f::sc) Wr 0 (k+1);unfold Ce.Rows at *;simp only[comp,O2,List.not_mem_nil,or_false];refine⟨λr e=>by subst e;simp[Sm],λu hu r hr=>?_⟩;rcases hu with rfl|hu
  . rcases OD.mp hr with z|z
    . exact x.1 r z
    . rw[Ox.mp z];trivial
  . exact x.2 u hu r hr
 |.call f a,sc,l,p,k=>by have x:=small f sc Ws p k;have y:=small a sc Ws (p+cnt f) (k+(comp f sc Ws p k).2.length);unfold Ce.Rows at *;simp only[comp,OD,Ox];exact⟨λr hr=>hr.elim (x.1 r) λhr=>hr.elim (y.1 r) λe=>by subst e;cases l<;>trivial,λu hu r hr=>hu.elim (λhu=>x.2 u hu r hr) λhu=>y.2 u hu r hr⟩
 |.op w f a,sc,l,p,k=>by have x:=small f sc Ws p k;have y:=small a sc Ws (p+cnt f) (k+(comp f sc Ws p k).2.length);unfold Ce.Rows at *;simp only[comp,OD,Ox];exact⟨λr hr=>hr.elim (x.1 r) λhr=>hr.elim (y.1 r) λe=>by subst e;trivial,λu hu r hr=>hu.elim (λhu=>x.2 u hu r hr) λhu=>y.2 u hu r hr⟩
 |.iff c t e,sc,l,p,k=>by have x:=small c sc Ws p k;have y:=small t sc l (p+cnt c+1) (k+(comp c sc Ws p k).2.length);have z:=small e sc l (p+cnt c+1+cnt t+1) (k+(comp c sc Ws p k).2.length+(comp t sc l (p+cnt c+1) (k+(comp c sc Ws p k).2.length)).2.length);unfold Ce.Rows at *;simp only[comp,OD,O2];exact⟨λr hr=>hr.elim (x.1 r) λhr=>hr.elim (λe=>by subst e;trivial) λhr=>hr.elim (y.1 r) λhr=>hr.elim (λe=>by subst e;trivial) (z.1 r),λu hu r hr=>hu.elim (λhu=>x.2 u hu r hr) λhu=>hu.elim (λhu=>y.2 u hu r hr) λhu=>z.2 u hu r hr⟩
theorem Zjr(F:List Nat):∀(L:List (List Rw)) (a:Nat),(∀u∈L,∀r∈u,Sm r)->∀r∈flat F a L,Sm r
 |[],_,_,r,hr=>by cases hr
 |u::L,a,hu,r,hr=>by
  rw[flat]at hr;rcases OD.mp hr with z|z
  . obtain⟨r0,h0,rfl⟩:=List.mem_map.mp z;have:=hu u Oi r0 h0;cases r0<;>exact this
  . exact Zjr F L _ (λv hv=>hu v (Oh _ hv)) r z
def Znm(t:T):∀r∈Ce.code t,Sm r:=by
 refine Zjr _ _ _ λu hu r hr=>?_;have x:=small t [] Ws 0 1;rcases O2.mp hu with rfl|hu
 . rcases OD.mp hr with z|z
   . exact x.1 r z
   . rw[Ox.mp z];trivial
 . exact x.2 u hu r hr
theorem Zp0{r:Rw}(hr:Sm r):Lf 2 r.d:=by
 have st:∀ m (x:Str),Lf m (.str x):=λm x=>by cases m with|zero=>exact .inl ⟨x,rfl⟩|succ m=>exact .inl (.inl ⟨x,rfl⟩)
 have it:∀ m (x:Int),Lf m (.int x):=λm x=>by cases m with|zero=>exact .inr ⟨x,rfl⟩|succ m=>exact .inl (.inr ⟨x,rfl⟩)
 cases r with
 |close k ns =>
   have hr:ns.length<=2:=hr;have tn:Lf 1 (.tup (ns.map .str)):=.inr ⟨_,rfl,by simp;lia,λx hx=>by obtain⟨y,_,rfl⟩:=List.mem_map.mp hx;exact st _ _⟩;exact .inr ⟨_,rfl,by simp,λx hx=>by
     simp only [O2,List.not_mem_nil,or_false] at hx;rcases hx with rfl|rfl|rfl
     . exact st _ _
     . exact it _ _
     . exact tn⟩
 |_=>exact .inr ⟨_,rfl,by simp,by simp [st,it]⟩
def ZhF{k:Nat}{u:List Rw}(e:L[k]?=J u):off L (k+1)=off L k+u.length:=by unfold off;rw[List.take_succ,e];simp
theorem Zfh(F:List Nat):∀(L:List (List Rw)) (a:Nat),(flat F a L).length=(L.map List.length).sum
 |[],_=>rfl
 |r::L,a=>by rw[flat,OA,Ys,Zfh F L];simp
noncomputable def vw(ro td:D)(ck kk wk a d:Nat)(o7 o8 o9 bz:Option D):Ev:=[J ro,J td,J (.ref ck),J (.ref kk),J (.ref wk),J (.int (a:Int)),J (.int (d:Int)),o7,o8,o9,bz,M]
theorem Zpp(H:Lw P)(n:Nat)(hn:80<=n)(hL:L.length<=64)(hZ:Z_<=100)(nc:ck≠wk){ro td:D}{kk:Nat}:∀(m:Nat) (ps:List Nat) (pd:List Fn) (h:Hd) (kvs:List (Key×D)) (o7 o8 o9 bz:Option D),L.length-(ps.length+1)<m->Pd L Z_ h wk kvs ps pd->h[ck]?=J (.lst ((flat (ZO 0 L) 0 L).map Rw.d)) ->
 ∃h' d' p7 p8 p9 bV,Z9 (tst (P.tbl n) Zfx) (xs2 (P.tbl n) ZhP) m (vw ro td ck kk wk (off L (ps.length+1)) ps.length o7 o8 o9 bz) h=.ok (.nx,vw ro td ck kk wk (off L L.length) d' p7 p8 p9 bV) h'/\Up wk h h'
 |0,ps,pd,h,kvs,o7,o8,o9,bz,hm,x,hk=>by lia
 |m+1,ps,pd,h,kvs,o7,o8,o9,bz,hm,x,hk=>by
  have ln:=x.len;have pl:=x.pn.len;have et:tst (P.tbl n) Zfx (vw ro td ck kk wk (off L (ps.length+1)) ps.length o7 o8 o9 bz) h=.ok (Wt ((ps.length:Int)<(kvs.length:Int))) h:=Zol rfl (ZcC (Zb rfl rfl) (by simp only[ZaJ,Zo5,dicOf,x.hw,Yt,kz.ofO_some]));cases pd with
  |nil=>have e:ps.length+1=L.length:=x.pn;refine⟨h,ps.length,o7,o8,o9,bz,?_,Up.refl⟩;rw[Zgy (Zk et (decide_eq_false (by rw[ln];simp))),e]
  |cons f pd=>
   obtain⟨u1,u2,u3,u4⟩:=x.pn;obtain⟨s,v1,v2,v3⟩:=x.vl f Oi;obtain⟨b1,b2,b3⟩:=x.bd f Oi;rw[Os]at ln pl;have sr:=x.srt (GD:=P.GD) (by lia);have x1:xs1 (P.tbl n) ZfF (vw ro td ck kk wk (off L (ps.length+1)) ps.length o7 o8 o9 bz) h=.ok (.nx,vw ro td ck kk wk (off L (ps.length+1)) ps.length (J (.int (f.q:Int))) o8 o9 bz) (h++[.lst ((ps++(f::pd).map (·.q)).map λ(q:Nat)=>.int (q:Int))]):=Zo (i:=7) ((ZF (ZcC (Zb rfl rfl) sr) rfl).trans (by rw[ZG (xs:=(ps++(f::pd).map (·.q)).map λ(q:Nat)=>.int (q:Int)) (by simp),IV.Zas];simp));have o1:Old h (h++[.lst ((ps++(f::pd).map (·.q)).map λ(q:Nat)=>.int (q:Int))]):=Old.app _;generalize h++[.lst ((ps++(f::pd).map (·.q)).map λ(q:Nat)=>.int (q:Int))]=R at *;have w1:=o1.at x.hw;have x2:xs1 (P.tbl n) Zc2 (vw ro td ck kk wk (off L (ps.length+1)) ps.length (J (.int (f.q:Int))) o8 o9 bz) R=.ok (.nx,vw ro td ck kk wk (off L (ps.length+1)) ps.length (J (.int (f.q:Int))) (J (.int (off L f.u:Int))) (J f.e.d) (J (.ref s))) R:=by have e:ev (P.tbl n) (.ix (.var 4) (.var 7)) (vw ro td ck kk wk (off L (ps.length+1)) ps.length (J (.int (f.q:Int))) o8 o9 bz) R=.ok (.tup [.int (off L f.u:Int),f.e.d,.ref s]) R:=(ZF (x:=.ref wk) (y:=.int (f.q:Int)) rfl rfl).trans (by simp only[Zau,seqOf,lstOf,w1,dicOf,v1,kz.ofO_some]);rw[Zc2,Zgv,e];rfl
   rw[u1]at x2;have t3:tst (P.tbl n) Zfw (vw ro td ck kk wk (off L (ps.length+1)) ps.length (J (.int (f.q:Int))) (J (.int (off L (ps.length+1):Int))) (J f.e.d) (J (.ref s))) R=.ok Ws R:=ZaH ((Zv (x:=.int (off L (ps.length+1):Int)) (y:=.int (off L (ps.length+1):Int)) rfl rfl).trans (by rw[ZcT,Zbt,decide_eq_true rfl];rfl));have cn:Cn L ck wk s f.sc R kvs:=⟨o1.at hk,o1.at v2,w1,nc,v3⟩
   cases ZaV H f.sc s (by lia) f.e n Wr 0 (ps.length+1+1) (ps.length+1) (f.q+1) (by lia) u3 u2.head.left u2.tail R kvs cn (by lia) x.fr with
   |mk h2 es e4 u w en=>
   have x4:xs1 (P.tbl n) ZfE (vw ro td ck kk wk (off L (ps.length+1)) ps.length (J (.int (f.q:Int))) (J (.int (off L (ps.length+1):Int))) (J f.e.d) (J (.ref s))) R=.ok (.nx,vw ro td ck kk wk (off L (ps.length+1)+(0+cnt f.e)) ps.length (J (.int (f.q:Int))) (J (.int (off L (ps.length+1):Int))) (J f.e.d) (J (.ref s))) h2:=Zo (i:=5) (Zw e4 (Zb rfl (Zb rfl (Zb (ZX (Zb rfl (Zb ((Ze (x:=.int (f.q:Int)) rfl rfl).trans ZZ) rfl)) (by simp)) rfl))));have ee:=u.at (o1.at hk) nc;have bk:=Ce.Zrs u2 (Zm f.e f.sc Wr 0 (ps.length+1+1));have t5:tst (P.tbl n) Zfv (vw ro td ck kk wk (off L (ps.length+1)+(0+cnt f.e)) ps.length (J (.int (f.q:Int))) (J (.int (off L (ps.length+1):Int))) (J f.e.d) (J (.ref s))) h2=.ok Ws (h2++[.lst [Rw.back.d]]++[.lst [Rw.back.d]]):=ZeZ (lt0 (m:=off L (ps.length+1)+(0+cnt f.e)) rfl) (ZiJ (p:=off L (ps.length+1)+(0+cnt f.e)) ee bk rfl rfl (ZX (Zb rfl rfl) (by simp)));have uu:Up wk h2 (h2++[.lst [Rw.back.d]]++[.lst [Rw.back.d]]):=Up.app.trans Up.app;have ue:Up wk h (h2++[.lst [Rw.back.d]]++[.lst [Rw.back.d]]):=o1.up.trans (u.trans uu);have x':=x.step ue (by rw[Oz];exact(Old.app _).at w) (en.up uu);have os:off L (ps.length+1+1)=off L (ps.length+1)+(0+cnt f.e)+1:=by rw[ZhF (u2 0 _ rfl),OA,Zm];simp;lia
   obtain⟨h',d',p7,p8,p9,bV,e,ul⟩:=Zpp H n hn hL hZ nc m (ps++[f.q]) _ _ _ (J (.int (f.q:Int))) (J (.int (off L (ps.length+1):Int))) (J f.e.d) (J (.ref s)) (by rw[OA];simp;lia) x' (ue.at hk nc);refine⟨h',d',p7,p8,p9,bV,?_,ue.trans ul⟩;rw[<-e,OA];refine Zey (Zk et (decide_eq_true (by lia))) ?_;have io:∀h,xs2 (P.tbl n) (.cons ZfD (.cons ZfC .nil)) (vw ro td ck kk wk (off L (ps.length+1)+(0+cnt f.e)) ps.length (J (.int (f.q:Int))) (J (.int (off L (ps.length+1):Int))) (J f.e.d) (J (.ref s))) h=.ok (.nx,vw ro td ck kk wk (off L (ps.length+[f.q].length+1)) (ps.length+[f.q].length) (J (.int (f.q:Int))) (J (.int (off L (ps.length+1):Int))) (J f.e.d) (J (.ref s))) h:=λh=>by rw[show ps.length+[f.q].length+1=ps.length+1+1 from rfl,os];exact(Za (Zo (i:=5) ((Ze (x:=.int ((off L (ps.length+1)+(0+cnt f.e):Nat):Int)) rfl rfl).trans ZZ))).trans ((Za (Zo (i:=6) ((Ze (x:=.int (ps.length:Int)) rfl rfl).trans ZZ))).trans rfl)
   exact(Za x1).trans ((Za x2).trans ((Za ((Zg t3).trans rfl)).trans ((Za x4).trans ((Za ((Zg t5).trans rfl)).trans (io _)))))
end
end K52L
namespace K52L
open PySem L2 IV
open Ce (Rw comp cnt off Plc Uts Zm flat ZO nmb ZbB units code)
open Gn (Cl Up Zj dep)
section
variable {P:Pg}{h R h2:Hd}{U:Tb}{S:Ev}{C:List Rw}
def Znf(i k:Nat):ZW (i:Int) (k+1)=.int (i:Nat)::ZW ((i+1:Nat):Int) k:=by
 unfold ZW;rw[List.range_succ_eq_map,Op,List.map_map];refine congr (congrArg _ (by simp)) (List.map_congr_left λa _=>?_);simp only[Function.comp_apply];congr 1
 lia
theorem Zj9(hk:h[ck]?=J (.lst xs)):∀(rs:List Rw) (ag:List D),ag.length+rs.length<=1000->Zz (J (ck,xs)) (.nm 0) (tsto U M) (ev U (.blt .isi (.cons (.var 0) (.cons (.cst (.ty "tuple")) .nil)))) (rs.map Rw.d) [M] ag h=.ok (ag++rs.map λ_=>.bl Wr) h
 |[],ag,_=>by rw[Oy,Oy,Yr,Zz,Wk.stays,decide_eq_true hk];rfl
 |r::rs,ag,hz=>by
  have hl:ag.length<sizeLine:=Ot (show ag.length<1001 by simp only[Os]at hz;lia) (by decide);have e:ev U (.blt .isi (.cons (.var 0) (.cons (.cst (.ty "tuple")) .nil))) [J r.d] h=.ok (.bl Wr) h:=by obtain⟨ds,ed⟩:=Ce.Zrr r;rw[ed];rfl
  rw[Op,ZC,if_pos ⟨by rw[Wk.stays,decide_eq_true hk],hl⟩];show kz.bnd (kz.plain (ev U _ [J r.d] h)) _=_;rw[e];show Zz (J (ck,xs)) (.nm 0) _ _ (rs.map Rw.d) [M] (ag++[.bl Wr]) h=_;rw[Zj9 hk rs _ (by simp only[OA,Os,List.length_nil]at *;lia),Oz];rfl
theorem ZmN(H:Lw P){N aj kk:Nat}(hs:∀r∈C,Sm r):∀(rs pre:List Rw) (ag:List D) (h:Hd),C=pre++rs->ag.length+rs.length<=1000->h[aj]?=J (.lst (C.map Rw.d))->h[kk]?=J (.lst (C.map Rw.d)) ->
 ∃g,Zz M (.nm 0) (tsto (P.tbl (N+4)) M) (ev (P.tbl (N+4)) (.call (O "_law_alike") (.cons (.ix (.var 1) (.var 0)) (.cons (.ix (.var 2) (.var 0)) .nil)))) (ZW (pre.length:Int) rs.length) [M,J (.ref aj),J (.ref kk)] ag h=.ok (ag++rs.map λ_=>.bl Wr) (h++g)
 |[],pre,ag,h,_,_,_,_=>⟨[],by rw[Oy,Yr,Yr];rfl⟩
 |r::rs,pre,ag,h,e,hz,ha,hk=>by
  have hl:ag.length<sizeLine:=Ot (show ag.length<1001 by simp only[Os]at hz;lia) (by decide);have hc:C[pre.length]?=J r:=by rw[e];simp
  obtain⟨g1,e1⟩:=Znx H 2 N r.d h (Zp0 (hs r (by rw[e];simp)));obtain⟨g2,e2⟩:=ZmN H (N:=N) hs rs (pre++[r]) (ag++[.bl Wr]) (h++g1) (by rw[e];simp) (by simp only[OA,Os,List.length_nil]at *;lia) ((Old.app _).at ha) ((Old.app _).at hk);refine⟨g1++g2,?_⟩;rw[Os,Znf,ZC,if_pos ⟨rfl,hl⟩];show kz.bnd (kz.plain (ev (P.tbl (N+4)) _ [J (.int (pre.length:Int)),J (.ref aj),J (.ref kk)] h)) _=_;rw[Zw (U:=P.tbl (N+4)) e1 (Zb ((ZF (x:=.ref aj) (y:=.int (pre.length:Int)) rfl rfl).trans (ZbB ha hc)) (Zb ((ZF (x:=.ref kk) (y:=.int (pre.length:Int)) rfl rfl).trans (ZbB hk hc)) rfl))];show Zz M (.nm 0) _ _ (ZW ((pre.length+1:Nat):Int) rs.length) _ (ag++[.bl Wr]) (h++g1)=_;rw[show pre.length+1=(pre++[r]).length by simp,e2,Oz,Oz];rfl
def ZmO(t:T):(code t).length<=3*t.size+1:=by
 have:=Ce.Zai t [] Ws 0 1;rw[Ce.code,Zfh,units];simp only[Op,OI,OA,Os,List.length_nil]
 lia
def ZsU(e:h[i]?=J (.lst xs)):ZaJ GD .isi [.ref i,.ty "list"] h=.ok (.bl Wr) h:=by simp only[ZaJ,Zo6,ZpL,lstOf,e];rfl
def Zux(p:ev U a S h=.ok (.bl Wr) R)(q:ev U b S R=.ok (.bl Wr) h2)(r:ev U c S h2=.ok x h3):ev U (.ands (.cons a (.cons b (.cons c .nil)))) S h=.ok x h3:=by rw[Zj6,ZdN,p,Zr];show evAnd U _ S R=_;rw[ZdN,q,Zr];exact r
def Zse(H:Lw P)(zs:List Int)(hz:zs.length<=63):∃h',run P (250+1) (O "law") [.ro (zs.map .int)] []=.ok (.bl Wr) h':=by
 obtain⟨t,R,e1,ct,st,dt,_,_,zt⟩:=Gn.ZkH H.m (N:=249) (by lia) zs 0 [] (by lia);have nt:=ZcF t;obtain⟨h2,ck,e2,hk,_,_,_⟩:=Ce.ZlM H.c 244 t ct (by lia) R;have cl:=ZmO t;generalize D.ro (zs.map .int)=ro at *;rw[Zh H.law (by rfl)];have t3:tst (P.tbl 250) Zkj [J ro,J t.d,J (.ref ck),M,M,M,M,M,M,M,M,M] h2=.ok Ws (h2++[.lst ((code t).map λ_=>.bl Wr)]):=by
  have q1:tst (P.tbl 250) (.nt (.ex (.blt .isi (.cons (.var 2) (.cons (.cst (.ty "list")) .nil))))) [J ro,J t.d,J (.ref ck),M,M,M,M,M,M,M,M,M] h2=.ok Ws h2:=by rw[Zit,ZaH (ZcC (Zb rfl (Zb rfl rfl)) (ZsU hk))];rfl
  refine ZeZ q1 ?_;have ei:evi (P.tbl 250) (.pl (.var 2)) [J ro,J t.d,J (.ref ck),M,M,M,M,M,M,M,M,M] h2=.ok ⟨J (ck,(code t).map Rw.d),(code t).map Rw.d⟩ h2:=by show kz.ofO (ZV (.ref ck) h2) h2=_;simp[ZV,hk]
  rw[Zit,ZaH (ZcC (Zb (Zfn ei (Zj9 hk (code t) [] (by simp;lia))) rfl) (Zm1 (xs:=code t) (by simp)))];rfl
 have o3:Old h2 (h2++[.lst ((code t).map λ_=>.bl Wr)]):=Old.app _;generalize h2++[.lst ((code t).map λ_=>.bl Wr)]=h3 at *;have gb:=o3.at hk;have x4:xs1 (P.tbl 250) Zkq [J ro,J t.d,J (.ref ck),M,M,M,M,M,M,M,M,M] h3=.ok (.nx,[J ro,J t.d,J (.ref ck),J (.ref h3.length),M,M,M,M,M,M,M,M]) (h3++[.lst ((code t).map Rw.d)]):=Zo (i:=3) (ZcC (Zb rfl rfl) (by simp only[ZaJ,Zo4,seqOf,lstOf,gb,ZaS]));have g6:(h3++[DO.lst ((code t).map Rw.d)])[ck]?=J (.lst ((code t).map Rw.d)):=(Old.app _).at gb;have iW:(h3++[DO.lst ((code t).map Rw.d)])[h3.length]?=J (.lst ((code t).map Rw.d)):=by simp
 have lk:=Zj gb;generalize gW:h3.length=kk at *;have l4:(h3++[DO.lst ((code t).map Rw.d)]).length=kk+1:=by simp[gW]
 generalize h3++[DO.lst ((code t).map Rw.d)]=h4 at *;have x5:xs1 (P.tbl 250) Zkp [J ro,J t.d,J (.ref ck),J (.ref kk),M,M,M,M,M,M,M,M] h4=.ok (.nx,[J ro,J t.d,J (.ref ck),J (.ref kk),J (.ref h4.length),M,M,M,M,M,M,M]) (h4++[.dic []]):=rfl;have x6:∀{a:Nat}{h':Hd},run P 250 (O "_law_fits") [.ref ck,.int ((0:Nat):Int),.tup [t.d,.int ((0:Nat):Int)],.ref (h4.length+1),.bl Ws,.ref h4.length] (h4++[.dic [],.lst []])=.ok (.int (a:Int)) h'->xs1 (P.tbl 250) Zko [J ro,J t.d,J (.ref ck),J (.ref kk),J (.ref h4.length),M,M,M,M,M,M,M] (h4++[.dic []])=.ok (.nx,[J ro,J t.d,J (.ref ck),J (.ref kk),J (.ref h4.length),J (.int (a:Int)),M,M,M,M,M,M]) h':=λ{a h'} e=>by refine Zo (i:=5) (Zw e (Zb rfl (Zb rfl (Zb (ZX (Zb rfl (Zb rfl rfl)) (by simp)) (Zb (x:=.ref (h4.length+1)) (R:=h4++[.dic [],.lst []]) ?_ rfl)))));exact(Zel rfl (by simp)).trans (by simp)
 have cn:Cn (units t) ck h4.length (h4.length+1) [] (h4++[.dic [],.lst []]) []:=⟨(Old.app _).at g6,by simp,by simp,by lia,by lia⟩
 have lw:h4.length≠ck:=by have:=Zj g6;lia
 have hp:Plc (units t) 0 0 ((comp t [] Ws 0 1).1++[.fin]):=⟨_,rfl,λj x hx=>by simpa using hx⟩
 have hu:Uts (units t) 1 (comp t [] Ws 0 1).2:=λj u hu=>by rw[Nat.add_comm];simpa[units]using hu
 have z:off (units t) 0=0:=by simp[off]
 have hf:=hp.right.head;rw[Zm]at hf;have ll:(units t).length=nu t+1:=by rw[units,Os,ZE]
 cases ZaV H [] (h4.length+1) (by simp) t 250 Ws 0 1 0 0 (by lia) ct hp.left hu (h4++[.dic [],.lst []]) [] cn (by simp;lia) (λp hp=>by cases hp)with
 |mk h6 es e6 u6 w6 n6=>
 rw[z]at e6 hf;have wi:=Zaw t [] 0 1;have pn:Pn (units t) 1 (fns t [] 0 1) (units t).length:=by have:=ZbH (L:=units t) t [] Ws 0 0 1 ct hu;rw[ll,Nat.add_comm (nu t)];exact this
 have bd:∀f∈fns t [] 0 1,f.q+1+f.e.size<=t.size/\f.sc.length<=2*(f.q+1)/\dep f.e<=20:=λf h=>by
  have a:=wi.2 f h;have b:=ZbG t _ _ _ f h;have c:=ZaU t _ _ _ f h;simp only[List.length_nil]at b
  lia
 have pm:(es.map (·.1)).Perm ((([]:List Nat)++(fns t [] 0 1).map (λf=>f.q)).map λ(q:Nat)=>(YD (q:Int):Key)):=by rw[n6.keys,OB,List.map_map];exact .refl _
 have gZ:=u6.at cn.hk cn.n1;have iV:(h4++[DO.dic [],.lst []])[kk]?=J (.lst ((code t).map Rw.d)):=(Old.app _).at iW;have iU:=u6.at iV (by lia);have t7:tst (P.tbl 250) Zki [J ro,J t.d,J (.ref ck),J (.ref kk),J (.ref h4.length),J (.int ((0+(0+cnt t):Nat):Int)),M,M,M,M,M,M] h6=.ok Ws (h6++[.lst [Rw.fin.d]]++[.lst [Rw.fin.d]]):=ZeZ (lt0 (m:=0+(0+cnt t)) rfl) (ZiJ (p:=0+(0+cnt t)) gZ hf rfl rfl (ZX (Zb rfl rfl) (by simp)));have u7:Up h4.length h6 (h6++[.lst [Rw.fin.d]]++[.lst [Rw.fin.d]]):=Up.app.trans Up.app;have iH:Pd (units t) t.size (h6++[.lst [Rw.fin.d]]++[.lst [Rw.fin.d]]) h4.length es [] (fns t [] 0 1):=⟨by rw[Oz];exact(Old.app _).at w6,pm,.nil,nofun,wi.1,(n6.up u7).val wi.1,pn,bd⟩
 have gY:=u7.at gZ cn.n1;have iT:=u7.at iU (by lia);generalize h6++[.lst [Rw.fin.d]]++[.lst [Rw.fin.d]]=h7 at *;have hL:1000000<=P.L:=H.c.big;obtain⟨h8,d',p7,p8,p9,bV,e8,u8⟩:=Zpp (ro:=ro) (td:=t.d) (kk:=kk) H 250 (by decide) (by lia) st cn.n1 P.L [] _ h7 es M M M M (by simp;lia) iH gY;have gX:h8[ck]?=J (.lst ((code t).map Rw.d)):=u8.at gY cn.n1;have iS:=u8.at iT (by lia);have o1:off (units t) ([]:List Nat).length.succ=0+(0+cnt t)+1:=by show off (units t) (0+1)=_;rw[ZhF (u:=(comp t [] Ws 0 1).1++[.fin]) rfl,z,OA,Zm];simp
 have oL:off (units t) (units t).length=(code t).length:=by rw[Ce.code,Zfh,off,List.take_length]
 rw[oL]at e8;have i6:((code t).map Rw.d).length<sizeLine:=Ot (show _<1000 by rw[Ys];lia) (by decide);have fD:xs1 (P.tbl 250) Zif (vw ro t.d ck kk h4.length (code t).length d' p7 p8 p9 bV) h8=.ok (.nx,vw ro t.d ck kk h4.length (code t).length d' p7 p8 p9 bV) (h8.set ck (.lst ((code t).map Rw.d++[Rw.fin.d]))):=by refine Zad (d:=.non) (Zek (i:=ck) (ys:=(code t).map Rw.d) (xs:=[Rw.fin.d]) rfl gX (Zb (ZX (Zb rfl rfl) (by simp)) rfl) ?_);simp only[ZaP,Zef,Zmk,gX,i6,if_true]
 have gN:(h8.set ck (.lst ((code t).map Rw.d++[Rw.fin.d])))[kk]?=J (.lst ((code t).map Rw.d)):=by rw[Oc (by lia)];exact iS
 generalize h8.set ck (.lst ((code t).map Rw.d++[Rw.fin.d]))=h9 at *;obtain⟨bK,aj,jR,ha,_,_,old⟩:=Ce.ZlM H.c 244 t ct (by lia) h9;have cL:bK[kk]?=J (.lst ((code t).map Rw.d)):=(old kk (Zj gN)).trans gN;have rp:=ZdC (code t);obtain⟨g,ek⟩:=ZmN (N:=246) (C:=code t) H (Znm t) (code t) [] [] bK rfl (by simp;lia) ha cL;let v13:Ev:=[J ro,J t.d,J (.ref ck),J (.ref kk),J (.ref h4.length),J (.int ((code t).length:Int)),J (.int (d':Int)),p7,p8,p9,bV,J (.ref aj)]
 have el:ev (P.tbl 250) (.blt .len (.cons (.var 3) .nil)) v13 bK=.ok (.int ((code t).length:Int)) bK:=(ZcC (Zb rfl rfl) (Zgd cL)).trans (by rw[Ys]);have iy:ZaQ ((code t).length:Int)=Wr:=by simp[ZaQ];lia
 have ei:evi (P.tbl 250) (.rng (.blt .len (.cons (.var 3) .nil))) v13 bK=.ok ⟨M,ZW 0 (code t).length⟩ bK:=by rw[ZoB,el,Zr];simp only[iy,if_true,Int.toNat_natCast]
 have ip:xs1 (P.tbl 250) Zid v13 bK=.ok (.rt (.bl Wr),v13) (bK++g++[.lst ((code t).map λ_=>.bl Wr)]):=ZA (Zux ((Zv (x:=.int ((code t).length:Int)) rfl el).trans (by rw[ZdG,Zbt,decide_eq_true rfl];rfl)) ((Zv (x:=.ref aj) (y:=.ref kk) (R:=bK) (h2:=bK) rfl rfl).trans ((ZdG (GD:=P.GD)).trans (eqL (n:=false) rp.1 (OE rp.2 (by decide)) ha cL))) (ZcC (Zb (Zfn ei ek) rfl) (Zm1 (xs:=code t) (by simp))));have x1:xs1 (P.tbl 250) Zks [J ro,M,M,M,M,M,M,M,M,M,M,M] []=.ok (.nx,[J ro,J t.d,M,M,M,M,M,M,M,M,M,M]) R:=Zo (Zw e1 rfl);have x2:xs1 (P.tbl 250) Zkr [J ro,J t.d,M,M,M,M,M,M,M,M,M,M] R=.ok (.nx,[J ro,J t.d,J (.ref ck),M,M,M,M,M,M,M,M,M]) h2:=Zo (Zw e2 rfl);have cE:xs1 (P.tbl 250) Zig (vw ro t.d ck kk h4.length (0+(0+cnt t)+1) 0 M M M M) h7=.ok (.nx,vw ro t.d ck kk h4.length (code t).length d' p7 p8 p9 bV) h8:=by rw[<-o1];exact e8
 have iq:xs1 (P.tbl 250) Zie (vw ro t.d ck kk h4.length (code t).length d' p7 p8 p9 bV) h9=.ok (.nx,v13) bK:=Zo (i:=11) (Zw jR rfl);have x8:xs1 (P.tbl 250) Zkn [J ro,J t.d,J (.ref ck),J (.ref kk),J (.ref h4.length),J (.int ((0+(0+cnt t):Nat):Int)),M,M,M,M,M,M] h7=.ok (.nx,[J ro,J t.d,J (.ref ck),J (.ref kk),J (.ref h4.length),J (.int ((0+(0+cnt t)+1:Nat):Int)),M,M,M,M,M,M]) h7:=Zo (i:=5) ((Ze (x:=.int ((0+(0+cnt t):Nat):Int)) rfl rfl).trans ZZ);exact⟨_,congrArg Zd ((Za x1).trans ((Za x2).trans ((Za ((Zg t3).trans rfl)).trans ((Za x4).trans ((Za x5).trans ((Za (x6 e6)).trans ((Za ((Zg t7).trans rfl)).trans ((Za x8).trans ((Za (ρ1:=vw ro t.d ck kk h4.length (0+(0+cnt t)+1) 0 M M M M) (R:=h7) rfl).trans ((Za cE).trans ((Za fD).trans ((Za iq).trans (Zc ip)))))))))))))⟩
end
end K52L
section
set_option maxHeartbeats 4000000
namespace K52
open PySem L2 IV PyProof.Rows
def ZM:Fd:=fd_ 6 ["_law_wish","_law_rest","_law_scope","_law_state","_law_names_here","_law_room","_law_x","_law_f","_law_inner_here","_law_again"] Gn.Zcl
noncomputable def cG:List (Str×D):=[(O "LEADING",(.tup [(.str (O "unless")),(.str (O "jump"))])),(O "FORMS",.kd (O "FORMS"))]
noncomputable def cD:List (Str×List (Key×D)):=[(O "FORMS",[(.inr (O "fn"),(.tup [.int 1,.int 1])),(.inr (O "rec"),(.tup [.int 2,.int 1])),(.inr (O "call"),(.tup [.int 0,.int 2])),(.inr (O "if"),(.tup [.int 0,.int 3])),(.inr (O "+"),(.tup [.int 0,.int 2])),(.inr (O "-"),(.tup [.int 0,.int 2])),(.inr (O "*"),(.tup [.int 0,.int 2])),(.inr (O "<"),(.tup [.int 0,.int 2]))])]
noncomputable def dl:List (Str×Fd×Nat):=[(O "bound_names",Ce.ZcO,2),(O "parts_of",Ce.ZbI,3),(O "count_rows",Ce.Zdj,6),(O "pieces_of",Ce.Zd1,7),(O "first_rows",Ce.Zdi,10),(O "numbered",Ce.Zfi,11),(O "code_of",Ce.Zgj,12),(O "_law_whole",K52L.Zd2,14),(O "_law_mixed",Gn.Zb9,15),(O "_law_next",Gn.Zfj,16),(O "_law_names",Gn.Zb8,17),(O "_law_there",Gn.Zb7,18),(O "_law_plain",Gn.Zd3,19),(O "_law_function",ZM,20),(O "_law_number",Gn.Zdg,21),(O "_law_any",Gn.Zcy,22),(O "_law_width",Gn.Zbb,23),(O "_law_deep",Gn.ZbJ,24),(O "_law_program",Gn.ZcM,25),(O "_law_inner",K52L.Zd4,26),(O "_law_near",K52L.Zfk,27),(O "_law_closes",K52L.Zdh,28),(O "_law_if_fits",K52L.ZcN,29),(O "_law_fits",K52L.Zfl,30),(O "_law_alike",K52L.Zd5,31),(O "law",K52L.ZhZ,32)]
noncomputable def tb:List (Str×Fd):=dl.map λp=>(p.1,p.2.1)
noncomputable def mo1:List Ml:=[(O "add_row",O "Unit.add_row",Ce.Zan,8,1)]
noncomputable def mo2:List Ml:=[(O "wait_for",O "Coder.wait_for",Ce.Zbv,9,1),(O "begin_unit",O "Coder.begin_unit",Ce.Za2,9,2),(O "begin_function",O "Coder.begin_function",Ce.Zao,9,3),(O "do_part",O "Coder.do_part",Ce.ZbR,9,4),(O "do_all",O "Coder.do_all",Ce.Zca,9,5)]
def ms:List (Str×Fd):=[(mnm (O "Unit") (O "__init__"),Ce.Z7),(mnm (O "Coder") (O "__init__"),Ce.Z0)]++mo1.map (λp=>(mnm (O "Unit") p.1,p.2.2.1))++mo2.map (λp=>(mnm (O "Coder") p.1,p.2.2.1))
def pg:Pg:=⟨tb,λx=>cG.lookup x,λx=>cD.lookup x,1000000,ms⟩
noncomputable def kl:Kl:=⟨[O "Unit",O "Coder"],[O "around",O "rows",O "units",O "waiting"],mo1.map (λp=>(O "Unit",p.1))++mo2.map (λp=>(O "Coder",p.1)),[O "Unit",O "Coder"],[],[]⟩
abbrev ZhZ:Fd:=K52L.ZhZ
noncomputable def top(i:Nat):Stmt:=PySem.Challenge.pw_samestride_k52_code_of_functions.main.body.getD i (.Pass ⟨0,0,0,0⟩)
def mt(i j:Nat):Stmt:=inClass (top i) j
noncomputable def fs:List Str:=tb.map (·.1)
local macro_rules|`(tactic| wtm_at "al")=>`(tactic| repeat' first|exact trivial|refine' And.intro ?_ ?_)
local macro_rules|`(tactic| wtm_at "chk")=>`(tactic| exact⟨by constructor<;>decide +kernel,λ_ _ _ _ _ _ us hl=>by
 first
 |(have e:=ZrQ (show us.length=0 from hl);subst e;rfl)
 |(obtain⟨a0,e⟩:=ZrP (show us.length=1 from hl);subst e;rfl)
 |(obtain⟨a0,a1,e⟩:=ZrO (show us.length=2 from hl);subst e;rfl)
 |(obtain⟨a0,a1,a2,e⟩:=ZrN (show us.length=3 from hl);subst e;rfl)
 |(obtain⟨a0,a1,a2,a3,e⟩:=ZrM (show us.length=4 from hl);subst e;rfl)
 |(obtain⟨a0,a1,a2,a3,a4,e⟩:=ZrL (show us.length=5 from hl);subst e;rfl)
 |(obtain⟨a0,a1,a2,a3,a4,a5,e⟩:=Zty (show us.length=6 from hl);subst e;rfl)
 |(obtain⟨a0,a1,a2,a3,a4,a5,a6,e⟩:=us_7 (show us.length=7 from hl);subst e;rfl),by decide +kernel⟩)
def kd:All (λp:Str×Fd×Nat=>Chk kl fs p.1 p.1 p.2.1 (top p.2.2)) dl:=by
 wtm_at "al"
 all_goals wtm_at "chk"
def km1:All (λp:Ml=>Chk kl fs p.1 p.2.1 p.2.2.1 (mt p.2.2.2.1 p.2.2.2.2)) mo1:=by
 wtm_at "al"
 all_goals wtm_at "chk"
def kk1:All (λp:Ml=>pg.look (mnm (O "Unit") p.1)=J p.2.2.1) mo1:=by
 wtm_at "al"
 all_goals kernel_rfl
def ki1:Chk kl fs (O "__init__") (O "Unit.__init__") Ce.Z7 (mt 8 0):=by wtm_at "chk"
def km2:All (λp:Ml=>Chk kl fs p.1 p.2.1 p.2.2.1 (mt p.2.2.2.1 p.2.2.2.2)) mo2:=by
 wtm_at "al"
 all_goals wtm_at "chk"
def kk2:All (λp:Ml=>pg.look (mnm (O "Coder") p.1)=J p.2.2.1) mo2:=by
 wtm_at "al"
 all_goals kernel_rfl
def ki2:Chk kl fs (O "__init__") (O "Coder.__init__") Ce.Z0 (mt 9 0):=by wtm_at "chk"
end K52
end
namespace K52
open PySem L2 IV
def ZqW:pg.tb.lookup (O "law")=J ZhZ:=by kernel_rfl
def Zra:Gn.Alk pg (O "_law_function") Gn.ZM:=⟨ZM.ps,ZM.N,rfl,rfl,by kernel_rfl⟩
def mkr:Gn.Mkr pg:=⟨by kernel_rfl,by kernel_rfl,by kernel_rfl,by kernel_rfl,by kernel_rfl,Zra,.same (by kernel_rfl),.same (by kernel_rfl),by kernel_rfl,by kernel_rfl,.same (by kernel_rfl)⟩
def cof:Ce.Cof pg:=by
 constructor
 all_goals (first|kernel_rfl|decide)
def lw:K52L.Lw pg:=by
 constructor;exact mkr;exact cof
 all_goals kernel_rfl
def runs:∀ns:List Int,ns.length<=63->∃h',run pg (250+1) (O "law") [.ro (ns.map .int)] []=.ok (.bl Wr) h':=λns hl=>K52L.Zse lw ns hl
end K52
section
set_option maxHeartbeats 4000000
namespace K52
open PySem L2 IV PyProof.Rows
def tp2{K:Yk}(h:K.lookup a=J ⟨.type "tuple",od,.seq #[.int x t,.int y u] n,sl⟩):RD ⟨K,mg⟩ H B (.tup [.int x,.int y]) (.ref a):=.tup (Zpi (vs:=[.int x,.int y]) h (by show 2<=sizeLine;decide) (.cons Zhw (.cons Zhw .nil))) (.cons (.int _) (.cons (.int _) .nil))
theorem md{Pr:Yh}{w:Yg}{K:Yk}{h:YF}{mg:Str->Option Yj}(X:K.In h)(G:h.Ns Yd mg)
   (fE:Zbp K=Wr)
   (dd:All (λp:Str×Fd×Nat=>ZrC K p.1 (top p.2.2)) dl)
   (dF:Yl K Yd (O "Unit")=J (J (.ref ca1))) (eQ:Cls K ca1)
   (n1:All (λf=>YI K (.ref ca1) f=J M) kl.ats)
   (fA:PySem.W.makesIn K ca1=Wr) (fB:Wa K (.ref ca1)=Wr)
   (i1:Zjh K ca1 (O "__init__") (O "Unit.__init__") (mt 8 0))
   (u1:All (λp:Ml=>Zjh K ca1 p.1 p.2.1 (mt p.2.2.2.1 p.2.2.2.2)) mo1)
   (dE:Yl K Yd (O "Coder")=J (J (.ref ca2))) (eP:Cls K ca2)
   (n2:All (λf=>YI K (.ref ca2) f=J M) kl.ats)
   (fu:PySem.W.makesIn K ca2=Wr) (fv:Wa K (.ref ca2)=Wr)
   (i2:Zjh K ca2 (O "__init__") (O "Coder.__init__") (mt 9 0))
   (u2:All (λp:Ml=>Zjh K ca2 p.1 p.2.1 (mt p.2.2.2.1 p.2.2.2.2)) mo2)
   (zz:All (λx:Str=>Yl K Yd x=J M) Zkl)
   (dj:K.lookup q101=J ⟨.type "tuple",r102,.seq #[.str (O "unless") t106,.str (O "jump") t107] n103,v104⟩)
   (dq:Yl K Yd (O "LEADING")=J (J (.ref q101)))
   (dh:K.lookup q116=J ⟨.type "tuple",r117,.seq #[.int 1 t121,.int 1 t122] n118,v119⟩)
   (dg:K.lookup q125=J ⟨.type "tuple",r126,.seq #[.int 2 t130,.int 1 t131] n127,v128⟩)
   (df:K.lookup q134=J ⟨.type "tuple",r135,.seq #[.int 0 t139,.int 2 t140] n136,v137⟩)
   (de:K.lookup q143=J ⟨.type "tuple",r144,.seq #[.int 0 t148,.int 3 t149] n145,v146⟩)
   (db:K.lookup q152=J ⟨.type "tuple",r153,.seq #[.int 0 t157,.int 2 t158] n154,v155⟩)
   (c9:K.lookup q161=J ⟨.type "tuple",r162,.seq #[.int 0 t166,.int 2 t167] n163,v164⟩)
   (c8:K.lookup q170=J ⟨.type "tuple",r171,.seq #[.int 0 t175,.int 2 t176] n172,v173⟩)
   (cZ:K.lookup q179=J ⟨.type "tuple",r180,.seq #[.int 0 t184,.int 2 t185] n181,v182⟩)
   (bM:Yl K Yd (O "FORMS")=J (J (.ref q109)))
   (di:K.lookup q109=J ⟨.type "dict",M,.dict #[⟨j114,.str (O "fn") t115,.ref q116⟩,⟨j123,.str (O "rec") t124,.ref q125⟩,⟨j132,.str (O "call") t133,.ref q134⟩,⟨j141,.str (O "if") t142,.ref q143⟩,⟨j150,.str (O "+") t151,.ref q152⟩,⟨j159,.str (O "-") t160,.ref q161⟩,⟨j168,.str (O "*") t169,.ref q170⟩,⟨j177,.str (O "<") t178,.ref q179⟩] e110,#[]⟩)
   (cC:j114=hashStr w (O "fn"))
   (cB:j123=hashStr w (O "rec"))
   (cA:j132=hashStr w (O "call"))
   (cz:j141=hashStr w (O "if"))
   (cy:j150=hashStr w (O "+"))
   (cx:j159=hashStr w (O "-"))
   (cv:j168=hashStr w (O "*"))
   (cu:j177=hashStr w (O "<"))
   (cF:(q109==Ye)=Ws):Md Pr w K mg pg kl:=by
 have b8:∃ a ai,mg (O "FORMS")=J (.ref a)/\DkK Pr w K a ai/\∀ H B,RKs ⟨K,mg⟩ H B (cD.lookup (O "FORMS") |>.getD []) ai:=by
   refine⟨q109,[(YC (O "fn"),.ref q116),(YC (O "rec"),.ref q125),(YC (O "call"),.ref q134),(YC (O "if"),.ref q143),(YC (O "+"),.ref q152),(YC (O "-"),.ref q161),(YC (O "*"),.ref q170),(YC (O "<"),.ref q179)],YN X G bM,⟨_,_,_,[(YC (O "fn"),.ref q116),(YC (O "rec"),.ref q125),(YC (O "call"),.ref q134),(YC (O "if"),.ref q143),(YC (O "+"),.ref q152),(YC (O "-"),.ref q161),(YC (O "*"),.ref q170),(YC (O "<"),.ref q179)],di,⟨rfl,rfl,rfl⟩,rfl,?_,(.cons (Zu _ t115) rfl (.cons (Zu _ t124) rfl (.cons (Zu _ t133) rfl (.cons (Zu _ t142) rfl (.cons (Zu _ t151) rfl (.cons (Zu _ t160) rfl (.cons (Zu _ t169) rfl (.cons (Zu _ t178) rfl .nil)))))))),(by show ([YC (O "fn"),YC (O "rec"),YC (O "call"),YC (O "if"),YC (O "+"),YC (O "-"),YC (O "*"),YC (O "<")]:List Key).Nodup;decide +kernel),(.cons ⟨rfl,Zaj⟩ (.cons ⟨rfl,Zaj⟩ (.cons ⟨rfl,Zaj⟩ (.cons ⟨rfl,Zaj⟩ (.cons ⟨rfl,Zaj⟩ (.cons ⟨rfl,Zaj⟩ (.cons ⟨rfl,Zaj⟩ (.cons ⟨rfl,Zaj⟩ .nil)))))))),(by show 8<=sizeLine;decide),cF⟩,λ_ _=>(.cons (tp2 dh) (.cons (tp2 dg) (.cons (tp2 df) (.cons (tp2 de) (.cons (tp2 db) (.cons (tp2 c9) (.cons (tp2 c8) (.cons (tp2 cZ) .nil))))))))⟩;exact(by
       intro e he;simp only [List.mem_toArray,O2,List.not_mem_nil,or_false] at he;rcases he with rfl|rfl|rfl|rfl|rfl|rfl|rfl|rfl
       . exact⟨YC (O "fn"),Zu (O "fn") t115,cC⟩
       . exact⟨YC (O "rec"),Zu (O "rec") t124,cB⟩
       . exact⟨YC (O "call"),Zu (O "call") t133,cA⟩
       . exact⟨YC (O "if"),Zu (O "if") t142,cz⟩
       . exact⟨YC (O "+"),Zu (O "+") t151,cy⟩
       . exact⟨YC (O "-"),Zu (O "-") t160,cx⟩
       . exact⟨YC (O "*"),Zu (O "*") t169,cv⟩
       . exact⟨YC (O "<"),Zu (O "<") t178,cu⟩
     )
 refine⟨fE,λx kvs hx=>?_,λx d hx=>?_,?_,λx fd hx=>?_,?_,?_,?_,?_,?_⟩
 . have hm:(x,kvs)∈cD:=lookup_mem hx;have e:(x,kvs)=(O "FORMS",(cD.lookup (O "FORMS") |>.getD [])):=by
     simp only [cD,O2,List.not_mem_nil,or_false] at hm;exact hm
   cases e;exact b8
 . have hm:(x,d)∈cG:=lookup_mem hx;have all:All (λp:Str×D=>∃ v u,mg p.1=J u/\RelV v u/\∀ H B,RD ⟨K,mg⟩ H B p.2 v) cG:=⟨⟨.ref q101,_,YN X G dq,Zaj,λ_ _=>(.tup (Zpi (vs:=[(.str (O "unless")),(.str (O "jump"))]) dj (by show 2<=sizeLine;decide) (.cons Zhv (.cons Zhv .nil))) (.cons (.str _ (by decide +kernel)) (.cons (.str _ (by decide +kernel)) .nil)))⟩,⟨.ref q109,_,YN X G bM,rfl,λ_ _=>.kd (YN X G bM)⟩,trivial⟩;exact all.mem _ hm
 . exact(ZhH X G zz).mem
 . exact(Zj7 X G dd kd).mem _ (lookup_mem hx)
 . have all:All (λC=>∃ a,mg C=J (.ref a)/\Cls K a/\∀ f∈kl.ats,Za9 K a f) kl.cs:=⟨⟨ca1,YN X G dF,eQ,n1.mem⟩,⟨ca2,YN X G dE,eP,n2.mem⟩,trivial⟩
   exact all.mem
 . exact(show All _ kl.ms from((ZgK (P:=pg) X G dF eQ u1 km1 kk1).app (ZgK (P:=pg) X G dE eP u2 km2 kk2))).mem
 . have all:All (λC:Str=>∃ a f aq fd st q,mg C=J (.ref a)/\Mk K a f/\pg.look (mnm C (O "__init__"))=J fd/\BodyOk K kl (pg.tb.map (·.1)) (O "__init__") q fd st f aq) kl.is:=⟨Zmh X G dF fA fB i1 ki1 (by kernel_rfl),Zmh X G dE fu fv i2 ki2 (by kernel_rfl),trivial⟩
   exact all.mem
 . have all:All (λC:Str=>∃ a,mg C=J (.ref a)/\XOk K a) kl.xs:=trivial;exact all.mem
 . have all:All (λp:Str×Str=>∃ a b,mg p.1=J (.ref a)/\mg p.2=J (.ref b)/\XAs K a b) kl.xa:=trivial;exact all.mem
end K52
end
section
set_option maxHeartbeats 4000000
open PySem PySem.W PyProof.Rows
local macro_rules|`(tactic| wtm_at "al")=>`(tactic| repeat' first|exact trivial|refine' And.intro ?_ ?_)
local macro_rules|`(tactic| wtm_at "dg")=>`(tactic| (refine' ⟨_,_,?na,L2.ZmC ?l ?c ?k⟩;(case na=>k_is);(case l=>k_is);(case c=>k_is);(case k=>k_is)))
local macro_rules|`(tactic| wtm_at "mg")=>`(tactic| (refine' ⟨_,_,?na,?f,?k,L2.ZmC ?l ?c ?kk⟩;(case na=>k_is);(case f=>k_is);(case l=>k_is);(case c=>k_is);(case k=>k_is);(case kk=>k_is)))
set_option maxRecDepth 100000 in
set_option maxHeartbeats 0 in
theorem PySem.Challenge.cw_samestride_k52_code_of_functions_holds : PySem.Challenge.rw_samestride_k52_code_of_functions.Holds := by
 refine K52hd ?_
 k_fill
 refine IV.ZrK (l:=PySem.Challenge.rw_samestride_k52_code_of_functions) (P:=K52.pg) 250 rfl rfl rfl ⟨rfl,by decide,by decide,rfl⟩ (kl:=K52.kl) (λw h Y=>PySem.W.kIn_of Y) K52.ZqW rfl K52.runs ?MM0
 case MM0=>
  intro w mg h KX G;refine' K52.md KX G ?fE ?dd ?dF ?eQ ?n1 ?fA ?fB ?i1 ?u1 ?dE ?eP ?n2 ?fu ?fv ?i2 ?u2 ?zz ?dj ?dq ?dh ?dg ?df ?de ?db ?c9 ?c8 ?cZ ?bM ?di ?cC ?cB ?cA ?cz ?cy ?cx ?cv ?cu ?cF
  (case fE=>(first|k_is|kernel_rfl|decide +kernel))
  (case dF=>k_is)
  (case eQ=>(refine⟨?_,?_,?_,?_⟩<;>k_is))
  (case n1=>(wtm_at "al";all_goals (dsimp only;k_is)))
  (case fA|fB=>k_is)
  (case i1=>wtm_at "mg")
  (case u1=>(wtm_at "al";all_goals wtm_at "mg"))
  (case dE=>k_is)
  (case eP=>(refine⟨?_,?_,?_,?_⟩<;>k_is))
  (case n2=>(wtm_at "al";all_goals (dsimp only;k_is)))
  (case fu|fv=>k_is)
  (case i2=>wtm_at "mg")
  (case u2=>(wtm_at "al";all_goals wtm_at "mg"))
  (case dd=>(wtm_at "al";all_goals wtm_at "dg"))
  (case zz=>(wtm_at "al";all_goals (dsimp only;k_is)))
  (case dq|dj=>k_is)
  (case bM|di=>k_is)
  (case dh|dg=>k_is)
  (case df|de=>k_is)
  (case db|c9=>k_is)
  (case c8|cZ=>k_is)
  (case cC=>(first|rfl|k_is|fail))
  (case cB=>(first|rfl|k_is|fail))
  (case cA=>(first|rfl|k_is|fail))
  (case cz=>(first|rfl|k_is|fail))
  (case cy=>(first|rfl|k_is|fail))
  (case cx=>(first|rfl|k_is|fail))
  (case cv=>(first|rfl|k_is|fail))
  (case cu=>(first|rfl|k_is|fail))
  (case cF=>rfl)
end
