import PyProof.Rows.All
import Wide.All
import OpenK.AllK
import Wide.FinOn
import PyProof.EqAt
import PyProof.EqKinds
import PyProof.TupleCall
import Lean
import PySem.Challenge.RW_samestride_k12_put_in
set_option Elab.async false
set_option linter.all false
set_option maxRecDepth 100000
open PySem.Str renaming ofString->O
open Bool renaming and_eq_true->Oa
open List renaming getElem?_eq_some_iff->Ob
open List renaming getElem?_set_ne->Oc
open PySem.Heap renaming get?_push_of_some->Od
open List renaming getElem?_append_left->Oe
open List renaming size_toArray->Of
open List renaming getElem?_eq_getElem->Og
open List renaming mem_cons_of_mem->Oh
open List renaming mem_cons_self->Oi
open PySem.Heap renaming get?_push_size->Oj
open List renaming mem_of_getElem?->O1
open List renaming getElem?_set_self->Ol
open List renaming getElem?_append_right->Om
open List renaming getElem?_map->On
open Option renaming map_eq_some_iff->Oo
open List renaming map_cons->Op
open Nat renaming le_refl->Oq
open List renaming mem_cons->O2
open List renaming length_cons->Os
open Nat renaming lt_of_lt_of_le->Ot
open Nat renaming ne_of_lt->Ou
open List renaming mem_append_right->Ov
open Bool renaming false_ne_true->Ow
open List renaming mem_singleton->Ox
open List renaming map_nil->Oy
open List renaming append_assoc->Oz
open List renaming length_append->OA
open List renaming nil_append->OB
open List renaming all_eq_true->OC
open List renaming mem_append->OD
open Nat renaming le_trans->OE
open List renaming lookup_cons->OF
open Bool renaming false_eq_true->OG
open Nat renaming lt_succ_self->OH
open List renaming sum_cons->OI
open List renaming getElem?_cons_zero->OJ
open List renaming getElem?_cons_succ->O0
set_option genSizeOf false
section
open PySem PySem.W PyProof.Rows
set_option maxHeartbeats 0
namespace PySem.W.Fast
def tw6847129362051990237:=Nat
def tw15403075873790896447:=Nat
def tw17851791872516923128:=Nat
def tw3284588688288277494:=Nat
def tw13714079312706868475:=Nat
def tw17376826908061491986:=Nat
def tw9451241951381128131:=Nat
def tw4978262711044322718:=Nat
def tw12899771530101565212:=Nat
def tw658663216531331651:=Nat
def tw2278272060588600975:=Nat
def tw15778332803179418848:=Nat
def tw6183910240045984261:=Nat
def tw17895357827038854503:=Nat
def tw10946320457206422472:=Nat
def tw2021968814803790567:=Nat
def tw15415743711210945999:=Nat
def tw155556938559078149:=Nat
def tw11067626402383189022:=Nat
def tw5151784696905483702:=Nat
def tw18106568031580715432:=Nat
def tw669219537732014754:=Nat
def tw13219421457718422525:=Nat
def tw9907088426178054215:=Nat
def tw12632373050471325457:=Nat
def tw14241597918433352361:=Nat
def tw11416125356585920868:=Nat
def tw1329895645217212689:=Nat
def tw10503580379659421852:=Nat
def tw1760572971189112552:=Nat
def tw16477673962133870699:=Nat
def tw8910486894976506912:=Nat
def tw8992298348938424624:=Nat
def tw11819659100151547100:=Nat
def tw2562556752234665058:=Nat
def tw17024452010169648155:=Nat
def tw10109402091327384654:=Nat
def tw10141611347450124104:=Nat
def tw5552604165612428776:=Nat
def tw5979708260492735850:=Nat
def tw9562078440096889654:=Nat
def tw14647064585085360071:=Nat
def tw9847352321640031745:=Nat
def tw11532414735100524433:=Nat
def tw11168784748330599400:=Nat
def tw9002761603898449766:=Nat
def tw8343871310692694457:=Nat
def tw3161238639762981448:=Nat
def tw7755950871114800247:=Nat
def tw15786358665524586689:=Nat
def tw17726763648274391353:=Nat
def tw6510394376517699366:=Nat
def tw18431880996526724700:=Nat
def tw353606168704669278:=Nat
def tw8564325269620201548:=Nat
def tw10669207333180434453:=Nat
def tw3715309552195628571:=Nat
def tw4557352864226606707:=Nat
def tw17914430387862890830:=Nat
def tw15523264219022366666:=Nat
def tw6136551672175873092:=Nat
def tw1863706594244656489:=Nat
def tw7728521788754652378:=Nat
def tw3614377471414992897:=Nat
def tw14079020773503825596:=Nat
def tw11759131095158067948:=Nat
def tw690857515729923085:=Nat
def tw11971285178639157986:=Nat
def tw8467918536069151016:=Nat
def tw12838968118781124596:=Nat
def tw12284810585474610370:=Nat
def tw16421127385773403595:=Nat
def tw12818252586895380439:=Nat
def tw7436484545611539570:=Nat
def tw3743499199603217371:=Nat
def tw5991836831856585191:=Nat
def tw1013307354500722988:=Nat
def tw6288095527126952689:=Nat
def tw8908046403843844439:=Nat
def tw6356070632191817756:=Nat
def tw13906164913533806814:=Nat
def tw15973270844034910976:=Nat
def tw4106913114709298001:=Nat
def tw36581160596163990:=Nat
def tw1798180672917023187:=Nat
def tw7505692320461323606:=Nat
def tw13006471757391653401:=Nat
def tw11221986437027079534:=Nat
def tw2954087874986882822:=Nat
def tw6769084340920777552:=Nat
def tw3592553327867865068:=Nat
def tw15829284671417023728:=Nat
def tw4196819650186053096:=Nat
def tw7365226490230794555:=Nat
def tw1897889943088292504:=Nat
def tw15679757021231055398:=Nat
def tw11364847087322360793:=Nat
def tw202857423580631196:=Nat
def tw2911791653777797064:=Nat
def tw18398130467772058527:=Nat
def tw14193768464974856998:=Nat
def tw6830684296875555310:=Nat
def tw11265445849191159642:=Nat
def tw136371688577436922:=Nat
end PySem.W.Fast
open_top K12hd for PySem.Challenge.rw_samestride_k12_put_in
end
section
namespace L2
open PySem PySem.Spec PyProof.Rows
noncomputable abbrev Key:=Sum Int Str
noncomputable def ZeE:Key->Value->Bool
 | .inl k,v=>Value.isInt k v
 | .inr x,v=>Value.isStrOf x v
noncomputable def ZuN(w:World):Key->Int
 | .inl k=>hashInt k
 | .inr x=>hashStr w x
theorem ZE:∀ {k:Key}{v:Value},ZeE k v=true->(∃ i t,k=Sum.inl i/\v=Value.int i t)\/(∃ x t,k=Sum.inr x/\v=Value.str x t)
 | .inl i,v,h=>by
   obtain ⟨t,e⟩:=Value.isInt_shape (k:=i) (v:=v) h;exact .inl ⟨i,t,rfl,e⟩
 | .inr x,v,h=>by
   obtain ⟨t,e⟩:=Value.isStrOf_shape (x:=x) (v:=v) h;exact .inr ⟨x,t,rfl,e⟩
theorem ZkH(i:Int)(t:Tok):ZeE (.inl i) (.int i t)=true:=by simp [ZeE,Value.isInt]
theorem Zs(x:Str)(t:Tok):ZeE (.inr x) (.str x t)=true:=by simp [ZeE,Value.isStrOf]
theorem Zrd(a b:Int):decide ((Sum.inl a:Key)=Sum.inl b)=(a==b):=by
 by_cases e:a=b
 . subst e;simp
 . have h:¬ (Sum.inl a:Key)=Sum.inl b:=fun q=>e (Sum.inl.inj q);rw [decide_eq_false h];exact (beq_eq_false_iff_ne.mpr e).symm
theorem Zra(a b:Str):decide ((Sum.inr a:Key)=Sum.inr b)=decide (a=b):=by
 by_cases e:a=b
 . subst e;simp
 . have h:¬ (Sum.inr a:Key)=Sum.inr b:=fun q=>e (Sum.inr.inj q);rw [decide_eq_false h,decide_eq_false e]
theorem Zrc(a:Int)(b:Str):decide ((Sum.inl a:Key)=Sum.inr b)=false:=decide_eq_false (fun q=>nomatch q)
theorem Zrb(a:Str)(b:Int):decide ((Sum.inr a:Key)=Sum.inl b)=false:=decide_eq_false (fun q=>nomatch q)
noncomputable def Zz(prog:Program)(w:World):PySem.KeyKind prog w Key where
 is:=ZeE
 hash:=ZuN w
 inj:=fun v a b ha hb=>by
   rcases ZE ha with ⟨i,t,rfl,rfl⟩|⟨x,t,rfl,rfl⟩
   . rcases ZE hb with ⟨j,u,rfl,e⟩|⟨y,u,rfl,e⟩
     . injection e with e1 _;rw [e1]
     . exact nomatch e
   . rcases ZE hb with ⟨j,u,rfl,e⟩|⟨y,u,rfl,e⟩
     . exact nomatch e
     . injection e with e1 _;rw [e1]
 byValue:=fun k v h=>by
   rcases ZE h with ⟨i,t,rfl,rfl⟩|⟨x,t,rfl,rfl⟩<;>rfl
 pyHash:=fun hv h=>by
   rcases ZE hv with ⟨i,t,rfl,rfl⟩|⟨x,t,rfl,rfl⟩
   . exact wpAny_pyHash_int h
   . exact wpAny_pyHash_str h
 eqBool:=fun hu hv h=>by
   rcases ZE hu with ⟨i,t,rfl,rfl⟩|⟨x,t,rfl,rfl⟩
   . rcases ZE hv with ⟨j,u,rfl,rfl⟩|⟨y,u,rfl,rfl⟩
     . rw [Zrd] at h;exact wpAny_eqBool_int h
     . rw [Zrc] at h;exact SeqAt.EqAt.int_str i t y u _ _ _ _ h
   . rcases ZE hv with ⟨j,u,rfl,rfl⟩|⟨y,u,rfl,rfl⟩
     . rw [Zrb] at h;exact SeqAt.EqAt.str_int x t j u _ _ _ _ h
     . rw [Zra] at h;exact wpAny_eqBool_str h
 «strs»:=fun k x t v h=>by
   rcases ZE h with ⟨i,u,rfl,e⟩|⟨y,u,rfl,e⟩
   . exact nomatch e
   . injection e with e1 _;subst e1;cases v<;>rfl
theorem Zhc(prog:Program)(w:World)(i:Int)(t:Tok):(Zz prog w).is (.inl i) (.int i t)=true:=ZkH i t
theorem Zhb(prog:Program)(w:World)(x:Str)(t:Tok):(Zz prog w).is (.inr x) (.str x t)=true:=Zs x t
end L2
namespace L2
open PySem PySem.Spec PyProof.Rows
inductive V where
 | non|bl (b:Bool)|int (i:Int)|str (x:Str)|byt (b:Array UInt8)|flt (b:UInt64)|ref (a:Addr)|ty (n:String)
 deriving DecidableEq
noncomputable def RelV:V->Value->Prop
 | .non,u=>u=Value.none
 | .bl b,u=>u=Value.bool b
 | .int i,u=>∃ t,u=Value.int i t
 | .str x,u=>∃ t,u=Value.str x t
 | .byt b,u=>∃ t,u=Value.bytes b t
 | .flt b,u=>∃ t,u=Value.float b t
 | .ref a,u=>u=Value.ref a
 | .ty n,u=>u=Value.type n
noncomputable abbrev Zh:List V->List Value->Prop:=Paired RelV
theorem Zh.length(r:Zh xs us):xs.length=us.length:=Paired.length r
theorem Zh.get:∀ {xs:List V}{us:List Value}{i:Nat}{x:V},Zh xs us->xs[i]? = some x->∃ u,us[i]? = some u/\RelV x u
 | _,_,_,_,.nil,e=>by simp at e
 | _,_,0,_,.cons r _,e=>by simp at e;subst e;exact ⟨_,rfl,r⟩
 | _,_,i+1,x,.cons _ t,e=>by
   obtain ⟨u,h1,h2⟩:=Zh.get (i:=i) (x:=x) t (by simpa using e);exact ⟨u,by simpa using h1,h2⟩
theorem Zh.set(r:RelV x u):∀ {xs:List V}{us:List Value} (i:Nat),Zh xs us->Zh (xs.set i x) (us.set i u)
 | _,_,_,.nil=>.nil
 | _,_,0,.cons _ t=>.cons r t
 | _,_,i+1,.cons q t=>.cons q (Zh.set r i t)
theorem Zh.append:∀ {xs ys:List V}{us ws:List Value},Zh xs us->Zh ys ws->Zh (xs++ys) (us++ws)
 | _,_,_,_,.nil,s=>s
 | _,_,_,_,.cons r t,s=>.cons r (Zh.append t s)
theorem Zh.take:∀ {xs:List V}{us:List Value} (n:Nat),Zh xs us->Zh (xs.take n) (us.take n)
 | _,_,0,_=>.nil
 | _,_,_+1,.nil=>.nil
 | _,_,n+1,.cons r t=>.cons r (Zh.take n t)
theorem Zh.drop:∀ {xs:List V}{us:List Value} (n:Nat),Zh xs us->Zh (xs.drop n) (us.drop n)
 | _,_,0,r=>r
 | _,_,_+1,.nil=>.nil
 | _,_,n+1,.cons _ t=>Zh.drop n t
noncomputable def Zdp:Option V->Option Value->Prop
 | some v,some u=>RelV v u
 | none,none=>True
 | _,_=>False
noncomputable def KV:List (κ×V)->List (κ×Value)->Prop:=Paired fun (p:κ×V) (q:κ×Value)=>p.1=q.1/\RelV p.2 q.2
noncomputable def kV:Key->V
 | .inl i=>.int i
 | .inr x=>.str x
inductive HO where
 | lst (xs:List V)
 | tup (xs:List V)
 | dK (kvs:List (Key×V))|dT (kvs:List (List Key×V))
 | set (S_:Int->Bool) (n:Nat)
 | ins (C dx:Addr) (fs:List (Str×V))
 | own (x:Addr)
 | xd (fs:List (Str×V))
 | met (f x:Addr)
 | rng (lo hi:Int)
 | frz (o:Obj) (u:HO)
 | tbl (ps:Array Value)
 | ext (φ:Heap->Prop)
noncomputable abbrev Hp:=Addr->Option HO
noncomputable def upd(H:Hp)(a:Addr)(o:HO):Hp:=fun b=>if b=a then some o else H b
theorem Zd:upd H a o a=some o:=by unfold upd;rw [if_pos rfl]
theorem Ze(h:b≠a):upd H a o b=H b:=by unfold upd;rw [if_neg h]
theorem ZI{H:Hp}(h:H a=some o)(h':H b=none):a≠b:=by
 intro e;subst e;rw [h] at h';cases h'
section
variable (P:Program) (w:World)
noncomputable def ZaH (h:Heap) (a:Addr) (items:Array Value):Prop:=∃ o,h.get? a=some o/\o.cls=.type "tuple" /\ o.dict=none/\∃ n,o.data=.seq items n
theorem ZaH.tup(x:ZaH h a items):IsTup h a items:=let ⟨o,ho,hc,_,r⟩:=x;⟨o,ho,hc,r⟩
theorem ZaH.fresh (h:Heap) (items:Array Value):ZaH (h.push {cls:=.type "tuple",data:=.seq items}) h.objs.size items:=⟨_,Oj _ rfl,rfl,rfl,_,rfl⟩
noncomputable def ZO(H:Hp)(h:Heap)(a:Addr):HO->Prop
 | .lst xs=>xs.length<=sizeLine/\∃ (its:List Value) (n:Nat),Zh xs its/\h.get? a=some {cls:=.type "list",data:=.seq its.toArray n}
 | .tup xs=>xs.length<=sizeLine/\∃ its:List Value,Zh xs its/\ZaH h a its.toArray
 | .dK kvs=>kvs.length<=sizeLine/\(a==sysModules)=false/\∃ vs,KV kvs vs/\h.DictOf (Zz P w) a vs
 | .dT kvs=>kvs.length<=sizeLine/\(a==sysModules)=false/\∃ xs:List (List Key×Addr×Value),
     Paired (fun (p:List Key×V) (q:List Key×Addr×Value)=>p.1=q.1/\H q.2.1=some (.tup (p.1.map kV))/\RelV p.2 q.2.2) kvs xs /\
     ∃ o es ep,h.get? a=some o/\o.ExactDict/\o.data=.dict es ep/\es.toList=xs.map (entryOfKey (tupleKind (Zz P w)))/\(xs.map (·.1)).Nodup
 | .set S_ n=>h.SetOf (intKind P w) a S_ n
 | .ins C dx fs=>H dx=some (.own a)/\fs.length<=1000/\dx≠a/\h.get? a=some (PySem.W.instObj C dx) /\
     ∃ mA,h.Ns1 dx mA/\(∀ f,Zdp (fs.lookup f) (mA f))/\PySem.Within mA (fs.map (·.1))
 | .own _=>∃ o,h.get? a=some o
 | .xd fs=>∃ mA,h.Ns1 a mA/\∀ f,Zdp (fs.lookup f) (mA f)
 | .rng lo hi=>∃ t u v,h.get? a=some {cls:=.type "range",data:=.fields #[.int lo t,.int hi u,.int 1 v]}
 | .frz o u=>h.get? a=some o/\ZO H h a u
 | .tbl ps=>h.get? a=some {cls:=.none,data:=.fields ps}
 | .met f x=>h.get? a=some (PySem.W.methodObj (.ref f) (.ref x))
 | .ext φ=>φ h/\(∃ o,h.get? a=some o)/\∀ h1 h2:Heap,φ h1->(∀ o,h1.get? a=some o->h2.get? a=some o)->φ h2
noncomputable def HOk(H:Hp)(h:Heap):Prop:=∀ a o,H a=some o->ZO P w H h a o
end
section
variable {P:Program}{w:World}{H H':Hp}{h h':Heap}{a:Addr}{o:HO}
theorem ZO.lt(x:ZO P w H h a o):a<h.objs.size:=by
 cases o with
 | lst xs=>obtain ⟨_,_,_,_,e⟩:=x;exact Heap.lt_size e
 | tup xs=>obtain ⟨_,_,_,p⟩:=x;exact p.tup.lt
 | dK kvs=>obtain ⟨_,_,_,_,o,_,_,e,_⟩:=x;exact Heap.lt_size e
 | dT kvs=>obtain ⟨_,_,_,_,o,_,_,e,_⟩:=x;exact Heap.lt_size e
 | set S_ n=>obtain ⟨o,_,_,_,e,_⟩:=x;exact Heap.lt_size e
 | ins C dx fs=>obtain ⟨_,_,_,e,_⟩:=x;exact Heap.lt_size e
 | own y=>obtain ⟨_,e⟩:=x;exact Heap.lt_size e
 | xd fs=>obtain ⟨_,⟨_,_,_,e,_⟩,_⟩:=x;exact Heap.lt_size e
 | rng lo hi=>obtain ⟨_,_,_,e⟩:=x;exact Heap.lt_size e
 | frz ob u=>obtain ⟨e,_⟩:=x;exact Heap.lt_size e
 | tbl ps=>exact Heap.lt_size (show h.get? a=some _ from x)
 | met f y=>exact Heap.lt_size (show h.get? a=some _ from x)
 | ext φ=>obtain ⟨_,⟨_,e⟩,_⟩:=x;exact Heap.lt_size e
theorem Paired.mapP:∀ {l₁:List α}{l₂:List β},Paired F l₁ l₂->(∀ a b,F a b->G a b)->Paired G l₁ l₂
 | _,_,.nil,_=>.nil
 | _,_,.cons r t,f=>.cons (f _ _ r) (Paired.mapP t f)
theorem ZO.stay(x:ZO P w H h a o)(k:∀ b u,(b=a\/H b=some (.own a))->h.get? b=some u->h'.get? b=some u)
   (ho:∀ b,H b=some (.own a)->H' b=some (.own a)) (ht:∀ b xs,H b=some (.tup xs)->H' b=some (.tup xs)):ZO P w H' h' a o:=by
 induction o with
 | lst xs=>obtain ⟨z,its,n,r,e⟩:=x;exact ⟨z,its,n,r,k _ _ (.inl rfl) e⟩
 | tup xs=>obtain ⟨z,its,r,ob,e,c⟩:=x;exact ⟨z,its,r,ob,k _ _ (.inl rfl) e,c⟩
 | dK kvs=>obtain ⟨z,y,vs,r,ob,es,ep,e,c⟩:=x;exact ⟨z,y,vs,r,ob,es,ep,k _ _ (.inl rfl) e,c⟩
 | dT kvs =>
   obtain ⟨z,y,xs,r,ob,es,ep,e,c⟩:=x;exact ⟨z,y,xs,Paired.mapP r fun p q z=>⟨z.1,ht _ _ z.2.1,z.2.2⟩,ob,es,ep,k _ _ (.inl rfl) e,c⟩
 | set S_ n=>obtain ⟨ob,es,ep,t,e,c⟩:=x;exact ⟨ob,es,ep,t,k _ _ (.inl rfl) e,c⟩
 | ins C dx fs =>
   obtain ⟨d,z,ne,e,mA,⟨od,es,ep,e2,c⟩,r⟩:=x;exact ⟨ho _ d,z,ne,k _ _ (.inl rfl) e,mA,⟨od,es,ep,k _ _ (.inr d) e2,c⟩,r⟩
 | own y=>obtain ⟨ob,e⟩:=x;exact ⟨ob,k _ _ (.inl rfl) e⟩
 | xd fs=>obtain ⟨mA,⟨od,es,ep,e,c⟩,r⟩:=x;exact ⟨mA,⟨od,es,ep,k _ _ (.inl rfl) e,c⟩,r⟩
 | rng lo hi=>obtain ⟨t,u,v,e⟩:=x;exact ⟨t,u,v,k _ _ (.inl rfl) e⟩
 | frz ob u ih=>obtain ⟨e,q⟩:=x;exact ⟨k _ _ (.inl rfl) e,ih q⟩
 | tbl ps =>
   have e:h.get? a=some {cls:=.none,data:=.fields ps}:=x;show h'.get? a=some {cls:=.none,data:=.fields ps};exact k a _ (.inl rfl) e
 | met f y =>
   have e:h.get? a=some (PySem.W.methodObj (.ref f) (.ref y)):=x;show h'.get? a=some (PySem.W.methodObj (.ref f) (.ref y));exact k a _ (.inl rfl) e
 | ext φ=>obtain ⟨p,⟨o,e⟩,st⟩:=x;exact ⟨st _ _ p fun o q=>k _ _ (.inl rfl) q,⟨o,k _ _ (.inl rfl) e⟩,st⟩
theorem HOk.lt(x:HOk P w H h)(e:H a=some o):a<h.objs.size:=(x a o e).lt
theorem HOk.fresh(x:HOk P w H h)(e:h.objs.size<=a):H a=none:=by
 cases q:H a with
 | none=>rfl
 | some u=>exact absurd (Ot (x.lt q) e) (Nat.lt_irrefl _)
theorem HOk.kept(x:HOk P w H h)(k:∀ b u,h.get? b=some u->h'.get? b=some u):HOk P w H h':=fun a o e =>
 (x a o e).stay (fun b u _ q=>k b u q) (fun _ q=>q) fun _ _ q=>q
theorem HOk.laid(x:HOk P w H h)(k:∀ b u,h.get? b=some u->h'.get? b=some u)(hp:h.objs.size<=a)(new:ZO P w (upd H a o) h' a o):HOk P w (upd H a o) h':=fun b u e=>by
 have hn:=x.fresh hp;by_cases hb:b=a
 . subst hb;rw [Zd] at e;cases e;exact new
 . rw [Ze hb] at e;exact (x b u e).stay (fun c v _ q=>k c v q) (fun c q=>by rw [Ze (ZI q hn)];exact q) fun c xs q=>by rw [Ze (ZI q hn)];exact q
end
noncomputable def Rd(H:Hp)(a:Addr)(u:HO):Prop:=H a=some u\/∃ o,H a=some (.frz o u)
theorem Rd.ok{P:Program}{w:World}{H:Hp}{h:Heap}{a:Addr}{u:HO}(r:Rd H a u)(x:HOk P w H h):ZO P w H h a u:=by
 rcases r with r|⟨o,r⟩
 . exact x a u r
 . obtain ⟨_,q⟩:=x a _ r;exact q
noncomputable def Mut:Option HO->Prop
 | some (.lst _)=>True
 | some (.dK _)=>True
 | some (.dT _)=>True
 | some (.set _ _)=>True
 | some (.ins _ _ _)=>True
 | some (.ext _)=>True
 | _=>False
section
variable {P:Program}{w:World}{H:Hp}{h h':Heap}{x e:Addr}{o':HO}
theorem HOk.write(ok:HOk P w H h)(mu:Mut (H x))(he:e=x\/H e=some (.own x))(k:∀ b u,b≠e->h.get? b=some u->h'.get? b=some u)(heo:∃ u,h'.get? e=some u)
   (new:ZO P w (upd H x o') h' x o'):HOk P w (upd H x o') h':=fun b u q=>by
 have nown:∀ c y,H c=some (.own y)->c≠x:=fun c y r z=>by subst z;rw [r] at mu;exact mu
 have ntup:∀ c xs,H c=some (.tup xs)->c≠x:=fun c xs r z=>by subst z;rw [r] at mu;exact mu
 by_cases hb:b=x
 . subst hb;rw [Zd] at q;cases q;exact new
 . rw [Ze hb] at q;by_cases hbe:b=e
   . have q':H b=some (.own x):=by
       rcases he with z|z
       . exact absurd (hbe.trans z) hb
       . rw [hbe];exact z
     rw [q] at q';cases q';obtain ⟨v,hv⟩:=heo;exact ⟨v,by rw [hbe];exact hv⟩
   . refine (ok b u q).stay (fun c v hc r=>k c v ?_ r) (fun c r=>by rw [Ze (nown c b r)];exact r) fun c xs r=>by rw [Ze (ntup c xs r)];exact r
     rcases hc with rfl|hc
     . exact hbe
     . rintro rfl;rcases he with z|z
       . exact nown c b hc z
       . rw [hc] at z;cases z;exact hb rfl
end
structure Un(fs ex:List Addr)(H H':Hp)(h h':Heap):Prop where
 keep:∀ b o,h.get? b=some o->H b=none->b ∉ fs->b ∉ ex->h'.get? b=some o
 slot:∀ b o,h.get? b=some o->H b=none->b∈fs->b ∉ ex->∃ sl,h'.get? b=some {o with slots:=sl}
 free:∀ b o,h.get? b=some o->H b=none->b ∉ ex->H' b=none
 there:∀ b o,h.get? b=some o->b ∉ ex->∃ o',h'.get? b=some o'
 tups:∀ b xs,H b=some (.tup xs)->H' b=some (.tup xs)
 frzs:∀ b o u,H b=some (.frz o u)->H' b=some (.frz o u)
 tbls:∀ b ps,H b=some (.tbl ps)->∃ more,H' b=some (.tbl (ps++more))
section
variable {fs fs' ex ex':List Addr}{H H1 H2:Hp}{h h1 h2 h':Heap}{a x e:Addr}{o:HO}
theorem Un.any(u:Un fs ex H H1 h h1)(q:h.get? b=some ob)(n:H b=none)(hx:b ∉ ex):∃ sl,h1.get? b=some {ob with slots:=sl}:=by
 by_cases hb:b∈fs
 . exact u.slot b ob q n hb hx
 . exact ⟨ob.slots,u.keep b ob q n hb hx⟩
theorem Un.trans(a:Un fs ex H H1 h h1)(b:Un fs ex H1 H2 h1 h2):Un fs ex H H2 h h2 where
 keep:=fun c ob q n hc hx=>b.keep c ob (a.keep c ob q n hc hx) (a.free c ob q n hx) hc hx
 slot:=fun c ob q n hc hx=>by
   obtain ⟨sl,e1⟩:=a.slot c ob q n hc hx;obtain ⟨sl',e2⟩:=b.slot c _ e1 (a.free c ob q n hx) hc hx;exact ⟨sl',e2⟩
 free:=fun c ob q n hx=>by
   obtain ⟨o',e1⟩:=a.there c ob q hx;exact b.free c o' e1 (a.free c ob q n hx) hx
 there:=fun c ob q hx=>by
   obtain ⟨o',e1⟩:=a.there c ob q hx;exact b.there c o' e1 hx
 tups:=fun c xs q=>b.tups c xs (a.tups c xs q)
 frzs:=fun c ob xs q=>b.frzs c ob xs (a.frzs c ob xs q)
 tbls:=fun c ps q=>by
   obtain ⟨m1,e1⟩:=a.tbls c ps q;obtain ⟨m2,e2⟩:=b.tbls c _ e1;exact ⟨m1++m2,by rw [e2,Array.append_assoc]⟩
theorem Un.kept(k:∀ b u,h.get? b=some u->h'.get? b=some u):Un fs ex H H h h' :=
 ⟨fun b ob q _ _ _=>k b ob q,fun b ob q _ _ _=>⟨ob.slots,k b ob q⟩,fun _ _ _ n _=>n,fun b ob q _=>⟨ob,k b ob q⟩,fun _ _ q=>q,fun _ _ _ q=>q,fun _ ps q=>⟨#[],by rw [q];simp⟩⟩
theorem Un.refl:Un fs ex H H h h:=Un.kept fun _ _ q=>q
theorem Un.laid(k:∀ b u,h.get? b=some u->h'.get? b=some u)(hp:h.objs.size<=a)(hn:H a=none):Un fs ex H (upd H a o) h h' where
 keep:=fun b u q _ _ _=>k b u q
 slot:=fun b u q _ _ _=>⟨u.slots,k b u q⟩
 free:=fun b u q n _=>by rw [Ze (Ou (Ot (Heap.lt_size q) hp))];exact n
 there:=fun b u q _=>⟨u,k b u q⟩
 tups:=fun b xs q=>by rw [Ze (ZI q hn)];exact q
 frzs:=fun b u xs q=>by rw [Ze (ZI q hn)];exact q
 tbls:=fun b ps q=>⟨#[],by rw [Ze (ZI q hn),q];simp⟩
theorem Un.write(mu:Mut (H x))(he:e=x\/H e=some (.own x))(k:∀ b u,b≠e->h.get? b=some u->h'.get? b=some u)(heo:∃ u,h'.get? e=some u):Un fs ex H (upd H x o) h h':=by
 have hx:∀ b,H b=none->b≠x:=fun b n z=>by subst z;rw [n] at mu;exact mu
 have hb:∀ b,H b=none->b≠e:=fun b n z=>by
   subst z;rcases he with r|r
   . exact hx b n r
   . rw [n] at r;cases r
 have hm:∀ b u,H b=some u->¬ Mut (some u)->b≠x:=fun b u q nm z=>by subst z;rw [q] at mu;exact nm mu
 refine ⟨fun b u q n _ _=>k b u (hb b n) q,fun b u q n _ _=>⟨u.slots,k b u (hb b n) q⟩,fun b u q n _=>by rw [Ze (hx b n)];exact n,fun b u q _=>?_,
   fun b xs q=>by rw [Ze (hm b _ q fun z=>z)];exact q,fun b u xs q=>by rw [Ze (hm b _ q fun z=>z)];exact q,fun b ps q=>⟨#[],by rw [Ze (hm b _ q fun z=>z),q];simp⟩⟩
 by_cases hbe:b=e
 . subst hbe;exact heo
 . exact ⟨u,k b u hbe q⟩
end
noncomputable def trk(h:Heap)(H:Hp):List Addr:=(List.range h.objs.size).filter fun a=>(H a).isSome
noncomputable def Zgc(h:Heap)(H:Hp):Heap:=PySem.W.hideAll h (trk h H)
theorem ZkJ(h:Heap)(H:Hp):(Zgc h H).objs.size=h.objs.size:=PySem.W.hideAll_size _ _
theorem Zmr(e:h.get? b=some o)(n:H b=none):(Zgc h H).get? b=some o :=
 PySem.W.hideAll_get _ e fun hm=>by
   have q:(H b).isSome=true:=(List.mem_filter.mp hm).2;rw [n] at q;simp at q
theorem Zol(e:(Zgc h H).get? b=some o):h.get? b=some o/\H b=none:=by
 have e':h.get? b=some o:=PySem.W.of_hideAll (trk h H) e;refine ⟨e',?_⟩;cases q:H b with
 | none=>rfl
 | some x =>
   have hm:b∈trk h H:=List.mem_filter.mpr ⟨List.mem_range.mpr (Heap.lt_size e'),by simp [q]⟩;have z:(Zgc h H).get? b=none:=PySem.W.hideAll_none (trk h H) hm;rw [z] at e;cases e
end L2
namespace L2
open PySem PySem.Spec PyProof.Rows
structure Mod(K:PySem.W.Frag)(mg:Str->Option Value)(base:Heap):Prop where
 kin:K.In base
 glob:base.Ns mainGlobals mg
 blt:∃ mb,base.Ns builtinsNs mb/\∀ x:Str,x ≠ "__name__" -> mb x=bootBuiltins x
 nolimit:base.NoLimit
structure Cx where
 prog:Program
 w:World
 K:PySem.W.Frag
 mg:Str->Option Value
 base:Heap
 A:Around
 N:List Str
 s₀:Shared
 H₀:Hp
 env:Env
 outer:List Env
 stack:List Env
 ex:List Addr
 fn:Str->Bool
 calm:Bool
 pn:List (Addr×Obj)
 xe:Value->Shared->Prop
noncomputable def frs(l:List Env):List Addr:=l.filterMap (·.frame)
noncomputable abbrev Cx.fs(X:Cx):List Addr:=frs X.outer
noncomputable def Vis(sc:Scope)(x:Str):Prop:=sc.names.lookup x=some .local\/sc.names.lookup x=some .cell\/sc.names.lookup x=some .free
noncomputable def Loc(sc:Scope)(x:Str):Prop:=sc.names.lookup x=some .local\/sc.names.lookup x=some .cell
noncomputable def Look(env:Env)(h:Heap)(m:Str->Option Value)(x:Str)(u:Value):Prop :=
 (env.kindOf x=some .local/\m x=some u)\/((env.kindOf x=some .cell\/env.kindOf x=some .free)/\∃ c,env.cells.lookup x=some c/\h.IsCell c (some u))
structure Cx.Ok(X:Cx):Prop where
 mod:Mod X.K X.mg X.base
 kind:X.env.scope.kind=.function
 glob:X.env.globals=mainGlobals
 blt:X.env.builtins=builtinsNs
 above:X.s₀.heap.objs.size<=X.env.locals
 inj:∀ x y c,X.env.cells.lookup x=some c->X.env.cells.lookup y=some c->x=y
 has:∀ x,(X.env.kindOf x=some .cell\/X.env.kindOf x=some .free)->∃ c,X.env.cells.lookup x=some c
 cab:∀ x c,X.fn x=true->X.env.cells.lookup x=some c->X.s₀.heap.objs.size<=c
 hd:X.calm=true->X.A.handled=none
 frames:X.A.frames=some X.stack
 stk:X.stack=X.outer\/(X.stack=X.env::X.outer/\X.env.frame=some X.env.locals)
 exf:∀ b∈X.ex,b≠X.env.locals/\∀ x c,X.env.cells.lookup x=some c->c≠b
 bs:∀ b o,X.base.get? b=some o->X.s₀.heap.get? b=some o/\X.H₀ b=none
 bsz:X.base.objs.size<=X.s₀.heap.objs.size
 noex:∀ b o,X.base.get? b=some o->b ∉ X.ex
 exfs:∀ b∈X.ex,b ∉ X.fs
 funs:X.s₀.heap.FunFrames X.base X.outer
 frf:∀ b∈X.fs,X.H₀ b=none
structure Inv(X:Cx)(pins:List (Addr×Obj))(Z:List (Option V))(H:Hp)(s:Shared):Prop where
 ok:X.Ok
 os:s.os=X.s₀.os
 bare:AllBare s.gens
 base:Un X.fs X.ex X.H₀ H X.s₀.heap s.heap
 loc:∃ m,s.heap.Ns X.env.locals m/\∀ (i:Nat) (x:Str) (v:V),X.N[i]? = some x->Z[i]? = some (some v)->Vis X.env.scope x->∃ u,RelV v u/\Look X.env s.heap m x u
 cell:∀ x c,X.env.cells.lookup x=some c->∃ v,s.heap.IsCell c v
 free:H X.env.locals=none
 freeC:∀ x c,X.env.cells.lookup x=some c->H c=none
 pin:∀ p∈X.pn++pins,s.heap.get? p.1=some p.2/\H p.1=none/\p.1≠X.env.locals/\p.1 ∉ X.fs/\∀ v,p.2.data≠.cell v
 hok:HOk X.prog X.w H s.heap
 len:Z.length=X.N.length
section
variable {X:Cx}{pins:List (Addr×Obj)}{Z:List (Option V)}{H H':Hp}{s:Shared}{h':Heap}
theorem Cx.Ok.nofr(ok:X.Ok)(e:X.base.get? b=some o):b ∉ X.fs:=fun hb=>by
 have:=(ok.funs.mem hb).1;rw [e] at this;cases this
theorem Inv.bs(I:Inv X pins Z H s):∀ b o,X.base.get? b=some o->s.heap.get? b=some o/\H b=none:=fun b o e =>
 ⟨I.base.keep b o (I.ok.bs b o e).1 (I.ok.bs b o e).2 (I.ok.nofr e) (I.ok.noex b o e),I.base.free b o (I.ok.bs b o e).1 (I.ok.bs b o e).2 (I.ok.noex b o e)⟩
theorem Inv.bk(I:Inv X pins Z H s):∀ b o,X.base.get? b=some o->s.heap.get? b=some o:=fun b o e=>(I.bs b o e).1
theorem Inv.mod(I:Inv X pins Z H s):Mod X.K X.mg X.base:=I.ok.mod
theorem Inv.kIn(I:Inv X pins Z H s):X.K.In s.heap:=I.ok.mod.kin.keeps I.bk
theorem Inv.lt(I:Inv X pins Z H s):X.env.locals<s.heap.objs.size:=let ⟨_,hn,_⟩:=I.loc;hn.lt
theorem Inv.sz(I:Inv X pins Z H s):X.s₀.heap.objs.size<=s.heap.objs.size:=OE I.ok.above (Nat.le_of_lt I.lt)
theorem Inv.nofs(I:Inv X pins Z H s)(h:s.heap.objs.size<=a):a ∉ X.fs:=fun hb=>by
 obtain ⟨_,o,ho,_⟩:=I.ok.funs.mem hb;exact absurd (Ot (Heap.lt_size ho) (OE I.sz h)) (Nat.lt_irrefl _)
theorem Inv.cne(I:Inv X pins Z H s):∀ x c,X.env.cells.lookup x=some c->c≠X.env.locals:=fun x c e z=>by
 obtain ⟨v,o,ho,hd⟩:=I.cell x c e;obtain ⟨m,⟨o',es,ep,ho',hd',_⟩,_⟩:=I.loc;rw [z,ho'] at ho;cases ho;rw [hd'] at hd;cases hd
theorem Inv.funs(I:Inv X pins Z H s):s.heap.FunFrames X.base X.outer:=by
 have all:∀ (l:List Env),(∀ b∈frs l,b∈X.fs)->X.s₀.heap.FunFrames X.base l->s.heap.FunFrames X.base l:=by
   intro l;induction l with
   | nil=>intro _ _;trivial
   | cons env r ih =>
     intro hs hl;obtain ⟨hk,⟨L,o,hf,hn,ho,hd⟩,hr⟩:=hl;have hL:L∈X.fs:=hs L (by unfold frs;rw [List.filterMap_cons,hf];exact Oi);obtain ⟨sl,e⟩:=I.base.slot L o ho (I.ok.frf L hL) hL fun z=>I.ok.exfs L z hL;exact ⟨hk,⟨L,_,hf,hn,e,hd⟩,ih (fun b hb=>hs b (by unfold frs;rw [List.filterMap_cons,hf];exact Oh _ hb)) hr⟩
 exact all X.outer (fun _ hb=>hb) I.ok.funs
theorem Inv.stack(I:Inv X pins Z H s):s.heap.FunFrames X.base X.stack:=by
 rcases I.ok.stk with e|⟨e,hf⟩
 . rw [e];exact I.funs
 . rw [e];obtain ⟨m,hn,_⟩:=I.loc;refine .cons (by rw [I.ok.kind];decide) hf hn ?_ I.funs;exact Heap.get?_none_of_le (OE I.ok.bsz I.ok.above)
theorem Inv.stkSub(I:Inv X pins Z H s):∀ b∈frs X.stack,b∈X.env.locals::X.fs:=fun b hb=>by
 rcases I.ok.stk with e|⟨e,hf⟩
 . rw [e] at hb;exact Oh _ hb
 . rw [e] at hb;unfold frs at hb;rw [List.filterMap_cons,hf] at hb;exact hb
theorem Inv.stkFree(I:Inv X pins Z H s):∀ b∈frs X.stack,H b=none:=fun b hb=>by
 rcases O2.mp (I.stkSub b hb) with e|hb
 . rw [e];exact I.free
 . obtain ⟨_,o,ho,_⟩:=I.ok.funs.mem hb;exact I.base.free b o ho (I.ok.frf b hb) fun z=>I.ok.exfs b z hb
theorem Inv.step{g':Array GenState}{t':Nat}{d':Drawn}{ch:List Addr}(I:Inv X pins Z H s)
   (hch:∀ b∈ch,(b∈X.ex\/X.s₀.heap.objs.size<=b)/\b≠X.env.locals/\(∀ x c,X.env.cells.lookup x=some c->c≠b)/\∀ p∈X.pn++pins,p.1≠b)
   (keep:∀ b o,b≠X.env.locals->b ∉ X.fs->b ∉ ch->s.heap.get? b=some o->H b=none->h'.get? b=some o)
   (slot:∀ b o,b≠X.env.locals->b∈X.fs->b ∉ ch->s.heap.get? b=some o->H b=none->∃ sl,h'.get? b=some {o with slots:=sl}) (free:∀ b o,b ∉ ch->s.heap.get? b=some o->H b=none->H' b=none)
   (there:∀ b o,b ∉ ch->s.heap.get? b=some o->∃ o',h'.get? b=some o')
   (tups:∀ b xs,H b=some (.tup xs)->H' b=some (.tup xs)) (frzs:∀ b o u,H b=some (.frz o u)->H' b=some (.frz o u)) (tbls:∀ b ps,H b=some (.tbl ps)->∃ more,H' b=some (.tbl (ps++more)))
   (ns:∀ m,s.heap.Ns X.env.locals m->h'.Ns X.env.locals m) (hok:HOk X.prog X.w H' h') (hg:AllBare g') :
   Inv X pins Z H' {s with heap:=h',gens:=g',drawn:=d',toks:=t'}:=by
 have neL:∀ b o,X.s₀.heap.get? b=some o->b≠X.env.locals:=fun b o e=>Ou (Ot (Heap.lt_size e) I.ok.above);have neC:∀ b o,X.s₀.heap.get? b=some o->b ∉ X.ex->b ∉ ch:=fun b o e hx hb=>by
   rcases (hch b hb).1 with z|z
   . exact hx z
   . exact absurd (Ot (Heap.lt_size e) z) (Nat.lt_irrefl _)
 have cellK:∀ x c,X.env.cells.lookup x=some c->∀ v,s.heap.IsCell c v->h'.IsCell c v:=fun x c e v ⟨o,ho,hd⟩=>by
   have nch:c ∉ ch:=fun z=>(hch c z).2.2.1 x c e rfl;by_cases hc:c∈X.fs
   . obtain ⟨sl,q⟩:=slot c o (I.cne x c e) hc nch ho (I.freeC x c e);exact ⟨_,q,hd⟩
   . exact ⟨o,keep c o (I.cne x c e) hc nch ho (I.freeC x c e),hd⟩
 refine ⟨I.ok,I.os,hg,⟨fun b o e n hb hx=>?_,fun b o e n hb hx=>?_,fun b o e n hx=>?_,fun b o e hx=>?_,fun b xs e=>tups b xs (I.base.tups b xs e),fun b o xs e=>frzs b o xs (I.base.frzs b o xs e),fun b ps e=>?_⟩,?_,fun x c e=>?_,?_,fun x c e=>?_,fun p hp=>?_,hok,I.len⟩
 . exact keep b o (neL b o e) hb (neC b o e hx) (I.base.keep b o e n hb hx) (I.base.free b o e n hx)
 . obtain ⟨sl,e1⟩:=I.base.slot b o e n hb hx;obtain ⟨sl',e2⟩:=slot b _ (neL b o e) hb (neC b o e hx) e1 (I.base.free b o e n hx);exact ⟨sl',e2⟩
 . obtain ⟨o',e1⟩:=I.base.there b o e hx;exact free b o' (neC b o e hx) e1 (I.base.free b o e n hx)
 . obtain ⟨o',e1⟩:=I.base.there b o e hx;exact there b o' (neC b o e hx) e1
 . obtain ⟨m1,e1⟩:=I.base.tbls b ps e;obtain ⟨m2,e2⟩:=tbls b _ e1;exact ⟨m1++m2,by rw [e2,Array.append_assoc]⟩
 . obtain ⟨m,hn,hl⟩:=I.loc;refine ⟨m,ns m hn,fun i x v e1 e2 e3=>?_⟩;obtain ⟨u,r,l⟩:=hl i x v e1 e2 e3;refine ⟨u,r,?_⟩;rcases l with l|⟨k,c,e,z⟩
   . exact .inl l
   . exact .inr ⟨k,c,e,cellK x c e _ z⟩
 . obtain ⟨v,z⟩:=I.cell x c e;exact ⟨v,cellK x c e v z⟩
 . obtain ⟨m,⟨o,_,_,ho,_⟩,_⟩:=I.loc;exact free _ o (fun z=>(hch _ z).2.1 rfl) ho I.free
 . obtain ⟨v,o,ho,hd⟩:=I.cell x c e;exact free c o (fun z=>(hch c z).2.2.1 x c e rfl) ho (I.freeC x c e)
 . obtain ⟨e,n,ne,nf,d⟩:=I.pin p hp;have nch:p.1 ∉ ch:=fun z=>(hch p.1 z).2.2.2 p hp rfl;exact ⟨keep p.1 p.2 ne nf nch e n,free p.1 p.2 nch e n,ne,nf,d⟩
theorem Inv.un{t':Nat}(I:Inv X pins Z H s)(u:Un X.fs [] H H' s.heap h')(hok:HOk X.prog X.w H' h'):Inv X pins Z H' {s with heap:=h',toks:=t'}:=by
 obtain ⟨m,⟨o,es,ep,ho,r⟩,_⟩:=id I.loc;obtain ⟨sl,hL⟩:=u.any ho I.free (by simp);exact I.step (g':=s.gens) (d':=s.drawn) (ch:=[]) (fun _ z=>nomatch z) (fun b o _ hb _ e n=>u.keep b o e n hb (by simp)) (fun b o _ hb _ e n=>u.slot b o e n hb (by simp)) (fun b o _ e n=>u.free b o e n (by simp)) (fun b o _ e=>u.there b o e (by simp)) u.tups u.frzs u.tbls (fun m' hm=>by
   obtain ⟨o',es',ep',ho',r'⟩:=hm;rw [ho] at ho';cases ho';exact ⟨_,es',ep',hL,r'⟩) hok I.bare
theorem Inv.call{g':Array GenState}{t':Nat}{d':Drawn}{ch:List Addr}(I:Inv X pins Z H s)(u:Un (frs X.stack) ch H H' s.heap h')(hok:HOk X.prog X.w H' h')(hg:AllBare g')
   (hch:∀ b∈ch,(b∈X.ex\/X.s₀.heap.objs.size<=b)/\b≠X.env.locals/\(∀ x c,X.env.cells.lookup x=some c->c≠b)/\∀ p∈X.pn++pins,p.1≠b) :
   Inv X pins Z H' {s with heap:=h',gens:=g',drawn:=d',toks:=t'}:=by
 obtain ⟨m,⟨o,es,ep,ho,r⟩,_⟩:=id I.loc;obtain ⟨sl,hL⟩:=u.any ho I.free fun z=>(hch _ z).2.1 rfl;exact I.step (ch:=ch) hch (fun b o hL hb hc e n=>u.keep b o e n (fun z=>(O2.mp (I.stkSub b z)).elim hL hb) hc) (fun b o _ _ hc e n=>u.any e n hc) (fun b o hc e n=>u.free b o e n hc) (fun b o hc e=>u.there b o e hc) u.tups u.frzs u.tbls (fun m' hm=>by
   obtain ⟨o',es',ep',ho',r'⟩:=hm;rw [ho] at ho';cases ho';exact ⟨_,es',ep',hL,r'⟩) hok hg
theorem Inv.turned{t':Nat}{it:Addr}(I:Inv X pins Z H s)(k:∀ b o,b≠it->s.heap.get? b=some o->h'.get? b=some o)(hn:H it=none)(hL:it≠X.env.locals)
   (h1:it∈X.ex\/X.s₀.heap.objs.size<=it) (h2:∀ x c,X.env.cells.lookup x=some c->c≠it) (h3:∀ p∈X.pn++pins,p.1≠it):Inv X pins Z H {s with heap:=h',toks:=t'}:=by
 have nit:∀ b u,H b=some u->b≠it:=fun b u e z=>by rw [z,hn] at e;cases e
 refine I.step (g':=s.gens) (d':=s.drawn) (ch:=[it]) (fun b hb=>?_) (fun b o _ _ hc e _=>k b o (fun z=>hc (by simp [z])) e) (fun b o _ _ hc e _=>⟨o.slots,k b o (fun z=>hc (by simp [z])) e⟩) (fun _ _ _ _ n=>n)
   (fun b o hc e=>⟨o,k b o (fun z=>hc (by simp [z])) e⟩) (fun _ _ e=>e) (fun _ _ _ e=>e) (fun b ps e=>⟨#[],by rw [e];simp⟩) (fun m hm=>?_) (fun b u e=>?_) I.bare
 . have e:b=it:=by simpa using hb
   subst e;exact ⟨h1,hL,h2,h3⟩
 . obtain ⟨o,es,ep,ho,r⟩:=hm;exact ⟨o,es,ep,k _ o (Ne.symm hL) ho,r⟩
 . refine (I.hok b u e).stay (fun c v hc q=>k c v ?_ q) (fun _ q=>q) fun _ _ q=>q;rcases hc with z|z
   . rw [z];exact nit b u e
   . exact nit c _ z
theorem Inv.tok(I:Inv X pins Z H s)(t:Nat):Inv X pins Z H {s with toks:=t}:=I.un (h':=s.heap) (t':=t) Un.refl I.hok
theorem Inv.kept{t':Nat}(I:Inv X pins Z H s)(k:∀ b u,s.heap.get? b=some u->h'.get? b=some u):Inv X pins Z H {s with heap:=h',toks:=t'}:=I.un (Un.kept k) (I.hok.kept k)
theorem Inv.laid{a:Addr}{o:HO}{t':Nat}(I:Inv X pins Z H s)(k:∀ b u,s.heap.get? b=some u->h'.get? b=some u)(hp:s.heap.objs.size<=a)(new:ZO X.prog X.w (upd H a o) h' a o) :
   Inv X pins Z (upd H a o) {s with heap:=h',toks:=t'}:=I.un (Un.laid k hp (I.hok.fresh hp)) (I.hok.laid k hp new)
theorem Inv.write(I:Inv X pins Z H s)(mu:Mut (H x))(he:e=x\/H e=some (.own x))(k:∀ b u,b≠e->s.heap.get? b=some u->h'.get? b=some u)(heo:∃ u,h'.get? e=some u)
   (new:ZO X.prog X.w (upd H x o) h' x o):Inv X pins Z (upd H x o) {s with heap:=h',toks:=t'}:=I.un (Un.write mu he k heo) (I.hok.write mu he k heo new)
theorem Inv.weak(I:Inv X pins Z H s)(hl:σ'.length=Z.length)(w:∀ (i:Nat) v,σ'[i]? = some (some v)->Z[i]? = some (some v)):Inv X pins σ' H s :=
 ⟨I.ok,I.os,I.bare,I.base,let ⟨m,hn,hl'⟩:=I.loc;⟨m,hn,fun i x v e1 e2 e3=>hl' i x v e1 (w i v e2) e3⟩,I.cell,I.free,I.freeC,I.pin,I.hok,hl.trans I.len⟩
theorem Inv.pins_of(I:Inv X pins Z H s)(h:∀ p∈pins',s.heap.get? p.1=some p.2/\H p.1=none/\p.1≠X.env.locals/\p.1 ∉ X.fs/\∀ v,p.2.data≠.cell v):Inv X pins' Z H s :=
 ⟨I.ok,I.os,I.bare,I.base,I.loc,I.cell,I.free,I.freeC,fun p hp=>(OD.mp hp).elim (fun z=>I.pin p (List.mem_append_left _ z)) (h p),I.hok,I.len⟩
theorem Zg9{N:List Str}(hN:N.Nodup){i j:Nat}{x:Str}(a:N[i]? = some x)(b:N[j]? = some x):i=j:=by
 obtain ⟨h1,e1⟩:=Ob.mp a;obtain ⟨h2,e2⟩:=Ob.mp b;exact (List.getElem_inj hN).mp (e1.trans e2.symm)
theorem Zfr{M:Model}{A:Around}{Q:Unit->Shared->Prop}(I:Inv X pins Z H s)(hN:X.N.Nodup)(hi:X.N[i]? = some x)(hx:Loc X.env.scope x)(r:RelV v u)
   (h:∀ s',Inv X pins (Z.set i (some v)) H s'->(∃ a,Heap.SameBut a s.heap s'.heap/\(a=X.env.locals\/X.env.cells.lookup x=some a))->Q () s') (hf:X.fn x=true\/X.env.scope.names.lookup x=some .local:=by first|exact .inl rfl|exact .inr rfl|assumption):wpAny M A (storeName X.env x u) Q E s:=by
 obtain ⟨m,hn,hl⟩:=id I.loc;have hcls:(X.env.scope.kind==.class || (X.env.scope.kind==.module&&X.env.locals != X.env.globals))=false:=by rw [I.ok.kind];rfl
 have hiσ:i<Z.length:=by rw [I.len];exact (Ob.mp hi).1
 have cne:=I.cne;have tracked:∀ {a:Addr}{h':Heap},(∃ o,s.heap.get? a=some o/\H a=none)->Heap.SameBut a s.heap h'->HOk X.prog X.w H h':=fun {a h'} ha hs b ob e=>by
   obtain ⟨_,_,hfree⟩:=ha;refine (I.hok b ob e).stay (fun c w' hc q=>(hs.2 c ?_).trans q) (fun _ q=>q) fun _ _ q=>q;rintro rfl;rcases hc with rfl|hc
   . rw [hfree] at e;cases e
   . rw [hfree] at hc;cases hc
 rcases hx with hk|hk
 . refine wpAny_storeName_local hk hn (fun h' hn' hs=>?_) hcls;obtain ⟨oL,_,_,hoL,_⟩:=id hn;refine h _ ⟨I.ok,I.os,I.bare,⟨fun b o e n hb hx=>?_,fun b o e n hb hx=>?_,I.base.free,fun b o e hx=>?_,I.base.tups,I.base.frzs,I.base.tbls⟩,⟨_,hn',fun j y v' e1 e2 e3=>?_⟩,fun y c e=>?_,I.free,I.freeC,fun p hp=>?_,tracked ⟨oL,hoL,I.free⟩ hs,by simpa using I.len⟩ ⟨_,hs,.inl rfl⟩
   . exact (hs.2 b (Ou (Ot (Heap.lt_size e) I.ok.above))).trans (I.base.keep b o e n hb hx)
   . obtain ⟨sl,e1⟩:=I.base.slot b o e n hb hx;exact ⟨sl,(hs.2 b (Ou (Ot (Heap.lt_size e) I.ok.above))).trans e1⟩
   . obtain ⟨o',e1⟩:=I.base.there b o e hx;exact ⟨o',(hs.2 b (Ou (Ot (Heap.lt_size e) I.ok.above))).trans e1⟩
   . by_cases hj:j=i
     . subst hj;rw [hi] at e1;cases e1;rw [Ol hiσ] at e2;cases e2;exact ⟨u,r,.inl ⟨hk,by simp⟩⟩
     . rw [Oc (Ne.symm hj)] at e2;obtain ⟨u',r',q⟩:=hl j y v' e1 e2 e3;refine ⟨u',r',?_⟩;rcases q with ⟨k,e⟩|⟨k,c,e,z⟩
       . refine .inl ⟨k,?_⟩;have:y≠x:=fun e=>hj (Zg9 hN e1 (e ▸ hi));simp [this,e]
       . exact .inr ⟨k,c,e,z.sameBut hs (cne y c e)⟩
   . obtain ⟨w',z⟩:=I.cell y c e;exact ⟨w',z.sameBut hs (cne y c e)⟩
   . obtain ⟨e,n,ne,nf,d⟩:=I.pin p hp;exact ⟨(hs.2 p.1 ne).trans e,n,ne,nf,d⟩
 . have hfn:X.fn x=true:=by
     rcases hf with z|z
     . exact z
     . rw [z] at hk;cases hk
   obtain ⟨c,hc⟩:=I.ok.has x (.inl hk);obtain ⟨w',z⟩:=I.cell x c hc;refine wpAny_storeName_cell I.ok.kind hk hc z (fun h' hc' hs=>?_);obtain ⟨oc,hoc,hocd⟩:=id z;refine h {s with heap:=h'} ⟨I.ok,I.os,I.bare,⟨fun b o e n hb hx=>?_,fun b o e n hb hx=>?_,I.base.free,fun b o e hx=>?_,I.base.tups,I.base.frzs,I.base.tbls⟩,⟨m,hn.sameBut hs (Ne.symm (cne x c hc)),fun j y v' e1 e2 e3=>?_⟩,fun y c' e=>?_,I.free,I.freeC,fun p hp=>?_,tracked ⟨oc,hoc,I.freeC x c hc⟩ hs,by simpa using I.len⟩ ⟨c,hs,.inr hc⟩
   . exact (hs.2 b (Ou (Ot (Heap.lt_size e) (I.ok.cab x c hfn hc)))).trans (I.base.keep b o e n hb hx)
   . obtain ⟨sl,e1⟩:=I.base.slot b o e n hb hx;exact ⟨sl,(hs.2 b (Ou (Ot (Heap.lt_size e) (I.ok.cab x c hfn hc)))).trans e1⟩
   . obtain ⟨o',e1⟩:=I.base.there b o e hx;exact ⟨o',(hs.2 b (Ou (Ot (Heap.lt_size e) (I.ok.cab x c hfn hc)))).trans e1⟩
   . by_cases hj:j=i
     . subst hj;rw [hi] at e1;cases e1;rw [Ol hiσ] at e2;cases e2;exact ⟨u,r,.inr ⟨.inl hk,c,hc,hc'⟩⟩
     . rw [Oc (Ne.symm hj)] at e2;obtain ⟨u',r',q⟩:=hl j y v' e1 e2 e3;refine ⟨u',r',?_⟩;rcases q with q|⟨k,c',e,z'⟩
       . exact .inl q
       . refine .inr ⟨k,c',e,z'.sameBut hs ?_⟩;rintro rfl;exact hj (Zg9 hN e1 (I.ok.inj _ _ _ e hc ▸ hi))
   . by_cases hcc:c'=c
     . subst hcc;exact ⟨_,hc'⟩
     . obtain ⟨w2,z2⟩:=I.cell y c' e;exact ⟨w2,z2.sameBut hs hcc⟩
   . obtain ⟨e,n,ne,nf,d⟩:=I.pin p hp;refine ⟨(hs.2 p.1 ?_).trans e,n,ne,nf,d⟩;intro q;rw [q,hoc] at e;have q':oc=p.2:=Option.some.inj e;exact d w' (by rw [<- q'];exact hocd)
theorem Zeo(I:Inv X pins Z H s)(hN:X.N.Nodup)(hi:X.N[i]? = some x)(hx:Loc X.env.scope x)(r:RelV v u)
   (h:∀ s',Inv X pins (Z.set i (some v)) H s'->Q () s') (hf:X.fn x=true\/X.env.scope.names.lookup x=some .local:=by first|exact .inl rfl|exact .inr rfl|assumption):wpAny M A (storeName X.env x u) Q E s :=
 Zfr I hN hi hx r (fun s' I' _=>h s' I') hf
theorem Inv.call'(I:Inv X pins Z H s)(ho:s'.os=s.os)(u:Un (frs X.stack) ch H H' s.heap s'.heap)(hok:HOk X.prog X.w H' s'.heap)(hg:AllBare s'.gens)
   (hch:∀ b∈ch,(b∈X.ex\/X.s₀.heap.objs.size<=b)/\b≠X.env.locals/\(∀ x c,X.env.cells.lookup x=some c->c≠b)/\∀ p∈X.pn++pins,p.1≠b):Inv X pins Z H' s':=by
 obtain ⟨h',g',d',t',o'⟩:=s';have e:o'=s.os:=ho;subst e;exact I.call (g':=g') (t':=t') (d':=d') u hok hg hch
end
noncomputable abbrev XK:=Value->Option Addr->Hp->Prop
noncomputable abbrev St:=List (Option V)
noncomputable abbrev VK:=V->Hp->Prop
noncomputable abbrev TE:=St->Hp->VK->Prop
noncomputable abbrev TT:=St->Hp->(Bool->Hp->Prop)->Prop
noncomputable abbrev TA:=St->Hp->(List V->Hp->Prop)->Prop
structure Ends where
 nx:St->Hp->Prop
 rt:VK
 bk:St->Hp->Prop:=fun _ _=>False
 ct:St->Hp->Prop:=fun _ _=>False
noncomputable abbrev TS:=Ends->St->Hp->Prop
noncomputable def EP(X:Cx)(pins:List (Addr×Obj))(Z:St)(Q:VK)(u:Value)(s':Shared):Prop:=∃ v H',Inv X pins Z H' s'/\RelV v u/\Q v H'
noncomputable def TP(X:Cx)(pins:List (Addr×Obj))(Z:St)(Q:Bool->Hp->Prop)(b:Bool)(s':Shared):Prop:=∃ H',Inv X pins Z H' s'/\Q b H'
noncomputable def AP(X:Cx)(pins:List (Addr×Obj))(Z:St)(Q:List V->Hp->Prop)(us:List Value)(s':Shared):Prop:=∃ vs H',Inv X pins Z H' s'/\Zh vs us/\Q vs H'
noncomputable def SP(X:Cx)(pins:List (Addr×Obj))(D:Ends)(f:Flow)(s':Shared):Prop :=
 match f with
 | .next=>∃ σ' H',Inv X pins σ' H' s'/\D.nx σ' H'
 | .brk=>∃ σ' H',Inv X pins σ' H' s'/\D.bk σ' H'
 | .cont=>∃ σ' H',Inv X pins σ' H' s'/\D.ct σ' H'
 | .ret u=>∃ v σ' H',Inv X pins σ' H' s'/\RelV v u/\D.rt v H'
noncomputable def PE(X:Cx)(e:Expr)(t:TE):Prop :=
 ∀ (pins:List (Addr×Obj)) (s:Shared) (Z:St) (H:Hp) (Q:VK),Inv X pins Z H s->t Z H Q->wpAny (model X.prog X.w) X.A (eval e X.env) (EP X pins Z Q) X.xe s
noncomputable def PT(X:Cx)(e:Expr)(t:TT):Prop :=
 ∀ (pins:List (Addr×Obj)) (s:Shared) (Z:St) (H:Hp) (Q:Bool->Hp->Prop),Inv X pins Z H s->t Z H Q->wpAny (model X.prog X.w) X.A (isTrue e X.env (eval e X.env)) (TP X pins Z Q) X.xe s
noncomputable def PW(X:Cx)(e:Expr)(t:TT):Prop :=
 ∀ (whole:Sem Value) (pins:List (Addr×Obj)) (s:Shared) (Z:St) (H:Hp) (Q:Bool->Hp->Prop),Inv X pins Z H s->t Z H Q->wpAny (model X.prog X.w) X.A (isTrue e X.env whole) (TP X pins Z Q) X.xe s
theorem PW.pt(h:PW X e t):PT X e t:=h _
noncomputable def PA(X:Cx)(es:List Expr)(t:TA):Prop :=
 ∀ (pos:Pos) (pins:List (Addr×Obj)) (s:Shared) (Z:St) (H:Hp) (Q:List V->Hp->Prop),Inv X pins Z H s->t Z H Q->wpAny (model X.prog X.w) X.A (spliced (backTo pos (starEach es X.env))) (AP X pins Z Q) X.xe s
noncomputable def PS(X:Cx)(st:Stmt)(t:TS):Prop :=
 ∀ (pins:List (Addr×Obj)) (s:Shared) (Z:St) (H:Hp) (D:Ends),Inv X pins Z H s->t D Z H->wpAny (model X.prog X.w) X.A (exec st X.env) (SP X pins D) X.xe s
noncomputable def PSs(X:Cx)(st:List Stmt)(t:TS):Prop :=
 ∀ (pins:List (Addr×Obj)) (s:Shared) (Z:St) (H:Hp) (D:Ends),Inv X pins Z H s->t D Z H->wpAny (model X.prog X.w) X.A (execs st X.env) (SP X pins D) X.xe s
theorem thn(h:wpAny M A t Q E s)(hQ:∀ a s,Q a s->Q' a s):wpAny M A t Q' E s:=wpAny_mono h hQ fun _ _ x=>x
end L2
namespace L2
open PySem PySem.Spec PyProof.Rows
section
variable {X:Cx}
noncomputable def Zub(i:Nat):TE:=fun Z H Q=>∃ v,Z[i]? = some (some v)/\Q v H
noncomputable def tC(v:V):TE:=fun _ H Q=>Q v H
theorem Zqs (hN:X.N[i]? = some x) (hv:Vis X.env.scope x) (hd:(x==("__debug__" : Str))=false:=by decide) (hcd:(x==("__classdict__" : Str))=false:=by decide):PE X (.Name x pos) (Zub i):=by
 intro pins s Z H Q I h;obtain ⟨v,e,h⟩:=h;obtain ⟨m,hn,hl⟩:=I.loc;obtain ⟨u,r,l⟩:=hl i x v hN e hv;have fin:EP X pins Z Q u s:=⟨v,H,I,r,h⟩
 rcases l with ⟨hk,hm⟩|⟨hk,c,hc,hcell⟩
 . exact wpAny_Name (wpAny_loadName_local I.ok.kind hk hn hm fin) hd
 . rcases hk with hk|hk
   . exact wpAny_Name (wpAny_loadName_cell I.ok.kind hk hc hcell fin) hd
   . exact wpAny_Name (wpAny_loadName_free I.ok.kind hk hc hcell fin hcd) hd
theorem ZqA{i j pos}:PE X (.Constant (.int i) j pos) (tC (.int i)):=fun _ _ _ H _ I h=>wpAny_Constant_int ⟨.int i,H,I.tok _,⟨_,rfl⟩,h⟩
theorem ZsX{b j pos}:PE X (.Constant (.bool b) j pos) (tC (.bl b)):=fun _ _ _ H _ I h=>Constant_bool ⟨.bl b,H,I,rfl,h⟩
theorem Zqx{j pos}:PE X (.Constant .none j pos) (tC .non):=fun _ _ _ H _ I h=>Constant_none ⟨.non,H,I,rfl,h⟩
theorem Zqv{x j pos}:PE X (.Constant (.str x) j pos) (tC (.str x)):=fun _ _ _ H _ I h=>Calls.Constant_str ⟨.str x,H,I.tok _,⟨_,rfl⟩,h⟩
noncomputable def Gl(X:Cx)(x:Str):Prop:=X.env.kindOf x=some .globalImplicit
theorem Zeh(I:Inv X pins Z H s)(hg:Gl X x)(hm:X.mg x=some u)(h:Q u s)
   (hd:(x==("__debug__" : Str))=false:=by decide):wpAny (model X.prog X.w) X.A (eval (.Name x pos) X.env) Q E s :=
 Calls.Name_function_global I.ok.kind hg (Calls.loadGlobal_global (by rw [I.ok.glob];exact I.mod.glob.keeps I.bk) hm h) hd
theorem Zbt(I:Inv X pins Z H s)(hg:Gl X x)(hm:X.mg x=none)(hv:bootBuiltins x=some u)(h:Q u s)
   (hn:x ≠ "__name__" := by decide) (hd:(x==("__debug__" : Str))=false:=by decide):wpAny (model X.prog X.w) X.A (eval (.Name x pos) X.env) Q E s:=by
 obtain ⟨mb,h1,h2⟩:=I.mod.blt;exact Calls.Name_function_global I.ok.kind hg (Calls.loadGlobal_builtin (by rw [I.ok.glob];exact I.mod.glob.keeps I.bk) hm (by rw [I.ok.blt];exact h1.keeps I.bk) ((h2 x hn).trans hv) h) hd
theorem ZnZ (hg:Gl X x) (hm:X.mg x=some u) (r:RelV v u) (hd:(x==("__debug__" : Str))=false:=by decide):PE X (.Name x pos) (tC v) :=
 fun _ _ _ H _ I h=>Zeh I hg hm ⟨v,H,I,r,h⟩ hd
theorem Zn3 (hg:Gl X x) (hm:X.mg x=none) (hv:bootBuiltins x=some u) (r:RelV v u) (hn:x ≠ "__name__" := by decide) (hd:(x==("__debug__" : Str))=false:=by decide):PE X (.Name x pos) (tC v) :=
 fun _ _ _ H _ I h=>Zbt I hg hm hv ⟨v,H,I,r,h⟩ hn hd
variable {a b:Expr}{ta tb:TE}{pos:Pos}
variable {tA tB':TT}{rest:List Expr}
noncomputable def Zuq(t u:TT):TT:=fun Z H Q=>t Z H fun c H1=>if c=true then u Z H1 Q else Q false H1
noncomputable def tOr(t u:TT):TT:=fun Z H Q=>t Z H fun c H1=>if c=true then Q true H1 else u Z H1 Q
noncomputable def Zuh(t:TT):TT:=fun Z H Q=>t Z H fun c H1=>Q (!c) H1
theorem ZnJ(ha:PT X a tA):PW X (.BoolOp .And [a] pos) tA:=by
 intro wh pins s Z H Q I h;refine isTrue_and (thn (ha pins s Z H Q I h) fun c s1 e=>?_);cases c with
 | true=>exact isTrue_and_nil e
 | false=>exact e
theorem Zqh(ha:PT X a tA):PW X (.BoolOp .Or [a] pos) tA:=by
 intro wh pins s Z H Q I h;refine isTrue_or (thn (ha pins s Z H Q I h) fun c s1 e=>?_);cases c with
 | false=>exact isTrue_or_nil e
 | true=>exact e
theorem Zqi(ha:PT X a tA)(hb:PW X (.BoolOp .And (b::rest) pos) tB'):PW X (.BoolOp .And (a::b::rest) pos) (Zuq tA tB'):=by
 intro wh pins s Z H Q I h;refine isTrue_and (thn (ha pins s Z H _ I h) fun c s1 ⟨H1,I1,q1⟩=>?_);cases c with
 | true=>exact hb wh pins s1 Z H1 Q I1 q1
 | false=>exact ⟨H1,I1,q1⟩
theorem ZsN(ha:PT X a tA)(hb:PW X (.BoolOp .Or (b::rest) pos) tB'):PW X (.BoolOp .Or (a::b::rest) pos) (tOr tA tB'):=by
 intro wh pins s Z H Q I h;refine isTrue_or (thn (ha pins s Z H _ I h) fun c s1 ⟨H1,I1,q1⟩=>?_);cases c with
 | true=>exact ⟨H1,I1,q1⟩
 | false=>exact hb wh pins s1 Z H1 Q I1 q1
theorem Zqk(ha:PT X a tA):PT X (.UnaryOp .Not a pos) (Zuh tA):=by
 intro pins s Z H Q I h;exact isTrue_not (ha pins s Z H (fun c H1=>Q (!c) H1) I h)
noncomputable def Zsx(ta tb:TE):TE:=fun Z H Q=>ta Z H fun x H1=>∃ c,x=.bl c/\if c=true then tb Z H1 Q else Q (.bl false) H1
noncomputable def Zug(ta tb:TE):TE:=fun Z H Q=>ta Z H fun x H1=>∃ c,x=.bl c/\if c=true then Q (.bl true) H1 else tb Z H1 Q
noncomputable def Zsr(ta:TE):TE:=fun Z H Q=>ta Z H fun x H1=>∃ c,x=.bl c/\Q (.bl (!c)) H1
theorem ZlM{op}(h:PE X a t):PE X (.BoolOp op [a] pos) t:=fun pins s Z H Q I hw=>BoolOp_one (h pins s Z H Q I hw)
theorem ZqE(ha:PE X a ta)(hb:PE X (.BoolOp .And (b::rest) pos) tb):PE X (.BoolOp .And (a::b::rest) pos) (Zsx ta tb):=by
 intro pins s Z H Q I h;refine BoolOp_and (thn (ha pins s Z H _ I h) fun v s1 ⟨x,H1,I1,r1,q1⟩=>?_);obtain ⟨c,rfl,q1⟩:=q1;cases r1;refine wpAny_truthy_bool ?_;cases c with
 | true=>exact hb pins s1 Z H1 Q I1 q1
 | false=>exact ⟨.bl false,H1,I1,rfl,q1⟩
theorem ZsT(ha:PE X a ta)(hb:PE X (.BoolOp .Or (b::rest) pos) tb):PE X (.BoolOp .Or (a::b::rest) pos) (Zug ta tb):=by
 intro pins s Z H Q I h;refine BoolOp_or (thn (ha pins s Z H _ I h) fun v s1 ⟨x,H1,I1,r1,q1⟩=>?_);obtain ⟨c,rfl,q1⟩:=q1;cases r1;refine wpAny_truthy_bool ?_;cases c with
 | false=>exact hb pins s1 Z H1 Q I1 q1
 | true=>exact ⟨.bl true,H1,I1,rfl,q1⟩
theorem Zqw(ha:PE X a ta):PE X (.UnaryOp .Not a pos) (Zsr ta):=by
 intro pins s Z H Q I h;refine UnaryOp_ (thn (ha pins s Z H _ I h) fun v s1 ⟨x,H1,I1,r1,q1⟩=>?_);obtain ⟨c,rfl,q1⟩:=q1;cases r1;exact not_of (wpAny_truthy_bool ⟨.bl (!c),H1,I1,rfl,q1⟩)
noncomputable def tIf(t:TT)(ta tb:TE):TE:=fun Z H Q=>t Z H fun c H1=>if c=true then ta Z H1 Q else tb Z H1 Q
theorem ZlP(hc:PT X c tA)(ha:PE X a ta)(hb:PE X b tb):PE X (.IfExp c a b pos) (tIf tA ta tb):=by
 intro pins s Z H Q I h;refine wpAny_IfExp (thn (hc pins s Z H _ I h) fun d s1 ⟨H1,I1,q1⟩=>?_);cases d with
 | true=>exact ha pins s1 Z H1 Q I1 q1
 | false=>exact hb pins s1 Z H1 Q I1 q1
end
end L2
namespace L2
open PySem PySem.Spec PyProof.Rows
noncomputable def SqL(K:PySem.W.Frag)(H:Hp)(a:Addr)(xs:List V):Prop :=
 Rd H a (.lst xs) \/
   ∃ (o:Obj) (its:Array Value) (n:Nat),K.lookup a=some o/\o.cls=.type "list" /\ o.dict=none/\o.data=.seq its n/\its.size<=sizeLine/\Zh xs its.toList
noncomputable def SqT(K:PySem.W.Frag)(H:Hp)(a:Addr)(xs:List V):Prop :=
 Rd H a (.tup xs) \/
   ∃ (o:Obj) (its:Array Value) (n:Nat),K.lookup a=some o/\o.cls=.type "tuple" /\ o.data=.seq its n/\its.size<=sizeLine/\Zh xs its.toList
noncomputable def Zva:Value->Option V
 | .none=>some .non
 | .bool b=>some (.bl b)
 | .int i _=>some (.int i)
 | .str x _=>some (.str x)
 | .bytes b _=>some (.byt b)
 | .float b _=>some (.flt b)
 | .ref a=>some (.ref a)
 | .type n=>some (.ty n)
 | _=>none
theorem RelV.abs(r:RelV x u):Zva u=some x:=by
 cases x with
 | non=>cases r;rfl
 | bl _=>cases r;rfl
 | int _=>obtain ⟨t,rfl⟩:=r;rfl
 | str _=>obtain ⟨t,rfl⟩:=r;rfl
 | byt _=>obtain ⟨t,rfl⟩:=r;rfl
 | flt _=>obtain ⟨t,rfl⟩:=r;rfl
 | ref _=>cases r;rfl
 | ty _=>cases r;rfl
theorem RelV.inj(r:RelV x u)(q:RelV y u):x=y:=Option.some.inj (r.abs.symm.trans q.abs)
theorem Zh.inj:∀ {xs ys:List V}{us:List Value},Zh xs us->Zh ys us->xs=ys
 | _,_,_,.nil,.nil=>rfl
 | _,_,_,.cons r t,.cons r' t'=>by rw [r.inj r',Zh.inj t t']
section
variable {X:Cx}{pins:List (Addr×Obj)}{Z:St}{H:Hp}{s:Shared}{a:Addr}{xs ys:List V}
theorem SqL.of{K:PySem.W.Frag}(h:H a=some (.lst xs)):SqL K H a xs:=.inl (.inl h)
theorem Inv.list(I:Inv X pins Z H s)(h:SqL X.K H a xs):∃ its:List Value,Zh xs its/\PlainL s.heap a its.toArray/\xs.length<=sizeLine:=by
 rcases h with h|⟨o,its,n,hk,hc,hd,hs,hz,r⟩
 . obtain ⟨z,its,n,r,e⟩:=h.ok I.hok;exact ⟨its,r,⟨_,n,e,rfl,rfl,rfl⟩,z⟩
 . refine ⟨its.toList,r,⟨o,n,I.kIn a o hk,hc,hd,by simpa using hs⟩,?_⟩;have e:=r.length;simp only [Array.length_toList] at e
   lia
theorem Inv.tuple(I:Inv X pins Z H s)(h:SqT X.K H a xs):∃ its:List Value,Zh xs its/\IsTup s.heap a its.toArray/\xs.length<=sizeLine:=by
 rcases h with h|⟨o,its,n,hk,hc,hs,hz,r⟩
 . obtain ⟨z,its,r,p⟩:=h.ok I.hok;exact ⟨its,r,p.tup,z⟩
 . refine ⟨its.toList,r,⟨o,I.kIn a o hk,hc,n,by simpa using hs⟩,?_⟩;have e:=r.length;simp only [Array.length_toList] at e
   lia
theorem Inv.list_inj(I:Inv X pins Z H s)(h:SqL X.K H a xs)(h':SqL X.K H a ys):xs=ys:=by
 obtain ⟨its,r,⟨o,n,e,_,_,d⟩,_⟩:=I.list h;obtain ⟨its',r',⟨o',n',e',_,_,d'⟩,_⟩:=I.list h';rw [e] at e';cases e';rw [d] at d';injection d' with d1 _;have:its=its':=by simpa using congrArg Array.toList d1
 subst this;exact r.inj r'
theorem Inv.tuple_inj(I:Inv X pins Z H s)(h:SqT X.K H a xs)(h':SqT X.K H a ys):xs=ys:=by
 obtain ⟨its,r,⟨o,e,_,n,d⟩,_⟩:=I.tuple h;obtain ⟨its',r',⟨o',e',_,n',d'⟩,_⟩:=I.tuple h';rw [e] at e';cases e';rw [d] at d';injection d' with d1 _;have:its=its':=by simpa using congrArg Array.toList d1
 subst this;exact r.inj r'
end
section
variable {X:Cx}{st:Stmt}{rest:List Stmt}{t u:TS}{e:Expr}{te:TE}{pos:Pos}
noncomputable def Zpn:TS:=fun D Z H=>D.nx Z H
noncomputable def Zue(t u:TS):TS:=fun D Z H=>t {D with nx:=u D} Z H
theorem ZnL:PSs X [] Zpn:=fun _ _ Z H _ I h=>wpAny_execs_nil ⟨Z,H,I,h⟩
theorem ZlB(h1:PS X st t)(h2:PSs X rest u):PSs X (st::rest) (Zue t u):=by
 intro pins s Z H D I h;refine wpAny_execs_cons (thn (h1 pins s Z H {D with nx:=u D} I h) fun f s1 q=>?_);cases f with
 | next =>
   obtain ⟨σ',H',I',q⟩:=q;exact h2 pins s1 σ' H' D I' q
 | ret v=>exact q
 | brk=>exact q
 | cont=>exact q
noncomputable def Zp5:TS:=fun D Z H=>D.bk Z H
noncomputable def Zsu:TS:=fun D Z H=>D.ct Z H
theorem ZnM:PS X (.Pass pos) Zpn:=fun _ _ Z H _ I h=>wpAny_Pass ⟨Z,H,I,h⟩
theorem ZlE:PS X (.Break pos) Zp5:=fun _ _ Z H _ I h=>wpAny_Break ⟨Z,H,I,h⟩
theorem ZgZ:PS X (.Continue pos) Zsu:=fun _ _ Z H _ I h=>wpAny_Continue ⟨Z,H,I,h⟩
theorem Inv.quiet(I:Inv X pins Z H s):interactive X.env=false:=by simp [interactive,I.ok.kind]
noncomputable def Zss(te:TE):TS:=fun D Z H=>te Z H fun _ H1=>D.nx Z H1
theorem ZnN(he:PE X e te)(hs:swapsWith e none pos.line X.env=pure false:=by rfl):PS X (.Expr e pos) (Zss te):=by
 intro pins s Z H D I h;exact wpAny_Expr_any (thn (he pins s Z H _ I h) fun v s1 ⟨x,H1,I1,r1,q1⟩=>⟨Z,H1,I1,q1⟩) I.quiet hs
noncomputable def Zuf(te:TE):TS:=fun D Z H=>te Z H D.rt
theorem Zql(he:PE X e te):PS X (.Return (some e) pos) (Zuf te):=by
 intro pins s Z H D I h;exact wpAny_Return_some (thn (he pins s Z H _ I h) fun v s1 ⟨x,H1,I1,r1,q1⟩=>⟨x,Z,H1,I1,r1,q1⟩)
noncomputable def Zuk(c:TT)(t u:TS):TS:=fun D Z H=>c Z H fun b H1=>if b=true then t D Z H1 else u D Z H1
theorem ZsQ(hc:PT X c tc)(ha:PSs X a t)(hb:PSs X b u):PS X (.If c a b pos) (Zuk tc t u):=by
 intro pins s Z H D I h;refine wpAny_If (thn (hc pins s Z H _ I h) fun d s1 ⟨H1,I1,q1⟩=>?_);cases d with
 | true=>exact ha pins s1 Z H1 D I1 q1
 | false=>exact hb pins s1 Z H1 D I1 q1
end
noncomputable abbrev TG:=V->St->Hp->(St->Hp->Prop)->Prop
noncomputable abbrev TGs:=List V->St->Hp->(St->Hp->Prop)->Prop
noncomputable def PG(X:Cx)(target:Expr)(t:TG):Prop :=
 ∀ (pins:List (Addr×Obj)) (s:Shared) (Z:St) (H:Hp) (v:V) (u:Value) (Q:St->Hp->Prop),Inv X pins Z H s->RelV v u->t v Z H Q ->
   wpAny (model X.prog X.w) X.A (assign target X.env u) (fun _ s'=>∃ σ' H',Inv X pins σ' H' s'/\Q σ' H') X.xe s
noncomputable def PGs(X:Cx)(ts:List Expr)(t:TGs):Prop :=
 ∀ (pins:List (Addr×Obj)) (s:Shared) (Z:St) (H:Hp) (vs:List V) (us:List Value) (Q:St->Hp->Prop),Inv X pins Z H s->Zh vs us->t vs Z H Q ->
   wpAny (model X.prog X.w) X.A (assignInOrder ((assignEach ts X.env).map (·.2)) us) (fun _ s'=>∃ σ' H',Inv X pins σ' H' s'/\Q σ' H') X.xe s
noncomputable abbrev Zpg:=V->V->V->Hp->(Hp->Prop)->Prop
noncomputable def Zpi(X:Cx)(t:Zpg):Prop :=
 ∀ (pins:List (Addr×Obj)) (s:Shared) (Z:St) (H:Hp) (o i v:V) (ov iv u:Value) (Q:Hp->Prop),Inv X pins Z H s->RelV o ov->RelV i iv->RelV v u->t o i v H Q ->
   wpAny (model X.prog X.w) X.A (setItem ov iv u) (fun _ s'=>∃ H',Inv X pins Z H' s'/\Q H') X.xe s
noncomputable abbrev TIp:=V->V->Hp->VK->Prop
noncomputable def PIp(X:Cx)(op:Operator)(t:TIp):Prop :=
 ∀ (pins:List (Addr×Obj)) (s:Shared) (Z:St) (H:Hp) (x y:V) (v u:Value) (Q:VK),Inv X pins Z H s->RelV x v->RelV y u->t x y H Q ->
   wpAny (model X.prog X.w) X.A (inplaceOp op v u) (EP X pins Z Q) X.xe s
section
variable {X:Cx}{pos:Pos}
noncomputable def ZbP(i:Nat):TG:=fun v Z H Q=>Q (Z.set i (some v)) H
theorem Zjm(hN:X.N.Nodup)(hi:X.N[i]? = some x)(hx:Loc X.env.scope x)(hf:X.fn x=true\/X.env.scope.names.lookup x=some .local:=by first|exact .inl rfl|exact .inr rfl|assumption):PG X (.Name x pos) (ZbP i):=by
 intro pins s Z H v u Q I r h;exact wpAny_assign_Name (Zeo I hN hi hx r (fun s' I'=>⟨_,H,I',h⟩) hf)
noncomputable def ZoJ:TGs:=fun vs Z H Q=>vs=[]/\Q Z H
noncomputable def Zhq(t:TG)(u:TGs):TGs:=fun vs Z H Q=>∃ v r,vs=v::r/\t v Z H fun σ' H'=>u r σ' H' Q
theorem Zjk:PGs X [] ZoJ:=by
 intro pins s Z H vs us Q I r h;obtain ⟨e,h⟩:=h;subst e;cases r;exact assignInOrder_nil ⟨Z,H,I,h⟩
theorem Zex(h1:PG X e t)(h2:PGs X es u)
   (hs:(assignEach (e::es) X.env).map (·.2)=assign e X.env::(assignEach es X.env).map (·.2):=by rfl):PGs X (e::es) (Zhq t u):=by
 intro pins s Z H vs us Q I r h;obtain ⟨v,vr,e1,h⟩:=h;subst e1;cases r with
 | cons r rr =>
   rw [hs];refine assignInOrder_cons (thn (h1 pins s Z H _ _ _ I r h) fun _ s1 ⟨σ1,H1,I1,q1⟩=>?_);exact h2 pins s1 σ1 H1 _ _ Q I1 rr q1
noncomputable def ZoI(K:PySem.W.Frag)(n:Nat)(t:TGs):TG:=fun v Z H Q=>∃ a xs,v=.ref a/\SqT K H a xs/\xs.length=n/\t xs Z H Q
theorem ZlJ(hc:X.calm=true)(h:PGs X es t)
   (hn:(assignEach es X.env).length=n:=by rfl) (hst:(assignEach es X.env).findIdx? (·.1)=none:=by rfl):PG X (.Tuple es k pos) (ZoI X.K n t):=by
 intro pins s Z H v u Q I r hw;obtain ⟨a,xs,e1,hq,hl,hw⟩:=hw;subst e1;cases r;obtain ⟨its,rv,ht,hz⟩:=I.tuple hq;refine assign_Tuple_tuple (I.ok.hd hc) ht (by simp [hn,<- hl,rv.length]) hst fun h' hx=>?_;have I1:Inv X pins Z H {s with heap:=h'}:=I.kept (t':=s.toks) fun b o e=>hx b o (Ou (Heap.lt_size e)) e;exact h pins _ Z H xs _ Q I1 (by simpa using rv) hw
noncomputable def ZuS(to ti:TE)(t:Zpg):TG:=fun v Z H Q=>to Z H fun o H1=>ti Z H1 fun i H2=>t o i v H2 fun H3=>Q Z H3
theorem Zqr(ho:PE X o to)(hi:PE X i ti)(hs:Zpi X t)
   (ha:∀ v,assign (.Subscript o i pos) X.env v=(do
     let ov <- holding [v] (eval o X.env);let iv <- holding [v,ov] (eval i X.env)
     standAt pos
     holding [v,ov,iv] (setItem ov iv v)
     release [v,ov,iv] []):=by intro _;rfl):PG X (.Subscript o i pos) (ZuS to ti t):=by
 intro pins s Z H v u Q I r h;rw [ha];refine wpAny_bind (wpAny_holding (thn (ho pins s Z H _ I h) fun ov s1 ⟨x,H1,I1,r1,q1⟩=>?_));refine wpAny_bind (wpAny_holding (thn (hi pins s1 Z H1 _ I1 q1) fun iv s2 ⟨y,H2,I2,r2,q2⟩=>?_));refine wpAny_bind (wpAny_standAt (wpAny_bind (wpAny_holding (thn (hs pins s2 Z H2 x y v ov iv u _ I2 r1 r2 r q2) fun _ s3 ⟨H3,I3,q3⟩=>?_))));exact wpAny_release ⟨Z,H3,I3,q3⟩
noncomputable def Zh8(te:TE)(g:TG):TS:=fun D Z H=>te Z H fun x H1=>g x Z H1 D.nx
theorem ZlF(he:PE X e te)(hg:PG X tg g)(hs:swapsWithSole [tg] e pos.line X.env=pure false:=by rfl)(hw:swappedStores [tg] e X.env=pure none:=by rfl)
   (h1:(assignEach [tg] X.env).map (·.2)=[assign tg X.env]:=by rfl):PS X (.Assign [tg] e pos) (Zh8 te g):=by
 intro pins s Z H D I h;refine wpAny_Assign_stores (thn (he pins s Z H _ I h) fun v s1 ⟨x,H1,I1,r1,q1⟩=>?_) hs hw;rw [h1];exact thn (hg pins s1 Z H1 x v _ I1 r1 q1) fun _ s2 q=>q
theorem ZlD(hN:X.N.Nodup)(hi:X.N[i]? = some x)(hx:Loc X.env.scope x)(he:PE X e te)(hs:swapsWith e (some (.Name x pos')) pos.line X.env=pure false:=by rfl)(hf:X.fn x=true\/X.env.scope.names.lookup x=some .local:=by first|exact .inl rfl|exact .inr rfl|assumption) :
   PS X (.Assign [.Name x pos'] e pos) (Zh8 te (ZbP i)):=by
 intro pins s Z H D I h;refine wpAny_Assign_Name (thn (he pins s Z H _ I h) fun v s1 ⟨y,H1,I1,r1,q1⟩=>?_) hs;exact Zeo I1 hN hi hx r1 (fun s2 I2=>⟨_,H1,I2,q1⟩) hf
noncomputable def Zup(i:Nat)(te:TE)(ti:TIp):TS:=fun D Z H=>∃ x,Z[i]? = some (some x)/\te Z H fun y H1=>ti x y H1 fun z H2=>D.nx (Z.set i (some z)) H2
theorem Zqo(hN:X.N.Nodup)(hi:X.N[i]? = some x)(hx:Loc X.env.scope x)(he:PE X e te)(ho:PIp X op ti)(hf:X.fn x=true\/X.env.scope.names.lookup x=some .local:=by first|exact .inl rfl|exact .inr rfl|assumption) :
   PS X (.AugAssign (.Name x pos') op e pos) (Zup i te ti):=by
 intro pins s Z H D I h;obtain ⟨v,e1,h⟩:=h;obtain ⟨m,hn,hl⟩:=I.loc;have vis:Vis X.env.scope x:=by rcases hx with k|k;exact .inl k;exact .inr (.inl k)
 obtain ⟨u,r,l⟩:=hl i x v hi e1 vis;refine wpAny_AugAssign_Name ?_;have go:wpAny (model X.prog X.w) X.A (eval e X.env) (fun w s₂=>wpAny (model X.prog X.w) X.A (inplaceOp op u w) (fun r s₃=>wpAny (model X.prog X.w) X.A (storeName X.env x r) (fun _=>SP X pins D .next) X.xe s₃) X.xe s₂) X.xe s:=by
   refine thn (he pins s Z H _ I h) fun w s1 ⟨y,H1,I1,r1,q1⟩=>?_;refine thn (ho pins s1 Z H1 v y u w _ I1 r r1 q1) fun z s2 ⟨zv,H2,I2,r2,q2⟩=>?_;exact Zeo I2 hN hi hx r2 (fun s3 I3=>⟨_,H2,I3,q2⟩) hf
 rcases l with ⟨hk,hm⟩|⟨hk,c,hc,hcell⟩
 . exact wpAny_loadName_local I.ok.kind hk hn hm go
 . rcases hk with hk|hk
   . exact wpAny_loadName_cell I.ok.kind hk hc hcell go
   . rcases hx with k|k
     . have:X.env.scope.names.lookup x=some .free:=hk;rw [k] at this;cases this
     . have:X.env.scope.names.lookup x=some .free:=hk;rw [k] at this;cases this
noncomputable def ipI(f:Int->Int->Int):TIp:=fun x y H Q=>∃ i j,x=.int i/\y=.int j/\Q (.int (f i j)) H
theorem Zri:PIp X .Add (ipI fun i j=>i+j):=by
 intro pins s Z H x y v u Q I r1 r2 h;obtain ⟨i,j,e1,e2,q⟩:=h;subst e1;subst e2;obtain ⟨t,rfl⟩:=r1;obtain ⟨t',rfl⟩:=r2;exact iadd_int ⟨.int _,H,I.tok _,⟨_,rfl⟩,q⟩
end
section
variable {X:Cx}{pos:Pos}
noncomputable def Zk8(c:TT)(tb:TS):TS:=fun D Z H=>∃ W:Nat->St->Hp->Prop,(∃ m,W m Z H)/\∀ m Z H,W m Z H ->
 c Z H fun b H1=>if b=true then ∃ N:St->Hp->Prop,(∀ σ' H',N σ' H'->∃ m',m'<m/\W m' σ' H')/\tb {D with nx:=N,ct:=N,bk:=D.nx} Z H1 else D.nx Z H1
theorem ZlC(hp:PassesOwn (model X.prog X.w) X.A X.env X.xe)(hc:PT X c tc)(hb:PSs X body tb):PS X (.While c body [] pos) (Zk8 tc tb):=by
 intro pins s Z H D I h;obtain ⟨W,⟨m0,w0⟩,turn⟩:=h;refine wpAny_While (codeAny_whileLoop (fun n s'=>∃ σ' H',Inv X pins σ' H' s'/\W n σ' H') ?_ m0 ⟨Z,H,I,w0⟩);rintro n s1 ⟨σ1,H1,I1,w1⟩;refine wpAny_passesOwn hp (thn (hc pins s1 σ1 H1 _ I1 (turn n σ1 H1 w1)) fun b s2 ⟨H2,I2,q2⟩=>?_);cases b with
 | true =>
   obtain ⟨N,hN,q2⟩:=q2;rw [if_pos rfl];refine wpAny_passesOwn hp (thn (hb pins s2 σ1 H2 _ I2 q2) fun f s3 q3=>?_);cases f with
   | next =>
     obtain ⟨σ3,H3,I3,n3⟩:=q3;obtain ⟨m',hm,w3⟩:=hN σ3 H3 n3;exact ⟨m',hm,σ3,H3,I3,w3⟩
   | cont =>
     obtain ⟨σ3,H3,I3,n3⟩:=q3;obtain ⟨m',hm,w3⟩:=hN σ3 H3 n3;exact ⟨m',hm,σ3,H3,I3,w3⟩
   | brk=>exact q3
   | ret v=>exact q3
 | false =>
   rw [if_neg Ow];exact wpAny_execs_nil ⟨σ1,H2,I2,q2⟩
end
structure It where
 go:Nat->Hp->Prop
 yld:Nat->Hp->V->Hp->Prop
 stop:Nat->Hp->Prop
noncomputable def Zck(X:Cx)(pins:List (Addr×Obj))(H:Hp)(b:Addr):Prop :=
 H b=none/\b≠X.env.locals/\b ∉ X.fs/\(b∈X.ex\/X.s₀.heap.objs.size<=b)/\(∀ x c,X.env.cells.lookup x=some c->c≠b)/\∀ p∈X.pn++pins,p.1≠b
theorem Inv.fpOk(I:Inv X pins Z H s)(hb:s.heap.objs.size<=b)(hn:H' b=none):Zck X pins H' b:=by
 refine ⟨hn,Nat.ne_of_gt (Ot I.lt hb),I.nofs hb,.inr (OE I.sz hb),fun x c e z=>?_,fun p hp z=>?_⟩
 . obtain ⟨v,q⟩:=I.cell x c e;exact absurd (Ot q.lt (by rw [z];exact hb)) (Nat.lt_irrefl _)
 . exact absurd (Ot (Heap.lt_size (I.pin p hp).1) (by rw [z];exact hb)) (Nat.lt_irrefl _)
structure Turn(P:Program)(w:World)(K:PySem.W.Frag)(tg:Expr)(J:It)(fp:List Addr)(it:Addr)(tn:Nat->Heap->Prop):Prop where
 mem:it∈fp
 obj:∀ i h,tn i h->∀ b∈fp,∃ o,h.get? b=some o/\∀ v,o.data≠.cell v
 keep:∀ i h h',tn i h->(∀ b∈fp,∀ o,h.get? b=some o->h'.get? b=some o)->tn i h'
 item:∀ (X:Cx),X.prog=P->X.w=w->X.K=K->X.calm=true->∀ (i:Nat) (pins:List (Addr×Obj)) (s:Shared) (Z:St) (H:Hp) (E:Value->Shared->Prop),Inv X pins Z H s->(∀ b∈fp,Zck X pins H b)->tn i s.heap->J.go i H ->
   wpAny (model P w) X.A (pyNext (.ref it)) (fun r s1=>∃ u,r=some u /\
     wpAny (model P w) X.A (letOwnedTupleGo tg (.ref it) u) (fun _ s2=>∃ x H',Inv X pins Z H' s2/\RelV x u/\J.yld i H x H'/\tn (i+1) s2.heap/\∀ b∈fp,H' b=none) E s1) E s
 done:∀ (X:Cx),X.prog=P->X.w=w->X.K=K->X.calm=true->∀ (i:Nat) (pins:List (Addr×Obj)) (s:Shared) (Z:St) (H:Hp) (E:Value->Shared->Prop),Inv X pins Z H s->(∀ b∈fp,Zck X pins H b)->tn i s.heap->J.stop i H ->
   wpAny (model P w) X.A (pyNext (.ref it)) (fun r s1=>r=none/\Inv X pins Z H s1) E s
 self:∀ (A:Around) (i:Nat) (s:Shared) (Q:Value->Shared->Prop) (E:Value->Shared->Prop),tn i s.heap->Q (.ref it) s->wpAny (model P w) A (pyIter (.ref it)) Q E s
noncomputable abbrev TI:=St->Hp->(It->Hp->Prop)->Prop
noncomputable def PIE(X:Cx)(pins:List (Addr×Obj))(Z:St)(tg:Expr)(R:It->Hp->Prop)(itv:Value)(s2:Shared):Prop :=
 ∃ (it:Addr) (fp:List Addr) (tn:Nat->Heap->Prop) (J:It) (H':Hp),itv=.ref it/\Inv X pins Z H' s2/\Turn X.prog X.w X.K tg J fp it tn/\tn 0 s2.heap/\(∀ b∈fp,Zck X pins H' b)/\R J H'
noncomputable def PI(X:Cx)(tg iter:Expr)(wi:TI):Prop :=
 ∀ (pins:List (Addr×Obj)) (s:Shared) (Z:St) (H:Hp) (R:It->Hp->Prop),Inv X pins Z H s->wi Z H R ->
   wpAny (model X.prog X.w) X.A (eval iter X.env) (fun v s1=>wpAny (model X.prog X.w) X.A (pyIter v) (PIE X pins Z tg R) X.xe s1) X.xe s
theorem ZfB(ho:s.heap.get? it=some o)(hc:o.cls=.type n)(hd:o.data=.fields vs)
   (hn:["enumerate", "zip", "dict_itemiterator", "dict_reverseitemiterator", "odict_iterator", "itertools.zip_longest", "itertools.pairwise"].contains n=false) (hQ:Q () s):wpAny M A (letOwnedTupleGo tg (.ref it) u) Q E s:=by
 unfold letOwnedTupleGo;cases tg<;>first
   | exact wpAny_pure hQ
   | (cases u<;>first
       | exact wpAny_pure hQ
       | (refine wpAny_bind (wpAny_load ho ?_)
          rw [hc,hd];show wpAny M A (if (["enumerate", "zip", "dict_itemiterator", "dict_reverseitemiterator", "odict_iterator", "itertools.zip_longest", "itertools.pairwise"].contains n&&vs[0]?==some (rawInt _))=true then _ else _) Q E s;rw [if_neg (by intro h;rw [hn,Bool.false_and] at h;cases h)];exact wpAny_pure hQ))
noncomputable def Itl(K:PySem.W.Frag)(a:Addr):It :=
 ⟨fun i H=>∃ xs x,SqL K H a xs/\xs[i]? = some x,fun i H x H'=>H'=H/\∀ xs,SqL K H a xs->xs[i]? = some x,fun i H=>∃ xs,SqL K H a xs/\xs.length<=i⟩
noncomputable def Itt(K:PySem.W.Frag)(a:Addr):It :=
 ⟨fun i H=>∃ xs x,SqT K H a xs/\xs[i]? = some x,fun i H x H'=>H'=H/\∀ xs,SqT K H a xs->xs[i]? = some x,fun i H=>∃ xs,SqT K H a xs/\xs.length<=i⟩
noncomputable def Itr(lo:Int)(n:Nat):It:=⟨fun i _=>i<n,fun i H x H'=>H'=H/\x=.int (lo+i),fun i _=>n<=i⟩
theorem Zkc{P:Program}{w:World}{K:PySem.W.Frag}{tg:Expr}(a it:Addr):Turn P w K tg (Itl K a) [it] it (fun i h=>h.IsListIter it a i) where
 mem:=by simp
 obj:=fun i h st b hb=>by
   have e:b=it:=by simpa using hb
   subst e;obtain ⟨o,e,c,d⟩:=st;exact ⟨o,e,fun v z=>by rw [d] at z;cases z⟩
 keep:=fun i h h' st k=>st.at fun o e=>k it (by simp) o e
 item:=by
   intro X hP hw hK hc i pins s Z H E I hf st hg;subst hP hw hK;obtain ⟨xs,x,hq,hx⟩:=hg;obtain ⟨its,rv,p,hz⟩:=I.list hq;obtain ⟨u,hu,ru⟩:=rv.get hx;obtain ⟨f0,f1,f2,f3,f4,f5⟩:=hf it (by simp);refine wpAny_pyNext_list_item st p.isList (x:=u) (by simpa using hu) fun h' st' sb=>?_;have I1:Inv X pins Z H {s with heap:=h'}:=I.turned (t':=s.toks) (fun b o hb e=>(sb.2 b hb).trans e) f0 f1 f3 f4 f5;obtain ⟨o,e,c,d⟩:=id st';exact ⟨u,rfl,ZfB (s:={s with heap:=h'}) e c d (by decide) ⟨x,H,I1,ru,⟨rfl,fun ys hy=>by rw [I.list_inj hy hq];exact hx⟩,st',fun b hb=>(hf b hb).1⟩⟩
 done:=by
   intro X hP hw hK hc i pins s Z H E I hf st hg;subst hP hw hK;obtain ⟨xs,hq,hx⟩:=hg;obtain ⟨its,rv,p,hz⟩:=I.list hq;obtain ⟨f0,f1,f2,f3,f4,f5⟩:=hf it (by simp);have hl:=rv.length;exact wpAny_pyNext_list_end (I.ok.hd hc) st p.isList (by simp;lia) fun h' eb=>⟨rfl,I.turned (t':=s.toks) (fun b o hb e=>eb b o hb e) f0 f1 f3 f4 f5⟩
 self:=fun _ _ _ _ _ st h=>wpAny_pyIter_listiter st h
theorem Zh6{P:Program}{w:World}{K:PySem.W.Frag}{tg:Expr}(a it:Addr):Turn P w K tg (Itt K a) [it] it (fun i h=>h.IsTupleIter it a i) where
 mem:=by simp
 obj:=fun i h st b hb=>by
   have e:b=it:=by simpa using hb
   subst e;obtain ⟨o,e,c,d⟩:=st;exact ⟨o,e,fun v z=>by rw [d] at z;cases z⟩
 keep:=fun i h h' st k=>st.at fun o e=>k it (by simp) o e
 item:=by
   intro X hP hw hK hc i pins s Z H E I hf st hg;subst hP hw hK;obtain ⟨xs,x,hq,hx⟩:=hg;obtain ⟨its,rv,p,hz⟩:=I.tuple hq;obtain ⟨u,hu,ru⟩:=rv.get hx;obtain ⟨f0,f1,f2,f3,f4,f5⟩:=hf it (by simp);refine wpAny_pyNext_tuple_item st (show s.heap.IsTuple a its.toArray from p) (x:=u) (by simpa using hu) fun h' st' sb=>?_;have I1:Inv X pins Z H {s with heap:=h'}:=I.turned (t':=s.toks) (fun b o hb e=>(sb.2 b hb).trans e) f0 f1 f3 f4 f5;obtain ⟨o,e,c,d⟩:=id st';exact ⟨u,rfl,ZfB (s:={s with heap:=h'}) e c d (by decide) ⟨x,H,I1,ru,⟨rfl,fun ys hy=>by rw [I.tuple_inj hy hq];exact hx⟩,st',fun b hb=>(hf b hb).1⟩⟩
 done:=by
   intro X hP hw hK hc i pins s Z H E I hf st hg;subst hP hw hK;obtain ⟨xs,hq,hx⟩:=hg;obtain ⟨its,rv,p,hz⟩:=I.tuple hq;obtain ⟨f0,f1,f2,f3,f4,f5⟩:=hf it (by simp);have hl:=rv.length;exact wpAny_pyNext_tuple_end (I.ok.hd hc) st (show s.heap.IsTuple a its.toArray from p) (by simp;lia) fun h' eb=>⟨rfl,I.turned (t':=s.toks) (fun b o hb e=>eb b o hb e) f0 f1 f3 f4 f5⟩
 self:=fun _ _ _ _ _ st h=>wpAny_pyIter_tupleiter st h
theorem Zh7{P:Program}{w:World}{K:PySem.W.Frag}{tg:Expr}(it:Addr)(lo:Int)(n:Nat):Turn P w K tg (Itr lo n) [it] it (fun i h=>IsRangeIter h it (lo+(i:Nat) * 1) ((n:Int) - (i:Nat)) 1) where
 mem:=by simp
 obj:=fun i h st b hb=>by
   have e:b=it:=by simpa using hb
   subst e;exact ⟨_,st,fun v z=>by
     have z':Data.fields _=Data.cell v:=z;cases z'⟩
 keep:=fun i h h' st k=>k it (by simp) _ st
 item:=by
   intro X hP hw hK hc i pins s Z H E I hf st hg;subst hP hw hK;obtain ⟨f0,f1,f2,f3,f4,f5⟩:=hf it (by simp);have W:=Walks.range (prog:=X.prog) (w:=X.w) (I.ok.hd hc) it lo 1 n;refine W.item i s _ _ hg st fun v h' tk hv st' kk=>?_;obtain ⟨t,rfl⟩:=hv;have I1:Inv X pins Z H {s with heap:=h',toks:=tk}:=I.turned (fun b o hb e=>kk b o (by simpa using hb) e) f0 f1 f3 f4 f5;refine ⟨_,rfl,ZfB (s:={s with heap:=h',toks:=tk}) (n := "range_iterator") st' rfl rfl (by decide) ⟨.int (lo+i),H,I1,⟨t,?_⟩,⟨rfl,rfl⟩,st',fun b hb=>(hf b hb).1⟩⟩;rw [Int.mul_one]
 done:=by
   intro X hP hw hK hc i pins s Z H E I hf st hg;subst hP hw hK;obtain ⟨f0,f1,f2,f3,f4,f5⟩:=hf it (by simp);exact wpAny_pyNext_range_end (I.ok.hd hc) st (by have:n<=i:=hg;lia) fun h' eb=>⟨rfl,I.turned (t':=s.toks) (fun b o hb e=>eb b o hb e) f0 f1 f3 f4 f5⟩
 self:=fun _ _ _ _ _ st h=>wpAny_pyIter_rangeiter st h
end L2
namespace L2
open PySem PySem.Spec PyProof.Rows
section
variable {X:Cx}{tg:Expr}
theorem Zlm{pins:List (Addr×Obj)}{Z:St}{H:Hp}{s:Shared}{R:It->Hp->Prop}{E:Value->Shared->Prop}{lo hi:Int}{t u v:Tok}{tk:Nat}(I:Inv X pins Z H s)(h1:-(2 ^ 62)<=lo)(h2:lo<2 ^ 62)(h3:-(2 ^ 62)<=hi)(h4:hi<2 ^ 62)
   (q:R (Itr lo (hi - lo).toNat) H):wpAny (model X.prog X.w) X.A (pyIter (.ref s.heap.objs.size)) (PIE X pins Z tg R) E {s with heap:=s.heap.push {cls:=.type "range",data:=.fields #[.int lo t,.int hi u,.int 1 v]},toks:=tk}:=by
 refine wpAny_pyIter_range (IsRange.new ..) (small_one h1 h2 h3 h4) ?_;have I1:Inv X pins Z H {s with heap:=s.heap.push {cls:=.type "range",data:=.fields #[.int lo t,.int hi u,.int 1 v]},toks:=tk}:=I.kept fun b o e=>Od _ e;refine ⟨(s.heap.push {cls:=.type "range",data:=.fields #[.int lo t,.int hi u,.int 1 v]}).objs.size,[(s.heap.push {cls:=.type "range",data:=.fields #[.int lo t,.int hi u,.int 1 v]}).objs.size],_,_,H,rfl,
   I1.kept (t':=tk) fun b o e=>Od _ e,Zh7 _ lo (hi - lo).toNat,?_,fun b hb=>?_,q⟩
 . have e1:lo+((0:Nat):Int) * 1=lo:=by simp
   have e2:(((hi - lo).toNat:Nat):Int) - ((0:Nat):Int)=Builtin.Range.rangeSize lo hi 1:=by rw [rangeSize_one];split<;>lia
   show IsRangeIter _ _ (lo+((0:Nat):Int) * 1) ((((hi - lo).toNat:Nat):Int) - ((0:Nat):Int)) 1;rw [e1,e2];exact Oj _ rfl
 . have e:b=(s.heap.push {cls:=.type "range",data:=.fields #[.int lo t,.int hi u,.int 1 v]}).objs.size:=by simpa using hb
   subst e;exact I1.fpOk (Oq _) (I1.hok.fresh (Oq _))
noncomputable def Ztv(ta:TA):TI:=fun Z H R=>ta Z H fun vs H1=>∃ j:Int,vs=[.int j]/\-(2 ^ 62)<=j/\j<2 ^ 62/\R (Itr 0 j.toNat) H1
theorem Zkr {a:Expr}{ta:TA}{p pos:Pos} (hg:Gl X "range") (hm:X.mg "range" = none) (ha:PA X [a] ta) (hs:starEach [a] X.env=[(false,eval a X.env)]:=by rfl):PI X tg (.Call (.Name "range" p) [a] [] pos) (Ztv ta):=by
 intro pins s Z H R I h;refine Call_ (Zbt I hg hm boot_range (PyProof.Rows.callWith_type1 (thn (ha pos pins s Z H _ I h) fun us s1 ⟨vs,H1,I1,r1,q1⟩=>?_) hs rfl));obtain ⟨j,e,q1,q2,q⟩:=q1;subst e;cases r1 with
 | cons r rr =>
   cases rr;obtain ⟨t,rfl⟩:=r;exact call_range_1 (Zlm I1 (by lia) (by lia) q1 q2 (by simpa using q))
noncomputable def Zul(wi:TI)(g:TG)(tb:TS):TS:=fun D Z H=>wi Z H fun J H1=>∃ W:Nat->Nat->St->Hp->Prop,(∃ m,W 0 m Z H1)/\∀ i m Z H,W i m Z H ->
 (J.stop i H/\D.nx Z H)\/(J.go i H/\∃ N:St->Hp->Prop,(∀ σ' H',N σ' H'->∃ m',m'<m/\W (i+1) m' σ' H')/\∀ x H',J.yld i H x H'->g x Z H' fun σ2 H2=>tb {D with nx:=N,ct:=N,bk:=D.nx} σ2 H2)
noncomputable def Zew(fp:List Addr)(h:Heap):List (Addr×Obj):=fp.filterMap fun b=>(h.get? b).map fun o=>(b,o)
theorem ZbH(hb:b∈fp)(e:h.get? b=some o):(b,o)∈Zew fp h:=List.mem_filterMap.mpr ⟨b,hb,by rw [e];rfl⟩
theorem Zkz(hp:p∈Zew fp h):p.1∈fp/\h.get? p.1=some p.2:=by
 obtain ⟨b,hb,e⟩:=List.mem_filterMap.mp hp;cases q:h.get? b with
 | none=>rw [q] at e;cases e
 | some o =>
   rw [q] at e;have e':(b,o)=p:=Option.some.inj e;subst e';exact ⟨hb,q⟩
theorem Inv.pinned(I:Inv X pins Z H s)(hf:∀ b∈fp,Zck X pins H b)(ho:∀ b∈fp,∃ o,s.heap.get? b=some o/\∀ v,o.data≠.cell v):Inv X (pins++Zew fp s.heap) Z H s :=
 I.pins_of fun p hp=>(OD.mp hp).elim (fun z=>I.pin p (Ov _ z)) fun z=>by
   obtain ⟨hb,e⟩:=Zkz z;obtain ⟨f0,f1,f2,_⟩:=hf p.1 hb;obtain ⟨o,e',d⟩:=ho p.1 hb;rw [e] at e';cases e';exact ⟨e,f0,f1,f2,d⟩
theorem Inv.unpinned(I:Inv X (pins++pl) Z H s):Inv X pins Z H s:=I.pins_of fun p hp=>I.pin p (Ov _ (List.mem_append_left _ hp))
theorem Zqm(hp:PassesOwn (model X.prog X.w) X.A X.env X.xe)(hc:X.calm=true)(hi:PI X tg iter wi)(hg:PG X tg g)(hb:PSs X body tb)
   (hs:∀ x,foldedSetIterable iter X.env x=pure x:=by intro _;rfl):PS X (.For tg iter body [] pos) (Zul wi g tb):=by
 intro pins s Z H D I h;refine wpAny_For (thn (hi pins s Z H _ I h) fun v s1 h1=>thn h1 fun itv s2 h2=>?_) hs;obtain ⟨it,fp,tn,J,H2,e,I2,T,st2,f2,W,⟨m0,w0⟩,turn⟩:=h2;subst e;have stat:∀ {H':Hp},(∀ b∈fp,H' b=none)->∀ b∈fp,Zck X pins H' b:=fun hn b hb=>⟨hn b hb,(f2 b hb).2⟩
 refine codeAny_forLoop_any (fun n s'=>∃ i σ' H',Inv X pins σ' H' s'/\tn i s'.heap/\(∀ b∈fp,H' b=none)/\W i n σ' H') ?_ m0 ⟨0,Z,H2,I2,st2,fun b hb=>(f2 b hb).1,w0⟩;rintro n s3 ⟨i,σ3,H3,I3,st3,fr3,w3⟩;rcases turn i n σ3 H3 w3 with ⟨stop,qn⟩|⟨go,N,hN,step⟩
 . refine wpAny_passesOwn hp (thn (T.done X rfl rfl rfl hc i pins s3 σ3 H3 X.xe I3 (stat fr3) st3 stop) fun r s4 ⟨hr,I4⟩=>?_);subst hr;exact wpAny_execs_nil ⟨σ3,H3,I4,qn⟩
 . refine wpAny_passesOwn hp (thn (T.item X rfl rfl rfl hc i pins s3 σ3 H3 X.xe I3 (stat fr3) st3 go) fun r s4 ⟨u,hr,h4⟩=>?_);subst hr;refine wpAny_passesOwn hp (thn h4 fun _ s5 ⟨x,H5,I5,r5,y5,st5,fr5⟩=>?_);have I5':=I5.pinned (stat fr5) (T.obj _ _ st5);refine wpAny_passesOwn hp (thn (hg _ s5 σ3 H5 x u _ I5' r5 (step x H5 y5)) fun _ s6 ⟨σ6,H6,I6,q6⟩=>?_);refine wpAny_passesOwn hp (thn (hb _ s6 σ6 H6 _ I6 q6) fun f s7 q7=>?_);have again:∀ {σ7:St}{H7:Hp},Inv X (pins++Zew fp s5.heap) σ7 H7 s7->N σ7 H7->∃ m,m<n/\∃ i σ' H',Inv X pins σ' H' s7/\tn i s7.heap/\(∀ b∈fp,H' b=none)/\W i m σ' H':=fun {σ7 H7} I7 n7=>by
     obtain ⟨m',hm,w7⟩:=hN σ7 H7 n7;refine ⟨m',hm,i+1,σ7,H7,I7.unpinned,T.keep _ _ _ st5 fun b hb o e=>(I7.pin (b,o) (Ov _ (Ov _ (ZbH hb e)))).1,fun b hb=>?_,w7⟩;obtain ⟨o,e,d⟩:=T.obj _ _ st5 b hb;exact (I7.pin (b,o) (Ov _ (Ov _ (ZbH hb e)))).2.1
   cases f with
   | next=>obtain ⟨σ7,H7,I7,n7⟩:=q7;exact again I7 n7
   | cont=>obtain ⟨σ7,H7,I7,n7⟩:=q7;exact again I7 n7
   | brk=>obtain ⟨σ7,H7,I7,q7⟩:=q7;exact ⟨σ7,H7,I7.unpinned,q7⟩
   | ret v=>obtain ⟨x7,σ7,H7,I7,r7,q7⟩:=q7;exact ⟨x7,σ7,H7,I7.unpinned,r7,q7⟩
end
end L2
namespace L2
open PySem PySem.Spec PyProof.Rows
noncomputable abbrev R2:=V->V->Hp->VK->Prop
noncomputable def OpR(X:Cx)(f:Value->Value->Sem Value)(r:R2):Prop :=
 ∀ (pins:List (Addr×Obj)) (s:Shared) (Z:St) (H:Hp) (x y:V) (v u:Value) (Q:VK),Inv X pins Z H s->RelV x v->RelV y u->r x y H Q ->
   wpAny (model X.prog X.w) X.A (f v u) (EP X pins Z Q) X.xe s
noncomputable def UnR(X:Cx)(f:Value->Sem Value)(r:V->Hp->VK->Prop):Prop :=
 ∀ (pins:List (Addr×Obj)) (s:Shared) (Z:St) (H:Hp) (x:V) (v:Value) (Q:VK),Inv X pins Z H s->RelV x v->r x H Q ->
   wpAny (model X.prog X.w) X.A (f v) (EP X pins Z Q) X.xe s
noncomputable def Zaa(X:Cx)(f:Value)(r:List V->Hp->VK->Prop):Prop :=
 ∀ (pins:List (Addr×Obj)) (s:Shared) (Z:St) (H:Hp) (xs:List V) (us:List Value) (Q:VK),Inv X pins Z H s->Zh xs us->r xs H Q ->
   wpAny (model X.prog X.w) X.A (call f us) (EP X pins Z Q) X.xe s
noncomputable def Zvb(X:Cx)(r:V->Hp->(Bool->Hp->Prop)->Prop):Prop :=
 ∀ (pins:List (Addr×Obj)) (s:Shared) (Z:St) (H:Hp) (x:V) (v:Value) (Q:Bool->Hp->Prop),Inv X pins Z H s->RelV x v->r x H Q ->
   wpAny (model X.prog X.w) X.A (truthy v) (TP X pins Z Q) X.xe s
noncomputable def tOp(r:R2)(ta tb:TE):TE:=fun Z H Q=>ta Z H fun x H1=>tb Z H1 fun y H2=>r x y H2 Q
noncomputable def tUn(r:V->Hp->VK->Prop)(ta:TE):TE:=fun Z H Q=>ta Z H fun x H1=>r x H1 Q
noncomputable def rI(C:Int->Int->Prop)(g:Int->Int->V):R2:=fun x y H Q=>∃ i j,x=.int i/\y=.int j/\C i j/\Q (g i j) H
noncomputable def rI0(g:Int->Int->V):R2:=fun x y H Q=>∃ i j,x=.int i/\y=.int j/\Q (g i j) H
noncomputable def rU(g:Int->V):V->Hp->VK->Prop:=fun x H Q=>∃ i,x=.int i/\Q (g i) H
section
variable {X:Cx}{a b c:Expr}{ta tb tc:TE}{pos:Pos}
theorem ZrN(ha:PE X a ta)(hb:PE X b tb){pins:List (Addr×Obj)}{s:Shared}{Z:St}{H:Hp}{R:V->V->Hp->Prop}(I:Inv X pins Z H s)
   (h:ta Z H fun x H1=>tb Z H1 fun y H2=>R x y H2) {Q:Value->Shared->Prop}{f:Value->Value->Sem Value}
   (hf:∀ v u s2 x y H2,Inv X pins Z H2 s2->RelV x v->RelV y u->R x y H2->wpAny (model X.prog X.w) X.A (f v u) Q X.xe s2) :
   wpAny (model X.prog X.w) X.A (eval a X.env) (fun v s₁=>wpAny (model X.prog X.w) X.A (eval b X.env) (fun u s₂=>wpAny (model X.prog X.w) X.A (f v u) Q X.xe s₂) X.xe s₁) X.xe s:=by
 refine thn (ha pins s Z H _ I h) fun v s1 ⟨x,H1,I1,r1,q1⟩=>?_;refine thn (hb pins s1 Z H1 _ I1 q1) fun u s2 ⟨y,H2,I2,r2,q2⟩=>?_;exact hf v u s2 x y H2 I2 r1 r2 q2
theorem ZsU{op:Operator}{r:R2}(ho:OpR X (binaryOp op) r)(ha:PE X a ta)(hb:PE X b tb):PE X (.BinOp a op b pos) (tOp r ta tb):=by
 intro pins s Z H Q I h;exact wpAny_BinOp (ZrN ha hb I h fun v u s2 x y H2 I2 rx ry q=>ho pins s2 Z H2 x y v u Q I2 rx ry q)
theorem ZsS{op:UnaryOp}{r:V->Hp->VK->Prop}(ho:UnR X (unaryOp op) r)(ha:PE X a ta):PE X (.UnaryOp op a pos) (tUn r ta):=by
 intro pins s Z H Q I h;exact UnaryOp_ (thn (ha pins s Z H _ I h) fun v s1 ⟨x,H1,I1,r1,q1⟩=>ho pins s1 Z H1 x v Q I1 r1 q1)
theorem opI{f:Value->Value->Sem Value}{C:Int->Int->Prop}{g:Int->Int->Int}
   (rule:∀ (i j:Int) (t u:Tok) (s:Shared) (Q:Value->Shared->Prop) (E:Value->Shared->Prop),C i j->Q (.int (g i j) s.toks) {s with toks:=s.toks+1}->wpAny (model X.prog X.w) X.A (f (.int i t) (.int j u)) Q E s) :
   OpR X f (rI C fun i j=>.int (g i j)):=by
 intro pins s Z H x y v u Q I rx ry h;obtain ⟨i,j,rfl,rfl,hc,q⟩:=h;obtain ⟨t,rfl⟩:=rx;obtain ⟨t',rfl⟩:=ry;exact rule i j t t' s _ _ hc ⟨.int (g i j),H,I.tok _,⟨_,rfl⟩,q⟩
theorem Zs5{g:Int->Int->Int}
   (rule:∀ (i j:Int) (t u:Tok) (s:Shared) (Q:Value->Shared->Prop) (E:Value->Shared->Prop),Q (.int (g i j) s.toks) {s with toks:=s.toks+1}->wpAny (model X.prog X.w) X.A (f (.int i t) (.int j u)) Q E s) :
   OpR X f (rI0 fun i j=>.int (g i j)):=by
 intro pins s Z H x y v u Q I rx ry h;obtain ⟨i,j,rfl,rfl,q⟩:=h;obtain ⟨t,rfl⟩:=rx;obtain ⟨t',rfl⟩:=ry;exact rule i j t t' s _ _ ⟨.int (g i j),H,I.tok _,⟨_,rfl⟩,q⟩
theorem Zok{g:Int->Int->Bool}
   (rule:∀ (i j:Int) (t u:Tok) (s:Shared) (Q:Value->Shared->Prop) (E:Value->Shared->Prop),Q (.bool (g i j)) s->wpAny (model X.prog X.w) X.A (f (.int i t) (.int j u)) Q E s) :
   OpR X f (rI0 fun i j=>.bl (g i j)):=by
 intro pins s Z H x y v u Q I rx ry h;obtain ⟨i,j,rfl,rfl,q⟩:=h;obtain ⟨t,rfl⟩:=rx;obtain ⟨t',rfl⟩:=ry;exact rule i j t t' s _ _ ⟨.bl (g i j),H,I,rfl,q⟩
noncomputable def Zvd(i j:Int):Prop:=0<j/\j<1073741824
noncomputable def Zvc(i j:Int):Prop:=0<=j/\j<=1000000/\i.natAbs<2 ^ 64
theorem ZqM:OpR X (binaryOp .Add) (rI0 fun i j=>.int (i+j)):=Zs5 fun _ _ _ _ _ _ _ q=>add_int q
theorem ZqG:OpR X (binaryOp .Sub) (rI0 fun i j=>.int (i - j)):=Zs5 fun _ _ _ _ _ _ _ q=>sub_int q
theorem Zn8:OpR X (binaryOp .FloorDiv) (rI Zvd fun i j=>.int (i / j)):=opI fun i j _ _ _ _ _ hc q=>by
 have h1:(0:Int)<j:=hc.1;have h2:j<1073741824:=hc.2;exact floordiv_int (by lia) (by rw [Int.fdiv_eq_ediv_of_nonneg i (by lia)];exact q) (.inl (PyProof.noPylong_small (by lia)))
theorem ZqI:OpR X (binaryOp .Mod) (rI (fun _ j=>0<j) fun i j=>.int (i % j)):=opI fun i j _ _ _ _ _ hc q=>by
 have h1:(0:Int)<j:=hc;exact mod_int' (by lia) (by rw [Int.fmod_eq_emod_of_nonneg i (by lia)];exact q)
theorem ZqH:OpR X (binaryOp .Pow) (rI Zvc fun i j=>.int (i ^ j.toNat)):=opI fun _ _ _ _ _ _ _ hc q=>pow_int_small hc.1 hc.2.1 hc.2.2 q
theorem unI{g:Int->Int}
   (rule:∀ (i:Int) (t:Tok) (s:Shared) (Q:Value->Shared->Prop) (E:Value->Shared->Prop),Q (.int (g i) s.toks) {s with toks:=s.toks+1}->wpAny (model X.prog X.w) X.A (f (.int i t)) Q E s) :
   UnR X f (rU fun i=>.int (g i)):=by
 intro pins s Z H x v Q I rx h;obtain ⟨i,rfl,q⟩:=h;obtain ⟨t,rfl⟩:=rx;exact rule i t s _ _ ⟨.int (g i),H,I.tok _,⟨_,rfl⟩,q⟩
theorem ZpV:UnR X (unaryOp .USub) (rU fun i=>.int (-i)):=unI fun _ _ _ _ _ q=>neg_int q
end
section
variable {X:Cx}{a b c:Expr}{ta tb tc:TE}{pos:Pos}
theorem ZmA(I:Inv X pins Z H s)(q:Q (.bl k) H)(e:k=k'):EP X pins Z Q (.bool k') s:=by
 subst e;exact ⟨.bl k,H,I,rfl,q⟩
theorem ZsZ:OpR X (compareOp .Lt) (rI0 fun i j=>.bl (decide (i<j))):=Zok fun _ _ _ _ _ _ _ q=>lt_int q
theorem Zs0:OpR X (compareOp .LtE) (rI0 fun i j=>.bl (decide (i<=j))):=Zok fun _ _ _ _ _ _ _ q=>le_int q
theorem Zs1:OpR X (compareOp .Gt) (rI0 fun i j=>.bl (decide (j<i))):=Zok fun _ _ _ _ _ _ _ q=>gt_int q
theorem Zs2:OpR X (compareOp .GtE) (rI0 fun i j=>.bl (decide (j<=i))):=Zok fun _ _ _ _ _ _ _ q=>ge_int q
theorem ZqJ:OpR X (compareOp .Is) (fun x y H Q=>y=.non/\Q (.bl (decide (x=.non))) H):=by
 intro pins s Z H x y v u Q I rx ry h;obtain ⟨rfl,q⟩:=h;cases ry;refine is_none_gen (ZmA I q ?_);cases x<;>first
   | (cases rx;rfl)
   | (obtain ⟨t,rfl⟩:=rx;rfl)
theorem Zn6:OpR X (compareOp .IsNot) (fun x y H Q=>y=.non/\Q (.bl (!decide (x=.non))) H):=by
 intro pins s Z H x y v u Q I rx ry h;obtain ⟨rfl,q⟩:=h;cases ry;refine isnot_none_gen (ZmA I q ?_);cases x<;>first
   | (cases rx;rfl)
   | (obtain ⟨t,rfl⟩:=rx;rfl)
theorem Zjn{op:CmpOp}{r:R2}(ho:OpR X (compareOp op) r)(ha:PE X a ta)(hb:PE X b tb)(hm:behindInMarks op b=false):PE X (.Compare a [op] [b] pos) (tOp r ta tb):=by
 intro pins s Z H Q I h;exact wpAny_Compare1 (ZrN ha hb I h fun v u s2 x y H2 I2 rx ry q=>ho pins s2 Z H2 x y v u Q I2 rx ry q) hm
noncomputable def Zsp(t:TE):TT:=fun Z H Q=>t Z H fun x H'=>∃ k,x=.bl k/\Q k H'
theorem Zjj{op:CmpOp}{r:R2}(ho:OpR X (compareOp op) r)(ha:PE X a ta)(hb:PE X b tb)(hm:behindInMarks op b=false):PT X (.Compare a [op] [b] pos) (Zsp (tOp r ta tb)):=by
 intro pins s Z H Q I h;refine wpAny_isTrue_Compare1 (thn (ha pins s Z H _ I h) fun v s1 ⟨x,H1,I1,r1,q1⟩=>thn (hb pins s1 Z H1 _ I1 q1) fun u s2 ⟨y,H2,I2,r2,q2⟩ =>
   thn (ho pins s2 Z H2 x y v u _ I2 r1 r2 q2) fun c s3 ⟨z,H3,I3,r3,k,e,q3⟩=>?_) hm
 subst e;cases r3;exact wpAny_truthy_bool ⟨H3,I3,q3⟩
noncomputable def ZrX(K:PySem.W.Frag)(x:V)(H:Hp)(k:Bool):Prop :=
 match x with
 | .non=>k=false
 | .bl b=>k=b
 | .int i=>k=(i != 0)
 | .str y=>y.length<=sizeLine/\k=((y.length:Int) != 0)
 | .byt y=>y.size<=sizeLine/\k=((y.size:Int) != 0)
 | .ref p=>(∃ xs,SqL K H p xs/\k=!xs.isEmpty)\/(∃ xs,SqT K H p xs/\k=!xs.isEmpty)\/∃ kvs,H p=some (.dK kvs)/\k=!kvs.isEmpty
 | _=>False
theorem ZiE(r:KV kvs vs):(!vs.isEmpty)=!kvs.isEmpty:=by
 cases r<;>rfl
theorem ZeG(r:Zh xs its):(!its.toArray.isEmpty)=!xs.isEmpty:=by
 cases r<;>simp
theorem ZaT:(sizeLine:Nat)<2 ^ 63:=by rw [sizeLine_eq];decide
theorem ZpZ:Zvb X (fun x H Q=>∃ k,ZrX X.K x H k/\Q k H):=by
 intro pins s Z H x v Q I rx h;obtain ⟨k,e,q⟩:=h;have hl:=ZaT;have hs:sizeLine=16777216:=sizeLine_eq;cases x with
 | non =>
   cases rx;have e':k=false:=e;subst e';exact truthy_none ⟨H,I,q⟩
 | bl b =>
   cases rx;have e':k=b:=e;subst e';exact wpAny_truthy_bool ⟨H,I,q⟩
 | int i =>
   obtain ⟨t,rfl⟩:=rx;have e':k=(i != 0):=e;subst e';exact PySem.P.truthy_int ⟨H,I,q⟩
 | str y =>
   obtain ⟨t,rfl⟩:=rx;obtain ⟨hy,e'⟩:y.length<=sizeLine/\k=((y.length:Int) != 0):=e;subst e';exact PySem.P.truthy_str (by lia) ⟨H,I.tok _,q⟩
 | byt y =>
   obtain ⟨t,rfl⟩:=rx;obtain ⟨hy,e'⟩:y.size<=sizeLine/\k=((y.size:Int) != 0):=e;subst e';exact PySem.W.truthy_bytes (by lia) ⟨H,I.tok _,q⟩
 | ref p =>
   cases rx;have e':(∃ xs,SqL X.K H p xs/\k=!xs.isEmpty)\/(∃ xs,SqT X.K H p xs/\k=!xs.isEmpty)\/∃ kvs,H p=some (.dK kvs)/\k=!kvs.isEmpty:=e;rcases e' with ⟨xs,hx,e'⟩|⟨xs,hx,e'⟩|⟨kvs,hx,e'⟩
   . subst e';obtain ⟨its,r,pl,hz⟩:=I.list hx;have hlen:=r.length;exact wpAny_truthy_list pl.isList (by simp only [Of];lia) ⟨H,I.tok _,by rw [ZeG r];exact q⟩
   . subst e';obtain ⟨its,r,pl,hz⟩:=I.tuple hx;have hlen:=r.length;exact truthy_tuple pl (by simp only [Of];lia) ⟨H,I.tok _,by rw [ZeG r];exact q⟩
   . subst e';obtain ⟨hz,hS,vs,r,m⟩:kvs.length<=sizeLine/\(p==sysModules)=false/\∃ vs,KV kvs vs/\s.heap.DictOf (Zz X.prog X.w) p vs:=I.hok p _ hx;have hlen:kvs.length=vs.length:=Paired.length r;exact wpAny_truthy_dict hS m (by lia) ⟨H,I.tok _,by rw [ZiE r];exact q⟩
 | _=>exact (show False from e).elim
theorem ZlA(ha:PE X a ta)(he:∀ whole,isTrue a X.env whole=(do let v <- whole;standAt a.pos;holding [v] (truthy v))) :
   PT X a (fun Z H Q=>ta Z H fun x H'=>∃ k,ZrX X.K x H' k/\Q k H'):=by
 intro pins s Z H Q I h;exact isTrue_plain (thn (ha pins s Z H _ I h) fun v s1 ⟨x,H1,I1,r1,q1⟩=>ZpZ pins s1 Z H1 x v Q I1 r1 q1) (he _)
theorem Zik:OpR X (binaryOp .Add) (fun x y H Q=>∃ i j,x=.str i/\y=.str j/\i.length+j.length<=sizeLine/\Q (.str (i++j)) H):=by
 intro pins s Z H x y v u Q I rx ry h;obtain ⟨i,j,rfl,rfl,hz,q⟩:=h;obtain ⟨t,rfl⟩:=rx;obtain ⟨t',rfl⟩:=ry;exact add_str (fun t' tk=>⟨.str (i++j),H,I.tok _,⟨_,rfl⟩,q⟩) hz
theorem vals1{x:V}{us:List Value}(r:Zh [x] us):∃ u,us=[u]/\RelV x u:=by
 cases r with
 | cons r1 r2=>cases r2;exact ⟨_,rfl,r1⟩
theorem vals2{x y:V}{us:List Value}(r:Zh [x,y] us):∃ u w',us=[u,w']/\RelV x u/\RelV y w':=by
 cases r with
 | cons r1 r2 =>
   cases r2 with
   | cons r3 r4=>cases r4;exact ⟨_,_,rfl,r1,r3⟩
theorem ZfE:Zaa X (.type "int") (fun xs H Q=>(∃ i,xs=[.int i]/\Q (.int i) H)\/∃ k,xs=[.bl k]/\Q (.int (if k then 1 else 0)) H):=by
 intro pins s Z H xs us Q I r h;rcases h with ⟨i,rfl,q⟩|⟨k,rfl,q⟩
 . obtain ⟨u,rfl,t,rfl⟩:=vals1 r;exact call_int_int ⟨.int i,H,I,⟨_,rfl⟩,q⟩
 . obtain ⟨u,rfl,r1⟩:=vals1 r;cases r1;exact call_int_bool ⟨.int (if k then 1 else 0),H,I.tok _,⟨_,rfl⟩,q⟩
end
end L2
namespace L2
open PySem PySem.Spec PyProof.Rows
structure ObjM(h:Heap)(x dx C:Addr)(mA:Str->Option Value):Prop where
 obj:h.get? x=some (PySem.W.instObj C dx)
 ns:h.Ns1 dx mA
 ne:dx≠x
theorem ZkF{h:Heap}(n:h.Ns1 dx mA):∃ od,h.get? dx=some od/\∀ name,PySem.W.lookIn name od=some (mA name):=by
 obtain ⟨o,es,ep,ho,hd,hk,_,hm⟩:=n;refine ⟨o,ho,fun name=>?_⟩;have e:=hm name;unfold nsFind findBy at e;rw [<- Array.find?_toList] at e;unfold PySem.W.lookIn;rw [hd];dsimp only;split
 . rename_i y q;rw [q] at e;exact congrArg some e
 . rename_i q;rw [q] at e;have a:es.toList.any (·.refKey)=false:=by
     rw [List.any_eq_false];intro y hy;obtain ⟨z,t,hkey⟩:=hk y (Array.mem_toList_iff.mp hy);simp [DictEntry.refKey,hkey]
   have a':¬ es.toList.any (·.refKey)=true:=by rw [a];exact Ow
   rw [if_neg a'];exact congrArg some e
theorem ObjM.look(I:ObjM h x dx C mA):∃ od,PySem.W.InstAt h x (PySem.W.instObj C dx) C (some od)/\∀ name,PySem.W.lookIn name od=some (mA name) :=
 let ⟨od,ho,hl⟩:=ZkF I.ns
 ⟨od,⟨I.obj,rfl,rfl,ho⟩,hl⟩
section
variable {prog:Program}{w:World}{A:Around}{E:Value->Shared->Prop}{s:Shared}{K:PySem.W.Frag}{x dx C f:Addr}{mA:Str->Option Value}{name:Str}{v:Value}
theorem ZoH(X:K.In s.heap)(I:ObjM s.heap x dx C mA)(hg:PySem.W.plainGet K C name=true)(hh:PySem.W.hasDictIn K C=true)
   (ha:PySem.W.findIn K (.ref C) name=some none) (hv:mA name=some v) (hv':PySem.W.handedIn v=true) (h:Q v {s with toks:=s.toks+1}) :
   wpAny (model prog w) A (getAttr (.ref x) name expr) Q E s:=by
 obtain ⟨od,J,hl⟩:=I.look;exact PySem.W.get_value X J (PySem.W.plainGet_of hg).1 (PySem.W.findObj_own hh ha rfl (by rw [hl,hv])) hv' h
theorem Zmt(X:K.In s.heap)(I:ObjM s.heap x dx C mA)(hg:PySem.W.plainGet K C name=true)
   (hf:PySem.W.findIn K (.ref C) name=some (some (.ref f))) (ht:PySem.W.isFn K (.ref f)=true) (hv:mA name=none) (h:Q (.ref f,[.ref x]) s) :
   wpAny (model prog w) A (getMethod (.ref x) name pl) Q E s:=by
 obtain ⟨od,J,hl⟩:=I.look;exact PySem.W.method_fn X J (PySem.W.plainGet_of hg).1 (PySem.W.plainGet_of hg).2 hf (beq_iff_eq.mp ht) (by show (PySem.W.lookIn name od).map (·.isSome)=some false;rw [hl,hv];rfl) h
theorem Znw(X:K.In s.heap)(I:ObjM s.heap x dx C mA)
   (hs:PySem.W.findIn K (.ref C) "__setattr__" = some (some (.builtin "object.__setattr__"))) (hp:PySem.W.plainOver K C=true) (ht:PySem.W.takerIn K C name=some none) (hh:PySem.W.hasDictIn K C=true)
   (hw:PySem.Within mA ns) (hsz:ns.length<=sizeLine)
   (h:∀ h',ObjM h' x dx C (fun y=>if y=name then some v else mA y)->Heap.SameBut dx s.heap h'->Q () {s with heap:=h',toks:=s.toks+2}) :
   wpAny (model prog w) A (setAttr (.ref x) name v) Q E s:=by
 obtain ⟨od,J,hl⟩:=I.look;refine PySem.W.set_plain X J hs (PySem.W.osa_open (s:={s with toks:=s.toks+1}) (r:=none) X J hp ht fun b=>?_);obtain ⟨cd,hc,hd'⟩:=PySem.W.any_some hh;have hx:s.heap.get? x=some ⟨.ref C,some dx,.plain,#[]⟩:=I.obj;refine wpAny_bind (wpAny_pure (wpAny_bind (wpAny_bind (wpAny_loadPart hx (wpAny_bind (PySem.W.Looks.here (s:={s with toks:=s.toks+1}) (PySem.W.looks_clsIn X hc) ?_))))));rw [hd'];refine wpAny_pure (a:=some dx) (wpAny_bind (wpAny_pure (wpAny_bind ?_)));refine wpAny_nsSet1 (s:={s with toks:=s.toks+1}) I.ns fun h' hn2 hs2=>?_;obtain ⟨oD,esD,epD,hoD,hdD,hcD⟩:=hn2.count (PySem.Within.cons name v hw);refine wpAny_bind (wpAny_lookBehind hoD (by rw [hdD];exact pastItsLine_dict (OE hcD (by rw [Os];lia))) ?_);exact wpAny_pure (h _ ⟨(hs2.2 _ (Ne.symm I.ne)).trans I.obj,hn2,I.ne⟩ hs2)
theorem Zma(X:K.In s.heap)(hm:PySem.W.makesIn K C=true)
   (hi:PySem.W.findIn K (.ref C) "__init__" = some (some (.ref f))) (hf:PySem.W.typeIn K (.ref f)=some (.type "function"))
   (h:codeAny (model prog w) (A.under (.builtin "type.__call__" ⟨.ref C::vs,kw⟩)) (.call (.ref f) ⟨.ref (s.heap.objs.size+1)::vs,kw⟩) (PySem.W.InitBack (s.heap.objs.size+1) R)
     {s with heap:=(s.heap.push PySem.W.emptyDict).push (PySem.W.instObj C s.heap.objs.size)}) :
   codeAny (model prog w) A (.call (.ref C) ⟨vs,kw⟩) R s:=by
 obtain ⟨hh,g,d,t,os⟩:=s;exact PySem.W.make_core (PySem.W.makes_of X hm) (PySem.W.looks_findIn X hi) (fun self=>PySem.W.bind_fn X self hf) (.inl rfl) h
end
noncomputable def Zbp(f:Str)(v:V):List (Str×V)->List (Str×V)
 | []=>[(f,v)]
 | (g,x)::r=>if g=f then (g,v)::r else (g,x)::Zbp f v r
theorem ZdP(f g:Str)(v:V):∀ fs:List (Str×V),(Zbp f v fs).lookup g=if g=f then some v else fs.lookup g
 | []=>by
   show List.lookup g [(f,v)]=_;by_cases h:g=f
   . have hb:(g==f)=true:=beq_iff_eq.mpr h;simp only [List.lookup,hb,if_pos h]
   . have hb:(g==f)=false:=beq_eq_false_iff_ne.mpr h;simp only [List.lookup,hb,if_neg h]
 | (k,x)::r=>by
   have ih:=ZdP f g v r;rw [show Zbp f v ((k,x)::r)=(if k=f then (k,v)::r else (k,x)::Zbp f v r) from rfl];by_cases hk:k=f
   . rw [if_pos hk];by_cases h:g=k
     . have hb:(g==k)=true:=beq_iff_eq.mpr h;simp only [List.lookup,hb,if_pos (h.trans hk)]
     . have hb:(g==k)=false:=beq_eq_false_iff_ne.mpr h;simp only [List.lookup,hb,if_neg (fun e:g=f=>h (e.trans hk.symm))]
   . rw [if_neg hk];by_cases h:g=k
     . have hb:(g==k)=true:=beq_iff_eq.mpr h;simp only [List.lookup,hb,if_neg (fun e:g=f=>hk (h.symm.trans e))]
     . have hb:(g==k)=false:=beq_eq_false_iff_ne.mpr h;simp only [List.lookup,hb];exact ih
theorem Zdz(f:Str)(v:V):∀ fs:List (Str×V),f∈(Zbp f v fs).map (·.1)/\∀ g,g∈fs.map (·.1)->g∈(Zbp f v fs).map (·.1)
 | []=>⟨by simp [Zbp],fun g h=>by simp at h⟩
 | (k,x)::r=>by
   obtain ⟨i1,i2⟩:=Zdz f v r;rw [show Zbp f v ((k,x)::r)=(if k=f then (k,v)::r else (k,x)::Zbp f v r) from rfl];by_cases hk:k=f
   . rw [if_pos hk];subst hk;exact ⟨by simp,fun g h=>by simpa using h⟩
   . rw [if_neg hk];refine ⟨?_,fun g h=>?_⟩
     . rw [Op];exact Oh _ i1
     . rw [Op] at h ⊢;rcases O2.mp h with e|e
       . exact O2.mpr (.inl e)
       . exact Oh _ (i2 g e)
theorem ZdR(f:Str)(v:V):∀ fs:List (Str×V),(Zbp f v fs).length<=fs.length+1
 | []=>by simp [Zbp]
 | (k,x)::r=>by
   have ih:=ZdR f v r;rw [show Zbp f v ((k,x)::r)=(if k=f then (k,v)::r else (k,x)::Zbp f v r) from rfl];by_cases hk:k=f
   . rw [if_pos hk,Os,Os];lia
   . rw [if_neg hk,Os,Os];lia
theorem Zdp.some_of(r:Zdp (some v) o):∃ u,o=some u/\RelV v u:=by
 cases o with
 | none=>exact (show False from r).elim
 | some u=>exact ⟨u,rfl,r⟩
theorem Zdp.none_of(r:Zdp none o):o=none:=by
 cases o with
 | none=>rfl
 | some u=>exact (show False from r).elim
theorem ZkK(r:RelV v u):PySem.W.handedIn u=true:=by
 cases v with
 | non=>cases (show u=Value.none from r);rfl
 | bl b=>cases (show u=Value.bool b from r);rfl
 | int i=>obtain ⟨t,e⟩:=(show ∃ t,u=Value.int i t from r);cases e;rfl
 | str x=>obtain ⟨t,e⟩:=(show ∃ t,u=Value.str x t from r);cases e;rfl
 | byt b=>obtain ⟨t,e⟩:=(show ∃ t,u=Value.bytes b t from r);cases e;rfl
 | flt b=>obtain ⟨t,e⟩:=(show ∃ t,u=Value.float b t from r);cases e;rfl
 | ref a=>cases (show u=Value.ref a from r);rfl
 | ty n=>cases (show u=Value.type n from r);rfl
section
variable {P:Program}{w:World}{H H':Hp}{h h':Heap}{a C dx:Addr}{fs fs':List (Str×V)}
theorem Zgb(hok:HOk P w H h)(e:H a=some (.ins C dx fs)):∃ mA,ObjM h a dx C mA/\(∀ f,Zdp (fs.lookup f) (mA f))/\PySem.Within mA (fs.map (·.1))/\fs.length<=1000/\H dx=some (.own a):=by
 obtain ⟨d,z,ne,ob,mA,n,r,q⟩:=(show ZO P w H h a (.ins C dx fs) from hok a _ e)
 exact ⟨mA,⟨ob,n,ne⟩,r,q,z,d⟩
end
structure Cls(K:PySem.W.Frag)(C:Addr):Prop where
 pg:PySem.W.plainGet K C Str.empty=true
 hd:PySem.W.hasDictIn K C=true
 po:PySem.W.plainOver K C=true
 sa:PySem.W.findIn K (.ref C) "__setattr__" = some (some (.builtin "object.__setattr__"))
theorem Cls.get{K:PySem.W.Frag}(c:Cls K C)(f:Str):PySem.W.plainGet K C f=true:=c.pg
noncomputable def Zaq(K:PySem.W.Frag)(C:Addr)(f:Str):Prop:=PySem.W.findIn K (.ref C) f=some none
theorem Zaq.taker{K:PySem.W.Frag}(n:Zaq K C f):PySem.W.takerIn K C f=some none:=by
 unfold PySem.W.takerIn;rw [show PySem.W.findIn K (.ref C) f=some none from n];rfl
structure Meth(K:PySem.W.Frag)(C:Addr)(m:Str)(f:Addr):Prop where
 at_:PySem.W.findIn K (.ref C) m=some (some (.ref f))
 fn:PySem.W.isFn K (.ref f)=true
 kp:PySem.W.keepIn K (.ref f)=true
section
variable {X:Cx}{pins:List (Addr×Obj)}{Z:St}{H:Hp}{s:Shared}{a C dx:Addr}{fs:List (Str×V)}{f:Str}{v:V}{A:Around}{E:Value->Shared->Prop}
theorem ZeJ(I:Inv X pins Z H s)(e:H a=some (.ins C dx fs))(c:Cls X.K C)(n:Zaq X.K C f)(l:fs.lookup f=some v)
   (h:∀ u s',Inv X pins Z H s'->RelV v u->Q u s'):wpAny (model X.prog X.w) A (getAttr (.ref a) f b) Q E s:=by
 obtain ⟨mA,O_,r,_,_,_⟩:=Zgb I.hok e;obtain ⟨u,hu,ru⟩:=Zdp.some_of (v:=v) (o:=mA f) (by rw [<- l];exact r f);exact ZoH I.kIn O_ (c.get f) c.hd n hu (ZkK ru) (h u _ (I.tok _) ru)
theorem ZeI(I:Inv X pins Z H s)(e:H a=some (.ins C dx fs))(c:Cls X.K C)(k:Meth X.K C m g)(l:fs.lookup m=none)
   (h:Q (.ref g,[.ref a]) s):wpAny (model X.prog X.w) A (getMethod (.ref a) m pl) Q E s:=by
 obtain ⟨mA,O_,r,_,_,_⟩:=Zgb I.hok e;have hn:mA m=none:=Zdp.none_of (by rw [<- l];exact r m);exact Zmt I.kIn O_ (c.get m) k.at_ k.fn hn h
theorem Zes(I:Inv X pins Z H s)(e:H a=some (.ins C dx fs))(c:Cls X.K C)(n:Zaq X.K C f)(hl:fs.length<1000)(ry:RelV y u)
   (h:∀ s',Inv X pins Z (upd H a (.ins C dx (Zbp f y fs))) s'->Q () s'):wpAny (model X.prog X.w) A (setAttr (.ref a) f u) Q E s:=by
 obtain ⟨mA,O_,r,wi,_,ho⟩:=Zgb I.hok e;have hz:(fs.map (·.1)).length<=sizeLine:=by rw [List.length_map,sizeLine_eq];lia
 refine Znw I.kIn O_ c.sa c.po n.taker c.hd wi hz fun h' O' sb=>h _ ?_;have hd:∃ o,h'.get? dx=some o:=let ⟨o,_,_,e',_⟩:=O'.ns;⟨o,e'⟩;refine I.write (x:=a) (e:=dx) (by rw [e];exact True.intro) (.inr ho) (fun b q hb z=>(sb.2 b hb).trans z) hd ?_;refine ⟨by rw [Ze O_.ne];exact ho,?_,O_.ne,O'.obj,_,O'.ns,fun g=>?_,fun g hg=>?_⟩
 . have:=ZdR f y fs;lia
 . show Zdp ((Zbp f y fs).lookup g) (if g=f then some u else mA g);rw [ZdP];by_cases q:g=f
   . rw [if_pos q,if_pos q];exact ry
   . rw [if_neg q,if_neg q];exact r g
 . by_cases q:g=f
   . rw [q];exact (Zdz f y fs).1
   . refine (Zdz f y fs).2 g (wi g fun z=>hg ?_);show (if g=f then some u else mA g)=none;rw [if_neg q];exact z
theorem Inv.made(I:Inv X pins Z H s):Inv X pins Z (upd (upd H s.heap.objs.size (.own (s.heap.objs.size+1))) (s.heap.objs.size+1) (.ins C s.heap.objs.size []))
   {s with heap:=(s.heap.push PySem.W.emptyDict).push (PySem.W.instObj C s.heap.objs.size)}:=by
 have e1:(s.heap.push PySem.W.emptyDict).get? s.heap.objs.size=some PySem.W.emptyDict:=Oj s.heap rfl;have e2:((s.heap.push PySem.W.emptyDict).push (PySem.W.instObj C s.heap.objs.size)).get? (s.heap.objs.size+1)=some (PySem.W.instObj C s.heap.objs.size):=by
   have:=Oj (s.heap.push PySem.W.emptyDict) (o:=PySem.W.instObj C s.heap.objs.size) rfl
   rwa [Heap.size_push] at this
 have e3:(s.heap.push PySem.W.emptyDict).Ns s.heap.objs.size (fun _=>none):=⟨PySem.W.emptyDict,#[],_,e1,rfl,(fun e he=>absurd he (by simp)),fun _=>rfl⟩
 have I1:=I.laid (a:=s.heap.objs.size) (o:=.own (s.heap.objs.size+1)) (h':=s.heap.push PySem.W.emptyDict) (t':=s.toks) (fun b u q=>Od _ q) (Oq _) ⟨_,e1⟩;refine I1.laid (a:=s.heap.objs.size+1) (o:=.ins C s.heap.objs.size []) (t':=s.toks) (fun b u q=>Od _ q) (Nat.le_of_eq (Heap.size_push _ _)) ?_;have ne:s.heap.objs.size≠s.heap.objs.size+1:=Ou (OH _);refine ⟨by rw [Ze ne,Zd],Nat.zero_le _,ne,e2,fun _=>none,(Heap.Ns1.of_empty e3).at fun o q=>Od _ q,fun _=>True.intro,fun y hy=>absurd rfl hy⟩
theorem Zpd(hb:attributeBase e f env (eval e env)=eval e env)
   (h:wpAny (model prog w) A (eval e env) (fun o s₁=>wpAny (model prog w) A (getAttr o f true) Q E s₁) E s):wpAny (model prog w) A (eval (.Attribute e f pos) env) Q E s :=
 Attribute_any_ h (by rw [arm_eval_Attribute,hb])
end
noncomputable def Zum(K:PySem.W.Frag)(ta:TE)(f:Str):TE:=fun Z H Q=>ta Z H fun x H1=>∃ a C dx fs v,x=.ref a/\H1 a=some (.ins C dx fs)/\Cls K C/\Zaq K C f/\fs.lookup f=some v/\Q v H1
noncomputable def Zuu(K:PySem.W.Frag)(ta tv:TE)(f:Str):TS:=fun D Z H=>tv Z H fun y H1=>ta Z H1 fun x H2=>∃ a C dx fs,x=.ref a/\H2 a=some (.ins C dx fs)/\Cls K C/\Zaq K C f/\fs.length<1000 /\
 D.nx Z (upd H2 a (.ins C dx (Zbp f y fs)))
noncomputable def ZtV(X:Cx)(op:Operator)(rd:V->V->Hp->VK->Prop):Prop :=
 ∀ (pins:List (Addr×Obj)) (s:Shared) (Z:St) (H:Hp) (x y:V) (u v:Value) (Q:VK),Inv X pins Z H s->RelV x u->RelV y v->rd x y H Q->wpAny (model X.prog X.w) X.A (inplaceOp op u v) (EP X pins Z Q) X.xe s
noncomputable def Zny(K:PySem.W.Frag)(ta tv:TE)(rd:V->V->Hp->VK->Prop)(f:Str):TS:=fun D Z H=>ta Z H fun x H1=>∃ a C dx fs v,x=.ref a/\H1 a=some (.ins C dx fs)/\Cls K C/\Zaq K C f/\fs.lookup f=some v /\
 tv Z H1 fun y H2=>rd v y H2 fun z H3=>∃ dx' fs',H3 a=some (.ins C dx' fs')/\fs'.length<1000/\D.nx Z (upd H3 a (.ins C dx' (Zbp f z fs')))
section
variable {X:Cx}{o e value:Expr}{f:Str}{pos pos' tpos:Pos}{ta tv:TE}
theorem ZqB(he:PE X e ta)(hb:attributeBase e f X.env (eval e X.env)=eval e X.env):PE X (.Attribute e f pos) (Zum X.K ta f):=by
 intro pins s Z H Q I h;refine Zpd hb (thn (he pins s Z H _ I h) fun u s1 ⟨x,H1,I1,rx,a,C,dx,fs,v,ex,ea,c,n,l,q⟩=>?_);subst ex;obtain rfl:u=Value.ref a:=rx;exact ZeJ I1 ea c n l fun u' s2 I2 ru=>⟨v,H1,I2,ru,q⟩
theorem Zqn(ha:PE X o ta)(hv:PE X value tv)(hs:swapsWith value (some (.Attribute o f pos')) pos.line X.env=pure false):PS X (.Assign [.Attribute o f pos'] value pos) (Zuu X.K ta tv f):=by
 intro pins s Z H D I h;refine plainObj_wpAny_Assign_Attribute (thn (hv pins s Z H _ I h) fun u s1 ⟨y,H1,I1,ry,q⟩=>thn (ha pins s1 Z H1 _ I1 q) fun ov s2 ⟨x,H2,I2,rx,a,C,dx,fs,ex,ea,c,n,l,q2⟩=>?_) hs;subst ex;obtain rfl:ov=Value.ref a:=rx;exact Zes I2 ea c n l ry fun s3 I3=>⟨Z,_,I3,q2⟩
theorem Zkn(ha:PE X o ta)(hv:PE X value tv)(hop:ZtV X op rd):PS X (.AugAssign (.Attribute o f tpos) op value pos) (Zny X.K ta tv rd f):=by
 intro pins s Z H D I h;refine wpAny_AugAssign_AttributeAny (thn (ha pins s Z H _ I h) fun ov s1 ⟨x,H1,I1,rx,a,C,dx,fs,v,ex,ea,c,n,l,q⟩=>?_);subst ex;obtain rfl:ov=Value.ref a:=rx;refine ZeJ I1 ea c n l fun u s2 I2 ru=>thn (hv pins s2 Z H1 _ I2 q) fun w3 s3 ⟨y,H2,I3,ry,q3⟩=>thn (hop pins s3 Z H2 v y u w3 _ I3 ru ry q3) fun w4 s4 ⟨z,H3,I4,rz,dx',fs',ea',l',q4⟩=>?_;exact Zes I4 ea' c n l' rz fun s5 I5=>⟨Z,_,I5,q4⟩
noncomputable def ZsM:V->V->Hp->VK->Prop:=fun x y H Q=>∃ i j,x=.int i/\y=.int j/\Q (.int (i+j)) H
theorem Zrj:ZtV X .Add ZsM:=by
 rintro pins s Z H x y u v Q I rx ry ⟨i,j,rfl,rfl,q⟩;obtain ⟨t,rfl⟩:=(show ∃ t,u=Value.int i t from rx)
 obtain ⟨t',rfl⟩:=(show ∃ t',v=Value.int j t' from ry)
 exact PyProof.Rows.iadd_int ⟨.int (i+j),H,I.tok _,⟨_,rfl⟩,q⟩
end
end L2
namespace L2
open PySem PySem.Spec PyProof.Rows
structure Room(k:Nat)(A:Around):Prop where
 hd:A.handled=none
 dp:A.depth+k+5<recursionLimit
 un:A.units+4 * k+1300<cLine
 gd:A.guards=some []
theorem Room.mono(r:Room k A)(h:j<=k):Room j A:=⟨r.hd,by have:=r.dp;lia,by have:=r.un;lia,r.gd⟩
theorem Room.deeper(r:Room (k+1) A)(env:Env):Room k (A.deeper env) :=
 ⟨r.hd,by have:=r.dp;show A.depth+1+k+5<_;lia,by have:=r.un;show A.units+3+4 * k+1300<_;lia,r.gd⟩
theorem Ziu {A:Around}:(A.under (.builtin "type.__call__" ⟨.ref C::us,kw⟩)).depth=A.depth+1:=by
 first|rfl|simp [Around.under,Code.weight,Code.isCreation,Code.isGuard,Code.isCaller,Code.frames,Code.isFrame,guardIds]
theorem Zit {A:Around}:(A.under (.builtin "type.__call__" ⟨.ref C::us,kw⟩)).units=A.units+1:=by
 first|rfl|simp [Around.under,Code.cUnits,Code.frames,Code.isFrame]
theorem Room.make (r:Room (k+1) A) (C:Addr) (us:List Value) (kw:List (Str×Value)):Room k (A.under (.builtin "type.__call__" ⟨.ref C::us,kw⟩)) :=
 ⟨r.hd,by have:=r.dp;rw [Ziu];lia,by have:=r.un;rw [Zit];lia,by first|exact r.gd|simpa [Around.under,Code.weight,Code.isCreation,Code.isGuard,Code.isCaller,Code.frames,Code.isFrame,guardIds] using r.gd⟩
theorem Room.depth(r:Room k A):A.depth<recursionLimit:=by have:=r.dp;lia
noncomputable def Zp3:TA:=fun _ H Q=>Q [] H
noncomputable def Zsv(ta:TE)(tr:TA):TA:=fun Z H Q=>ta Z H fun x H1=>tr Z H1 fun xs H2=>Q (x::xs) H2
section
variable {X:Cx}{e:Expr}{es:List Expr}{te:TE}{t:TA}{pos:Pos}
theorem ZcR:PA X [] Zp3:=fun _ _ _ _ H Q I h=>Calls.spliced_nil ⟨[],H,I,.nil,h⟩
theorem ZbG(ha:PE X e te)(hr:PA X es t)(hs:starEach (e::es) X.env=(false,eval e X.env)::starEach es X.env:=by rfl):PA X (e::es) (Zsv te t):=by
 intro pos pins s Z H Q I h;rw [hs];show wpAny _ _ (spliced ((false,eval e X.env)::backTo pos (starEach es X.env))) _ _ s;refine Calls.spliced_cons (thn (ha pins s Z H _ I h) fun u s1 ⟨x,H1,I1,r1,q1⟩=>?_);exact thn (hr pos pins s1 Z H1 _ I1 q1) fun us s2 ⟨xs,H2,I2,r2,q2⟩=>⟨x::xs,H2,I2,.cons r1 r2,q2⟩
noncomputable def Zuc(t:TA):TE:=fun Z H Q=>t Z H fun xs H1=>xs.length<=sizeLine/\∀ p,H1 p=none->Q (.ref p) (upd H1 p (.tup xs))
noncomputable def Zui(t:TA):TE:=fun Z H Q=>t Z H fun xs H1=>xs.length<=sizeLine/\∀ p,H1 p=none->Q (.ref p) (upd H1 p (.lst xs))
theorem Zqt{x1}(h:PA X es t):PE X (.Tuple es x1 pos) (Zuc t):=by
 intro pins s Z H Q I hq;refine wpAny_Tuple_spliced (thn (h pos pins s Z H _ I hq) fun us s1 ⟨xs,H1,I1,r,z,q⟩=>⟨by rw [<- r.length];exact z,?_⟩);have hf:H1 s1.heap.objs.size=none:=I1.hok.fresh (Oq _);refine ⟨.ref s1.heap.objs.size,upd H1 s1.heap.objs.size (.tup xs),I1.laid (t':=s1.toks) (fun b u e=>Od _ e) (Oq _) ?_,rfl,q _ hf⟩;exact ⟨z,us,r,⟨_,Oj _ rfl,rfl,rfl,_,rfl⟩⟩
theorem Zqy(h:PA X es t):PE X (.List es pos) (Zui t):=by
 intro pins s Z H Q I hq;refine wpAny_List_spliced (thn (h pos pins s Z H _ I hq) fun us s1 ⟨xs,H1,I1,r,z,q⟩=>⟨by rw [<- r.length];exact z,?_⟩);have hf:H1 s1.heap.objs.size=none:=I1.hok.fresh (Oq _);refine ⟨.ref s1.heap.objs.size,upd H1 s1.heap.objs.size (.lst xs),I1.laid (t':=s1.toks) (fun b u e=>Od _ e) (Oq _) ?_,rfl,q _ hf⟩;exact ⟨z,us,0,r,Oj _ rfl⟩
end
noncomputable abbrev Sp:=List V->Hp->VK->XK->Prop
noncomputable abbrev CXT:=List Env->Hp->Shared->XK->Value->Shared->Prop
structure Env0(P:Program)(w:World)(K:PySem.W.Frag)(mg:Str->Option Value)(base:Heap)(A:Around)(outer:List Env)(s:Shared)(H:Hp):Prop where
 frames:A.frames=some outer
 mod:Mod K mg base
 bs:∀ b o,base.get? b=some o->s.heap.get? b=some o/\H b=none
 bsz:base.objs.size<=s.heap.objs.size
 funs:s.heap.FunFrames base outer
 frf:∀ b∈frs outer,H b=none
 hok:HOk P w H s.heap
 bare:AllBare s.gens
noncomputable def CE(outer:List Env)(P:Program)(w:World)(H:Hp)(s:Shared)(Q:VK)(u:Value)(s':Shared):Prop :=
 ∃ v H',s'.os=s.os/\AllBare s'.gens/\Un (frs outer) [] H H' s.heap s'.heap/\HOk P w H' s'.heap/\RelV v u/\Q v H'
noncomputable def CR(CX:CXT)(outer:List Env)(P:Program)(w:World)(H:Hp)(s:Shared)(Q:VK)(E:XK)(r:Result)(s':Shared):Prop :=
 match r with
 | .ok (.ret u)=>CE outer P w H s Q u s'
 | .ok _=>False
 | .error e=>CX outer H s E e s'
structure FnOk(P:Program)(w:World)(K:PySem.W.Frag)(mg:Str->Option Value)(base:Heap)(CX:CXT)(k:Nat)(f:Addr)(fd:FuncData)(ps:List Str)(sp:Sp):Prop where
 len:∀ vs H Q E,sp vs H Q E->vs.length=ps.length
 run:∀ (A:Around) (outer:List Env) (s:Shared) (H:Hp) (args:Args) (us:List Value) (vs:List V) (Q:VK) (E:XK),Room k A->Env0 P w K mg base A outer s H->BindsTo s fd args (ps.zip us)->Zh vs us->sp vs H Q E ->
   codeAny (model P w) A (.call (.ref f) args) (CR CX outer P w H s Q E) s
theorem FnOk.imp{P:Program}{w:World}{K:PySem.W.Frag}{mg:Str->Option Value}{base:Heap}{CX:CXT}{k:Nat}{f:Addr}{fd:FuncData}{ps:List Str}{sp sp':Sp}(F:FnOk P w K mg base CX k f fd ps sp)
   (h:∀ vs H Q E,sp' vs H Q E->sp vs H Q E):FnOk P w K mg base CX k f fd ps sp' :=
 ⟨fun vs H Q E q=>F.len vs H Q E (h _ _ _ _ q),fun A outer s H args us vs Q E hr he hb hv hs=>F.run A outer s H args us vs Q E hr he hb hv (h _ _ _ _ hs)⟩
theorem Env0.make{P:Program}{w:World}{K:PySem.W.Frag}{mg:Str->Option Value}{base:Heap}{A:Around}{outer:List Env}{s:Shared}{H:Hp}(e:Env0 P w K mg base A outer s H)(C:Addr)(us:List Value)(kw:List (Str×Value)) :
   Env0 P w K mg base (A.under (.builtin "type.__call__" ⟨.ref C::us,kw⟩)) outer s H:=⟨by first|exact e.frames|(simpa [Around.under,Code.envs,Code.isFrame,pushEnvs] using e.frames),e.mod,e.bs,e.bsz,e.funs,e.frf,e.hok,e.bare⟩
section
variable {X:Cx}{pins:List (Addr×Obj)}{Z:St}{H:Hp}{s s':Shared}
theorem Inv.env0(I:Inv X pins Z H s):Env0 X.prog X.w X.K X.mg X.base X.A X.stack s H :=
 ⟨I.ok.frames,I.ok.mod,I.bs,OE I.ok.bsz I.sz,I.stack,I.stkFree,I.hok,I.bare⟩
theorem Inv.after(I:Inv X pins Z H s)(h:CE X.stack X.prog X.w H s Q u s'):EP X pins Z Q u s':=by
 obtain ⟨v,H',os,bare,un,hok,r,q⟩:=h;obtain ⟨hh,g,d,t,os'⟩:=s';obtain rfl:os'=s.os:=os;exact ⟨v,H',I.call (h':=hh) (g':=g) (d':=d) (t':=t) (ch:=[]) un hok bare (fun b z=>absurd z (by simp)),r,q⟩
end
noncomputable def Zsw(sp:Sp)(dvs:List V)(E:XK)(t:TA):TE:=fun Z H Q=>t Z H fun vs H1=>sp (vs++dvs) H1 Q E
noncomputable def Zpo(C:Addr)(m:Str)(sp:Sp)(dvs:List V)(E:XK)(ta:TE)(t:TA):TE:=fun Z H Q=>ta Z H fun x H1=>∃ a dx fs,x=.ref a/\H1 a=some (.ins C dx fs)/\fs.lookup m=none /\
 t Z H1 fun vs H2=>sp (x::(vs++dvs)) H2 Q E
noncomputable def Zpp(C:Addr)(sp:Sp)(dvs:List V)(E:XK)(t:TA):TE:=fun Z H Q=>t Z H fun vs H1=>∀ x dx,H1 x=none->H1 dx=none->dx≠x ->
 sp (.ref x::(vs++dvs)) (upd (upd H1 dx (.own x)) x (.ins C dx [])) (fun v H2=>v=.non/\Q (.ref x) H2) E
noncomputable def Binds(K:PySem.W.Frag)(fd:FuncData)(ps:List Str)(ds:List Value):Prop :=
 ∀ (s:Shared) (us:List Value),K.In s.heap->(us++ds).length=ps.length->BindsTo s fd ⟨us,[]⟩ (ps.zip (us++ds))
theorem Binds.all{K:PySem.W.Frag}(h:∀ us:List Value,us.length=ps.length->bindArgs fd ⟨us,[]⟩=pure (ps.zip us)):Binds K fd ps []:=fun s us _ hl=>by
 rw [List.append_nil] at hl ⊢;exact .of_eq (h us hl)
noncomputable def Za5(CX:CXT)(X:Cx)(E:XK):Prop:=∀ (pins:List (Addr×Obj)) (Z:St) (H:Hp) (s:Shared) (e:Value) (s':Shared),Inv X pins Z H s->CX X.stack H s E e s'->X.xe e s'
section
variable {X:Cx}{CX:CXT}{k:Nat}{f C:Addr}{fd:FuncData}{ps:List Str}{sp:Sp}{dvs:List V}{ds:List Value}{E:XK}{x m:Str}{p pos apos:Pos}{e o:Expr}{es:List Expr}{ta:TE}{t:TA}
theorem Zie(F:FnOk X.prog X.w X.K X.mg X.base CX k f fd ps sp)(hr:Room k X.A)(hb:Binds X.K fd ps ds)(hd:Zh dvs ds)(hx:Za5 CX X E)
   (I:Inv X pins Z H s) (r:Zh vs us) (h:sp (vs++dvs) H Q E):wpAny (model X.prog X.w) X.A (call (.ref f) us) (EP X pins Z Q) X.xe s:=by
 have r2:Zh (vs++dvs) (us++ds):=r.append hd;have hl:(us++ds).length=ps.length:=by rw [<- r2.length];exact F.len _ _ _ _ h
 refine wpAny_call (codeAny_mono (F.run X.A X.stack s H ⟨us,[]⟩ (us++ds) (vs++dvs) Q E hr I.env0 (hb s us I.kIn hl) r2 h) fun r s' hq=>?_);cases r with
 | error e=>exact hx pins Z H s e s' I hq
 | ok fl =>
   cases fl with
   | ret u=>exact I.after hq
   | next=>exact False.elim hq
   | brk=>exact False.elim hq
   | cont=>exact False.elim hq
theorem Zn2(F:FnOk X.prog X.w X.K X.mg X.base CX k f fd ps sp)(hr:Room k X.A)(hg:Gl X x)(hm:X.mg x=some (.ref f))(hk:PySem.W.keepIn X.K (.ref f)=true)(hb:Binds X.K fd ps ds)(hd:Zh dvs ds)(hx:Za5 CX X E)
   (ha:PA X (e::es) t) (hdb:(x==("__debug__" : Str))=false:=by decide) (he:starEach (e::es) X.env=(false,eval e X.env)::starEach es X.env:=by rfl) (hpl:(backTo pos (starEach es X.env)).any (·.1)=false:=by rfl) :
   PE X (.Call (.Name x p) (e::es) [] pos) (Zsw sp dvs E t):=by
 intro pins s Z H Q I h;refine wpAny_Call_Name_kw (Zeh I hg hm ?_ hdb);refine PySem.W.callWith_K (h₀:=X.base) I.ok.mod.kin hk (thn (ha pos pins s Z H _ I h) fun us s1 ⟨vs,H1,I1,r,q⟩=>⟨I1.kIn,?_⟩) he hpl;exact Zie F hr hb hd hx I1 r q
theorem ZnX(he:PE X o ta)(c:Cls X.K C)(hm:Meth X.K C m f)(F:FnOk X.prog X.w X.K X.mg X.base CX k f fd ps sp)(hr:Room k X.A)(hb:Binds X.K fd ps ds)(hd:Zh dvs ds)(hx:Za5 CX X E)(ha:PA X (e::es) t)
   (hst:starEach (e::es) X.env=(false,eval e X.env)::starEach es X.env:=by rfl) (hpl:(backTo pos (starEach es X.env)).any (·.1)=false:=by rfl)
   (ht:eval (.Call (.Attribute o m apos) (e::es) [] pos) X.env=(do
     let ov <- eval o X.env
     standAt apos.atName
     let (f,first) <- holding [ov] (getMethod ov m pl)
     callWith pos f first (backTo pos (starEach (e::es) X.env)) (backToKw pos (keywordEach [] X.env))):=by rfl) :
   PE X (.Call (.Attribute o m apos) (e::es) [] pos) (Zpo C m sp dvs E ta t):=by
 intro pins s Z H Q I h;refine PySem.W.methodCall_KW (pl:=pl) (thn (he pins s Z H _ I h) fun u s1 ⟨x,H1,I1,rx,a,dx,fs,ex,ea,l,q⟩=>?_) ht;subst ex;obtain rfl:u=Value.ref a:=rx;refine ZeI I1 ea c hm l ?_;refine PySem.W.callWith_K (first:=[.ref a]) (h₀:=X.base) I.ok.mod.kin hm.kp (thn (ha pos pins s1 Z H1 _ I1 q) fun us s2 ⟨vs,H2,I2,r,q2⟩=>⟨I2.kIn,?_⟩) hst hpl;exact Zie (us:=.ref a::us) (vs:=.ref a::vs) F hr hb hd hx I2 (.cons rfl r) q2
theorem ZlN(he:PE X o ta)(c:Cls X.K C)(hm:Meth X.K C m f)(F:FnOk X.prog X.w X.K X.mg X.base CX k f fd ps sp)(hr:Room k X.A)(hb:Binds X.K fd ps ds)(hd:Zh dvs ds)(hx:Za5 CX X E)
   (ht:eval (.Call (.Attribute o m apos) [] [] pos) X.env=(do
     let ov <- eval o X.env
     standAt apos.atName
     let (f,first) <- holding [ov] (getMethod ov m pl)
     callWith pos f first (backTo pos (starEach [] X.env)) (backToKw pos (keywordEach [] X.env))):=by rfl) :
   PE X (.Call (.Attribute o m apos) [] [] pos) (Zpo C m sp dvs E ta Zp3):=by
 intro pins s Z H Q I h;refine PySem.W.methodCall_KW (pl:=pl) (thn (he pins s Z H _ I h) fun u s1 ⟨x,H1,I1,rx,a,dx,fs,ex,ea,l,q⟩=>?_) ht;subst ex;obtain rfl:u=Value.ref a:=rx;refine ZeI I1 ea c hm l ?_;exact PySem.W.callWith_K0 (first:=[.ref a]) I1.kIn hm.kp (Zie (us:=[.ref a]) (vs:=[.ref a]) F hr hb hd hx I1 (.cons rfl .nil) q)
structure Mk(K:PySem.W.Frag)(C f:Addr):Prop where
 makes:PySem.W.makesIn K C=true
 init:PySem.W.findIn K (.ref C) "__init__" = some (some (.ref f))
 fn:PySem.W.isFn K (.ref f)=true
 kp:PySem.W.keepIn K (.ref C)=true
theorem ZgU(M:Mk X.K C f)(F:FnOk X.prog X.w X.K X.mg X.base CX k f fd ps sp)(hr:Room (k+1) X.A)(hb:Binds X.K fd ps ds)(hd:Zh dvs ds)
   (hx:Za5 CX X E) (I:Inv X pins Z H s) (r:Zh vs us)
   (h:∀ x dx,H x=none->H dx=none->dx≠x->sp (.ref x::(vs++dvs)) (upd (upd H dx (.own x)) x (.ins C dx [])) (fun v H2=>v=.non/\Q (.ref x) H2) E) :
   wpAny (model X.prog X.w) X.A (call (.ref C) us) (EP X pins Z Q) X.xe s:=by
 have hq:=h (s.heap.objs.size+1) s.heap.objs.size (I.hok.fresh (Nat.le_succ _)) (I.hok.fresh (Oq _)) (Ou (OH _));have I2:=Inv.made (C:=C) I;have r2:Zh (V.ref (s.heap.objs.size+1)::(vs++dvs)) (Value.ref (s.heap.objs.size+1)::(us++ds)):=.cons rfl (r.append hd);have hl:(Value.ref (s.heap.objs.size+1)::us++ds).length=ps.length:=by
   have e:=r2.length;rw [F.len _ _ _ _ hq] at e;exact e.symm
 refine wpAny_call (Zma (f:=f) I.kIn M.makes M.init (beq_iff_eq.mp M.fn) (codeAny_mono (F.run _ X.stack _ _ ⟨Value.ref (s.heap.objs.size+1)::us,[]⟩ (Value.ref (s.heap.objs.size+1)::(us++ds)) _ _ E (hr.make C us [])
   (I2.env0.make C us []) (hb _ (Value.ref (s.heap.objs.size+1)::us) I2.kIn hl) r2 hq) fun r s' hq'=>?_))
 cases r with
 | error e=>exact hx pins Z _ _ e s' I2 hq'
 | ok fl =>
   cases fl with
   | ret u =>
     obtain ⟨v,H',I3,rv,ev,q3⟩:=I2.after hq';subst ev;exact ⟨rv,⟨V.ref (s.heap.objs.size+1),H',I3,rfl,q3⟩⟩
   | next=>exact False.elim hq'
   | brk=>exact False.elim hq'
   | cont=>exact False.elim hq'
theorem ZnY(M:Mk X.K C f)(F:FnOk X.prog X.w X.K X.mg X.base CX k f fd ps sp)(hr:Room (k+1) X.A)(hg:Gl X x)(hm:X.mg x=some (.ref C))(hb:Binds X.K fd ps ds)(hd:Zh dvs ds)(hx:Za5 CX X E)
   (ha:PA X (e::es) t) (hdb:(x==("__debug__" : Str))=false:=by decide) (he:starEach (e::es) X.env=(false,eval e X.env)::starEach es X.env:=by rfl) (hpl:(backTo pos (starEach es X.env)).any (·.1)=false:=by rfl) :
   PE X (.Call (.Name x p) (e::es) [] pos) (Zpp C sp dvs E t):=by
 intro pins s Z H Q I h;refine wpAny_Call_Name_kw (Zeh I hg hm ?_ hdb);refine PySem.W.callWith_K (h₀:=X.base) I.ok.mod.kin M.kp (thn (ha pos pins s Z H _ I h) fun us s1 ⟨vs,H1,I1,r,q⟩=>⟨I1.kIn,?_⟩) he hpl;exact ZgU M F hr hb hd hx I1 r q
theorem ZlO(M:Mk X.K C f)(F:FnOk X.prog X.w X.K X.mg X.base CX k f fd ps sp)(hr:Room (k+1) X.A)(hg:Gl X x)(hm:X.mg x=some (.ref C))(hb:Binds X.K fd ps ds)(hd:Zh dvs ds)(hx:Za5 CX X E)
   (hdb:(x==("__debug__" : Str))=false:=by decide):PE X (.Call (.Name x p) [] [] pos) (Zpp C sp dvs E Zp3):=by
 intro pins s Z H Q I h;refine wpAny_Call_Name_kw (Zeh I hg hm ?_ hdb);exact PySem.W.callWith_K0 I.kIn M.kp (ZgU (us:=[]) M F hr hb hd hx I .nil h)
end
structure FnScope(N P:List Str)(sc:Scope):Prop where
 kind:sc.kind=.function
 co:sc.isCoroutine=false
 gen:sc.isGenerator=false
 nd:N.Nodup
 pre:N.take P.length=P
 par:∀ x∈P,sc.names.lookup x=some .local\/sc.names.lookup x=some .cell
 nofree:∀ y∈sc.names,y.2≠.free
theorem ZfG{kindOf:Str->Option NameKind}:∀ {binds:List (Str×Value)}{m:Str->Option Value},(∀ v,(x,v) ∉ binds)->bindL kindOf binds m x=m x
 | [],_,_=>rfl
 | (n,v)::r,m,h=>by
   unfold bindL;rw [ZfG fun w hw=>h w (Oh _ hw)];split
   . have:x≠n:=by rintro rfl;exact h v Oi
     simp [this]
   . rfl
theorem ZfI{kindOf:Str->Option NameKind}:∀ {binds:List (Str×Value)}{m:Str->Option Value},(∀ v,(x,v) ∉ binds)->bindC kindOf binds m x=m x
 | [],_,_=>rfl
 | (n,v)::r,m,h=>by
   unfold bindC;rw [ZfI fun w hw=>h w (Oh _ hw)];split
   . rfl
   . have:x≠n:=by rintro rfl;exact h v Oi
     simp [this]
theorem ZfH{kindOf:Str->Option NameKind}:∀ {P:List Str}{vs:List Value}{i:Nat}{m:Str->Option Value},P.Nodup->P[i]? = some x->vs[i]? = some v->kindOf x=some .local ->
   bindL kindOf (P.zip vs) m x=some v
 | [],_,_,_,_,h,_,_=>by simp at h
 | _::_,[],_,_,_,_,h,_=>by simp at h
 | p::P,w::vs,0,m,nd,h1,h2,hk=>by
   simp at h1 h2;subst h1;subst h2;show bindL kindOf ((p,w)::P.zip vs) m p=_;unfold bindL;rw [ZfG fun v hv=>(List.nodup_cons.mp nd).1 (List.of_mem_zip hv).1,if_pos hk];simp
 | p::P,w::vs,i+1,m,nd,h1,h2,hk=>by
   show bindL kindOf ((p,w)::P.zip vs) m x=_;unfold bindL;exact ZfH (i:=i) (List.nodup_cons.mp nd).2 (by simpa using h1) (by simpa using h2) hk
theorem ZfJ{kindOf:Str->Option NameKind}:∀ {P:List Str}{vs:List Value}{i:Nat}{m:Str->Option Value},P.Nodup->P[i]? = some x->vs[i]? = some v->kindOf x≠some .local ->
   bindC kindOf (P.zip vs) m x=some v
 | [],_,_,_,_,h,_,_=>by simp at h
 | _::_,[],_,_,_,_,h,_=>by simp at h
 | p::P,w::vs,0,m,nd,h1,h2,hk=>by
   simp at h1 h2;subst h1;subst h2;show bindC kindOf ((p,w)::P.zip vs) m p=_;unfold bindC;rw [ZfI fun v hv=>(List.nodup_cons.mp nd).1 (List.of_mem_zip hv).1,if_neg hk];simp
 | p::P,w::vs,i+1,m,nd,h1,h2,hk=>by
   show bindC kindOf ((p,w)::P.zip vs) m x=_;unfold bindC;exact ZfJ (i:=i) (List.nodup_cons.mp nd).2 (by simpa using h1) (by simpa using h2) hk
noncomputable def start(N:List Str)(vs:List V):St:=vs.map some++List.replicate (N.length - vs.length) none
noncomputable def ZiO(CX:CXT)(P:Program)(w:World)(K:PySem.W.Frag)(mg:Str->Option Value)(base:Heap)(N:List Str)(qual:Str)(scope:Scope)(f:Addr)(cd:Value)(A:Around)(outer:List Env)(s:Shared)(H:Hp)(E:XK):Cx where
 prog:=P
 w:=w
 K:=K
 mg:=mg
 base:=base
 A:=A.deeper (envOfC qual scope s.heap.objs.size f cd)
 N:=N
 s₀:=s
 H₀:=H
 env:=envOfC qual scope s.heap.objs.size f cd
 outer:=outer
 stack:=envOfC qual scope s.heap.objs.size f cd::outer
 ex:=[]
 calm:=true
 fn:=fun _=>true
 pn:=[]
 xe:=fun e s'=>wpAny (model P w) (A.deeper (envOfC qual scope s.heap.objs.size f cd)) (leaving (envOfC qual scope s.heap.objs.size f cd) e) (fun _ s''=>CX outer H s E e s'') (fun e' s''=>CX outer H s E e' s'') s'
theorem ZhI{sc:Scope}(h:sc.names.lookup x=some .cell):∃ c,(cellsFrom n sc.names []).lookup x=some c:=by
 have q:=PySem.W.cellsFrom_some sc.names n [] (.inl h);exact Option.isSome_iff_exists.mp q
theorem ZkI{CX:CXT}{P:Program}{w:World}{K:PySem.W.Frag}{mg:Str->Option Value}{base:Heap}{N ps:List Str}{qual:Str}{scope:Scope}{f:Addr}{cd:Value}{A:Around}{outer:List Env}{s s1:Shared}{H:Hp}{E:XK}{us:List Value}{vs:List V}
   (S_:FnScope N ps scope) (hd:A.handled=none) (e0:Env0 P w K mg base A outer s H) (hl:vs.length=ps.length) (r:Zh vs us)
   (x:InCallC s s.heap.objs.size (bindL (envOfC qual scope s.heap.objs.size f cd).kindOf (ps.zip us) fun _=>none) (cellsFrom (s.heap.objs.size+1) scope.names []) (bindC (envOfC qual scope s.heap.objs.size f cd).kindOf (ps.zip us) fun _=>none) s1) :
   Inv (ZiO CX P w K mg base N qual scope f cd A outer s H E) [] (start N vs) H s1:=by
 have hpl:ps.length<=N.length:=by have:=congrArg List.length S_.pre;rw [List.length_take] at this;lia
 obtain ⟨h1,tk,rfl,hk⟩:=x.done;have noA:∀ b:Addr,b ∉ (ZiO CX P w K mg base N qual scope f cd A outer s H E).ex:=fun b z=>absurd (show b∈([]:List Addr) from z) (by simp);refine ⟨⟨e0.mod,S_.kind,rfl,rfl,Oq _,fun y z c h1 h2=>?_,fun y hy=>?_,fun y c _ h=>?_,fun _=>hd,Around.frames_deeper e0.frames,.inr ⟨rfl,rfl⟩,fun b z=>absurd z (noA b),e0.bs,e0.bsz,fun b _ _=>noA b,fun b z=>absurd z (noA b),e0.funs,e0.frf⟩,
   rfl,e0.bare,Un.kept hk,⟨_,x.toInCall.ns,fun i y v h1 h2 h3=>?_⟩,fun y c h=>⟨_,x.cell y c h⟩,e0.hok.fresh (Oq _),fun y c h=>?_,fun p hp=>absurd (show p∈([]:List (Addr×Obj)) from hp) (by simp),e0.hok.kept hk,?_⟩
 . exact name_of_addr x.apart (PySem.mem_of_lookup h1) (PySem.mem_of_lookup h2)
 . have hy:scope.names.lookup y=some .cell\/scope.names.lookup y=some .free:=hy;rcases hy with hy|hy
   . exact ZhI hy
   . exact absurd rfl (S_.nofree _ (PySem.mem_of_lookup hy))
 . exact Nat.le_of_lt (x.above y c (PySem.mem_of_lookup h))
 . have hi:i<vs.length:=by
     unfold start at h2;by_cases hi:i<vs.length
     . exact hi
     . rw [Om (by simpa using hi)] at h2;rw [List.getElem?_replicate] at h2;split at h2<;>cases h2
   have ha:vs[i]? = some v:=by
     unfold start at h2;rw [Oe (by simpa using hi),On] at h2;cases e:vs[i]? with
     | none=>rw [e] at h2;cases h2
     | some a=>rw [e] at h2;cases h2;rfl
   obtain ⟨u,hu,rv⟩:=r.get ha;have hp:ps[i]? = some y:=by
     rw [<- S_.pre,List.getElem?_take_of_lt (by lia)];exact h1
   have ndP:ps.Nodup:=by rw [<- S_.pre];exact S_.nd.sublist (List.take_sublist _ _)
   refine ⟨u,rv,?_⟩;rcases S_.par y (O1 hp) with k|k
   . exact .inl ⟨k,ZfH ndP hp hu k⟩
   . obtain ⟨c,e⟩:=ZhI (n:=s.heap.objs.size+1) k;refine .inr ⟨.inl k,c,e,?_⟩;have q:=x.cell y c e;rw [ZfJ ndP hp hu (by show scope.names.lookup y≠_;rw [k];decide)] at q;exact q
 . exact e0.hok.fresh (Nat.le_of_lt (x.above y c (PySem.mem_of_lookup h)))
 . unfold start;show _=N.length;rw [OA,List.length_map,List.length_replicate]
   lia
theorem Ztz{CX:CXT}{P:Program}{w:World}{K:PySem.W.Frag}{mg:Str->Option Value}{base:Heap}{k:Nat}{f:Addr}{name qual:Str}{params:Arguments}{body:List Stmt}{scope:Scope}{dV kV doc pm cdv ct oc:Value}{an od:Option Addr}
   {osl:Array (Option Value)}{N ps:List Str}{sp:Sp} (lk:K.lookup f=some ⟨oc,od,.func (PySem.W.fnOf name qual params body scope dV kV doc pm an cdv ct),osl⟩) (hcd:PySem.W.codeIn K cdv qual=true) (S_:FnScope N ps scope)
   (len:∀ vs H Q E,sp vs H Q E->vs.length=ps.length)
   (hbody:∀ (A:Around) (outer:List Env) (s:Shared) (H:Hp) (vs:List V) (Q:VK) (E:XK),Room k (A.deeper (envOfC qual scope s.heap.objs.size f cdv))->sp vs H Q E ->
     ∃ t,PSs (ZiO CX P w K mg base N qual scope f cdv A outer s H E) body t/\t {nx:=fun _ H'=>Q .non H',rt:=Q} (start N vs) H) :
   FnOk P w K mg base CX (k+1) f (PySem.W.fnOf name qual params body scope dV kV doc pm an cdv ct) ps sp:=by
 refine ⟨len,fun A outer s H args us vs Q E hr e0 hb r hsp=>?_⟩;have hl:=len _ _ _ _ hsp;have KX:K.In s.heap:=e0.mod.kin.keeps fun b o e=>(e0.bs b o e).1;have lim:s.heap.NoLimit:=e0.mod.nolimit.keeps fun b o e=>(e0.bs b o e).1;have hkind:∀ y∈ps.zip us,scope.names.lookup y.1=some .local\/(scope.names.lookup y.1=some .cell/\((cellsFrom (s.heap.objs.size+1) scope.names []).lookup y.1).isSome=true):=fun ⟨n,v⟩ hy=>by
   rcases S_.par n (List.of_mem_zip hy).1 with q|q
   . exact .inl q
   . exact .inr ⟨q,PySem.W.cellsFrom_some _ _ _ (.inl q)⟩
 refine codeAny_call_function hr.depth (KX _ _ lk) rfl S_.co S_.gen rfl (PySem.W.codeRec_of KX hcd) (hb _ _ _ _ ?_);refine wpAny_newFunctionEnv_cells S_.kind hkind fun env he s1 x=>?_;subst he;refine ⟨lim.keeps x.toInCall.keep,codeAny_func ?_⟩;obtain ⟨t,ht,hq⟩:=hbody A outer s H vs Q E (hr.deeper _) hsp;have I:Inv (ZiO CX P w K mg base N qual scope f cdv A outer s H E) [] (start N vs) H s1:=ZkI S_ hr.hd e0 hl r x;refine wpAny_mono (ht [] s1 (start N vs) H _ I hq) (fun fl s' hs=>?_) fun e s' hs=>hs;have fin:∀ {σ':St}{H':Hp}{v:V}{u:Value},Inv (ZiO CX P w K mg base N qual scope f cdv A outer s H E) [] σ' H' s'->RelV v u->Q v H'->CE outer P w H s Q u s' :=
   fun {σ' H' v u} J rv q=>⟨v,H',J.os,J.bare,J.base,J.hok,rv,q⟩
 cases fl with
 | ret u =>
   obtain ⟨v,σ',H',J,rv,q⟩:=hs;exact fin J rv q
 | next =>
   obtain ⟨σ',H',J,q⟩:=hs;exact fin (v:=V.non) (u:=Value.none) J rfl q
 | brk =>
   obtain ⟨_,_,_,q⟩:=hs;exact False.elim q
 | cont =>
   obtain ⟨_,_,_,q⟩:=hs;exact False.elim q
end L2
namespace L2
open PySem PySem.Spec PyProof.Rows
section
variable {X:Cx}{x:Str}{p pos:Pos}{e:Expr}{es:List Expr}{t:TA}{id T:String}{r:List V->Hp->VK->Prop}
noncomputable def tCB(r:List V->Hp->VK->Prop)(t:TA):TE:=fun Z H Q=>t Z H fun vs H1=>r vs H1 Q
theorem Zc6 (hc:Zaa X (.builtin id) r) (hg:Gl X x) (hm:X.mg x=none) (hv:bootBuiltins x=some (.builtin id)) (ha:PA X (e::es) t) (hn:x ≠ "__name__" := by decide) (hdb:(x==("__debug__" : Str))=false:=by decide)
   (he:starEach (e::es) X.env=(false,eval e X.env)::starEach es X.env:=by rfl) (hpl:(backTo pos (starEach es X.env)).any (·.1)=false:=by rfl):PE X (.Call (.Name x p) (e::es) [] pos) (tCB r t):=by
 intro pins s Z H Q I h;refine wpAny_Call_Name_kw (Zbt I hg hm hv ?_ hn hdb);exact PyProof.Rows.callWith_builtin1 (thn (ha pos pins s Z H _ I h) fun us s1 ⟨vs,H1,I1,r1,q1⟩=>hc pins s1 Z H1 vs us Q I1 r1 q1) he hpl
theorem Zbz (hc:Zaa X (.type T) r) (hg:Gl X x) (hm:X.mg x=none) (hv:bootBuiltins x=some (.type T)) (ha:PA X (e::es) t) (hn:x ≠ "__name__" := by decide) (hdb:(x==("__debug__" : Str))=false:=by decide)
   (he:starEach (e::es) X.env=(false,eval e X.env)::starEach es X.env:=by rfl) (hpl:(backTo pos (starEach es X.env)).any (·.1)=false:=by rfl):PE X (.Call (.Name x p) (e::es) [] pos) (tCB r t):=by
 intro pins s Z H Q I h;refine wpAny_Call_Name_kw (Zbt I hg hm hv ?_ hn hdb);exact PyProof.Rows.callWith_type1 (thn (ha pos pins s Z H _ I h) fun us s1 ⟨vs,H1,I1,r1,q1⟩=>hc pins s1 Z H1 vs us Q I1 r1 q1) he hpl
end
end L2
namespace HT
open PySem PyProof.Rows
section
variable {prog:Program}{w:World}{A:Around}{E:Value->Shared->Prop}{s:Shared}
theorem ZoY(ht:IsTup s.heap t vs.toArray)(hb:IsTup s.heap b ws.toArray)(hv:vs≠[])
   (h1:ws=[]->Q (.ref t) s) (h2:ws≠[]->Q (.ref s.heap.objs.size) {s with heap:=s.heap.push {cls:=.type "tuple",data:=.seq (vs++ws).toArray}})
   (hsz:vs.length+ws.length<=sizeLine):wpAny (model prog w) A (binaryOp .Add (.ref t) (.ref b)) Q E s:=by
 obtain ⟨⟨cls,dd,data,sl⟩,ho,hc,n,hd⟩:=id ht;obtain ⟨⟨cls2,dd2,data2,sl2⟩,ho2,hc2,n2,hd2⟩:=id hb;simp only at hc hd hc2 hd2;subst hc hd hc2 hd2;have e:vs.toArray++ws.toArray=(vs++ws).toArray:=by simp
 by_cases hw:ws=[]
 . exact concat_meets ⟨_,ho,rfl⟩ ⟨_,ho2,rfl⟩ noFill_tuple_add seq_tuple_add PySem.F.slot_tuple_add PySem.F.entry_tuple_add (PySem.F.args_tuple_add_2 _ _)
     (tuple_addW1 t b vs.toArray ws.toArray n n2 dd dd2 sl sl2 (by simpa using hv) (by simp [hw])) ⟨ho,ho2,h1 hw⟩
 . refine concat_meets ⟨_,ho,rfl⟩ ⟨_,ho2,rfl⟩ noFill_tuple_add seq_tuple_add PySem.F.slot_tuple_add PySem.F.entry_tuple_add (PySem.F.args_tuple_add_2 _ _)
     (tuple_addW2 t b vs.toArray ws.toArray n n2 dd dd2 sl sl2 (by simpa using hv) (by simpa using hw) (by rw [Of,Of];exact hsz)) ⟨ho,ho2,?_⟩
   rw [e];exact h2 hw
noncomputable def sIx(n d:Nat):Option Int->Nat
 | none=>d
 | some v=>if v<0 then (v+(n:Int)).toNat else min v.toNat n
theorem Zqb(n d:Nat)(hd:d<=n)(o:Option Int):sIx n d o<=n:=by
 cases o with
 | none=>exact hd
 | some v =>
   show (if v<0 then (v+(n:Int)).toNat else min v.toNat n)<=n;by_cases hv:v<0
   . rw [if_pos hv];lia
   . rw [if_neg hv];exact Nat.min_le_right _ _
theorem ZjR(v:Int)(n d:Nat):(if v<0 then max (v+(n:Int)) 0 else min v (n:Int))=((sIx n d (some v):Nat):Int):=by
 show (if v<0 then max (v+(n:Int)) 0 else min v (n:Int))=(((if v<0 then (v+(n:Int)).toNat else min v.toNat n):Nat):Int)
 by_cases hv:v<0
 . simp only [if_pos hv];lia
 . simp only [if_neg hv];lia
theorem ZiX(lo hi:Option Int)(n:Nat):Builtin.Slice.sliceAdjust lo hi 1 (n:Int)=(((sIx n 0 lo:Nat):Int),((sIx n n hi:Nat):Int)):=by
 have h1:¬ ((1:Int)<0):=by lia
 unfold Builtin.Slice.sliceAdjust;simp only [h1,if_false];refine Prod.ext ?_ ?_
 . cases lo with
   | none=>rfl
   | some v=>exact ZjR v n 0
 . cases hi with
   | none=>rfl
   | some v=>exact ZjR v n n
theorem Zij(i j:Nat):Builtin.Slice.slicePlaces (i:Int) (j:Int) 1=j - i:=by
 unfold Builtin.Slice.slicePlaces;have h1:(1:Int) > 0:=by lia
 simp only [h1,if_true,Int.ediv_one];split<;>lia
theorem Zeq(p:IsPart v o)(h:Q o s):wpAny (model prog w) A (Builtin.Slice.slicePartIndex v) Q E s:=by
 cases p with
 | none=>exact slicePart_none h
 | int i t=>exact slicePart_int h
theorem Zby{sl:Addr}{vl vu:Value}{lo hi:Option Int}{n:Nat}{Q:Int×Int×Nat->Shared->Prop}(hs:s.heap.IsSliceOf sl vl vu .none)(pl:IsPart vl lo)(pu:IsPart vu hi)
   (h:Q (((sIx n 0 lo:Nat):Int),1,sIx n n hi - sIx n 0 lo) s):wpAny (model prog w) A (Builtin.Slice.sliceApplied (.ref sl) (pure (n:Int))) Q E s:=by
 obtain ⟨os,hos,hcs,hds⟩:=id hs;unfold Builtin.Slice.sliceApplied Builtin.Slice.sliceFields;refine wpAny_bind (wpAny_bind (wpAny_field hos hds (x:=vl) rfl (wpAny_bind (wpAny_field hos hds (x:=vu) rfl (wpAny_bind (wpAny_field hos hds (x:=.none) rfl (wpAny_pure ?_)))))));refine wpAny_bind (slicePart_none ?_);show wpAny _ _ (if ((1:Int)==0)=true then _ else _) _ _ s;rw [if_neg (by decide)];refine wpAny_bind (Zeq pl (wpAny_bind (Zeq pu (wpAny_bind (wpAny_pure ?_)))));show wpAny _ _ (match Builtin.Slice.sliceAdjust lo hi 1 (n:Int) with|(lo,hi)=>pure (lo,(1:Int),Builtin.Slice.slicePlaces lo hi 1)) _ _ s;rw [ZiX lo hi n];show wpAny _ _ (pure (((sIx n 0 lo:Nat):Int),(1:Int),Builtin.Slice.slicePlaces ((sIx n 0 lo:Nat):Int) ((sIx n n hi:Nat):Int) 1)) _ _ s;rw [Zij];exact wpAny_pure h
theorem ZlI(xs:Array Value)(i k:Nat):((List.range k).filterMap fun (m:Nat)=>xs[((i:Int)+(m:Int) * 1).toNat]?).toArray=((xs.toList.drop i).take k).toArray:=by
 have e:(fun (m:Nat)=>xs[((i:Int)+(m:Int) * 1).toNat]?)=fun m=>xs[i+m]? := by
   funext m;have:((i:Int)+(m:Int) * 1).toNat=i+m:=by lia
   rw [this]
 rw [e];have:=pick_run xs i k;rw [List.filterMap_map] at this;have e2:((fun x=>xs[x]?) ∘ fun x=>i+x)=fun m=>xs[i+m]? := rfl;rw [e2] at this;rw [this]
theorem Zdb{t sl:Addr}{items:Array Value}{vl vu:Value}{lo hi:Option Int}{Q:Value->Shared->Prop}(ht:IsTup s.heap t items)(hs:s.heap.IsSliceOf sl vl vu .none)(pl:IsPart vl lo)(pu:IsPart vu hi)
   (hw:¬ (sIx items.size 0 lo=0/\sIx items.size items.size hi=items.size))
   (h:Q (.ref s.heap.objs.size) {s with heap:=s.heap.push {cls:=.type "tuple",data:=.seq ((items.toList.drop (sIx items.size 0 lo)).take (sIx items.size items.size hi - sIx items.size 0 lo)).toArray}})
   (hsz:items.size<=sizeLine):wpAny (model prog w) A (getItem (.ref t) (.ref sl)) Q E s:=by
 have htake:sizeOk (.seq ((items.toList.drop (sIx items.size 0 lo)).take (sIx items.size items.size hi - sIx items.size 0 lo)).toArray):=by
   show ((items.toList.drop (sIx items.size 0 lo)).take (sIx items.size items.size hi - sIx items.size 0 lo)).toArray.size<=sizeLine;rw [Of,List.length_take,List.length_drop,Array.length_toList]
   lia
 have hj:sIx items.size items.size hi<=items.size:=Zqb _ _ (Oq _) hi;obtain ⟨os,hos,hcs,hds⟩:=id hs;have hTs:s.TypeIs (.ref sl) "slice" := ⟨os,hos,hcs⟩
 unfold getItem
 try with_reducible refine wpAny_holding ?_
 first|refine wpAny_bind (wpAny_pure ?_)|skip
 refine wpAny_bind (wpAny_sequenceKey ht.typeIs (by decide) ?_);refine wpAny_bind (wpAny_callSpecial?_slot (name:=O "__getitem__") ht.typeIs PyProof.Rows.slot_tuple_getitem
   (wpAny_call_entry PyProof.Rows.slot_tuple_getitem ht.typeIs entry_tuple_getitem ?_ (args_tuple_getitem _ _)))
 show wpAny _ _ (Builtin.Tuple.tupleItemsOf (.ref t) >>= _) _ _ s;refine wpAny_bind (tupleItemsOf_ ht ?_);refine wpAny_bind (wpAny_typeOf hTs ?_);rw [if_pos (by decide)];refine wpAny_bind (Zby hs pl pu ?_);have hno:¬ ((((sIx items.size 0 lo:Nat):Int)==0&&(1:Int)==1&&(sIx items.size items.size hi - sIx items.size 0 lo)==items.size)=true):=by
   intro q;rw [Oa,Oa] at q;have q1:((sIx items.size 0 lo:Nat):Int)=0:=eq_of_beq q.1.1;have q2:sIx items.size items.size hi - sIx items.size 0 lo=items.size:=eq_of_beq q.2;exact hw ⟨by lia,by lia⟩
 show wpAny _ _ (if (((sIx items.size 0 lo:Nat):Int)==0&&(1:Int)==1&&(sIx items.size items.size hi - sIx items.size 0 lo)==items.size)=true then _ else _) _ _ s;rw [if_neg hno,ZlI]
 first
   | exact wpAny_bind (m:=Builtin.Tuple.tupleExact _) (wpAny_newObj_type (wpAny_pure ⟨_,rfl,wpAny_pure h⟩) htake)
   | exact wpAny_bind (m:=Builtin.Tuple.tupleExact _) (wpAny_newObj_type (wpAny_bind (wpAny_pure (wpAny_pure ⟨_,rfl,wpAny_pure h⟩))) htake)
   | exact wpAny_bind (wpAny_bind (m:=Builtin.Tuple.tupleExact _) (wpAny_newObj_type (wpAny_pure (wpAny_pure ⟨_,rfl,wpAny_pure h⟩)) htake))
   | exact wpAny_bind (wpAny_bind (m:=Builtin.Tuple.tupleExact _) (wpAny_newObj_type (wpAny_pure ⟨_,rfl,wpAny_pure h⟩) htake))
end
end HT
namespace L2
open PySem PySem.Spec PyProof.Rows
noncomputable abbrev TO:=St->Hp->(Option Int->Hp->Prop)->Prop
noncomputable def PO(X:Cx)(e:Option Expr)(t:TO):Prop :=
 ∀ (pins:List (Addr×Obj)) (s:Shared) (Z:St) (H:Hp) (Q:Option Int->Hp->Prop),Inv X pins Z H s->t Z H Q ->
   wpAny (model X.prog X.w) X.A (evalPart e X.env) (fun u s'=>∃ o H',Inv X pins Z H' s'/\IsPart u o/\Q o H') X.xe s
noncomputable def Zns:TO:=fun _ H Q=>Q none H
noncomputable def Zsq(t:TE):TO:=fun Z H Q=>t Z H fun x H1=>∃ i,x=.int i/\Q (some i) H1
section
variable {X:Cx}{e:Expr}{te:TE}{lo hi:Option Expr}{tl th:TO}{pos p2:Pos}
theorem ZnQ:PO X none Zns:=by
 intro pins s Z H Q I h;rw [evalPart_none];exact wpAny_pure ⟨none,H,I,.none,h⟩
theorem ZnP(h:PE X e te):PO X (some e) (Zsq te):=by
 intro pins s Z H Q I hw;rw [evalPart_some];refine thn (h pins s Z H _ I hw) fun u s1 ⟨x,H1,I1,r1,q1⟩=>?_;obtain ⟨i,rfl,q⟩:=q1;obtain ⟨t,rfl⟩:=r1;exact ⟨some i,H1,I1,.int i t,q⟩
noncomputable def SlR(X:Cx)(r:V->Option Int->Option Int->Hp->VK->Prop):Prop :=
 ∀ (pins:List (Addr×Obj)) (s:Shared) (Z:St) (H:Hp) (x:V) (v vl vu:Value) (lo hi:Option Int) (sl:Addr) (Q:VK),Inv X pins Z H s->RelV x v->s.heap.IsSliceOf sl vl vu .none->IsPart vl lo->IsPart vu hi->r x lo hi H Q ->
   ∃ T id,typeLookup (.type T) "__getitem__" = pure (some (.builtin id))/\s.TypeIs v T/\wpAny (model X.prog X.w) X.A (getItem v (.ref sl)) (EP X pins Z Q) X.xe s
noncomputable def tSl(r:V->Option Int->Option Int->Hp->VK->Prop)(te:TE)(tl th:TO):TE:=fun Z H Q=>te Z H fun x H1=>tl Z H1 fun l H2=>th Z H2 fun u H3=>r x l u H3 Q
theorem ZlL(hr:SlR X r)(he:PE X e te)(hl:PO X lo tl)(hu:PO X hi th):PE X (.Subscript e (.Slice lo hi none p2) pos) (tSl r te tl th):=by
 intro pins s Z H Q I h;refine Subscript_ (thn (he pins s Z H _ I h) fun v s1 ⟨x,H1,I1,r1,q1⟩=>?_);refine wpAny_Slice (thn (hl pins s1 Z H1 _ I1 q1) fun vl s2 ⟨l,H2,I2,pl,q2⟩=>thn (hu pins s2 Z H2 _ I2 q2) fun vu s3 ⟨u,H3,I3,pu,q3⟩=>?_);rw [evalPart_none];refine wpAny_pure ?_;have I4:Inv X pins Z H3 {s3 with heap:=s3.heap.push {cls:=.type "slice",data:=.fields #[vl,vu,.none]}}:=I3.kept (t':=s3.toks) fun b ob q=>Od _ q;obtain ⟨T,id,hT,ht,hg⟩:=hr pins {s3 with heap:=s3.heap.push {cls:=.type "slice",data:=.fields #[vl,vu,.none]}} Z H3 x v vl vu l u s3.heap.objs.size Q I4 r1 (Heap.IsSliceOf.new ..) pl pu q3;show wpAny (model X.prog X.w) X.A (subscriptTail e (.Slice lo hi none p2) v (.ref s3.heap.objs.size)) (EP X pins Z Q) X.xe {s3 with heap:=s3.heap.push {cls:=.type "slice",data:=.fields #[vl,vu,.none]}};exact tail_any (ops:=[.ref s3.heap.objs.size,v]) ht hT hg (by with_unfolding_all rfl)
noncomputable def Zhz(xs:List V)(lo hi:Option Int):List V:=(xs.drop (HT.sIx xs.length 0 lo)).take (HT.sIx xs.length xs.length hi - HT.sIx xs.length 0 lo)
theorem ZdT(xs:List V)(lo hi:Option Int):(Zhz xs lo hi).length<=xs.length:=by
 unfold Zhz;rw [List.length_take,List.length_drop]
 lia
noncomputable def Zuz(K:PySem.W.Frag):V->Option Int->Option Int->Hp->VK->Prop:=fun x lo hi H Q=>∃ a xs,x=.ref a/\SqT K H a xs /\
 ¬ (HT.sIx xs.length 0 lo=0/\HT.sIx xs.length xs.length hi=xs.length)/\∀ p,H p=none->Q (.ref p) (upd H p (.tup (Zhz xs lo hi)))
theorem Zp6:SlR X (Zuz X.K):=by
 intro pins s Z H x v vl vu lo hi sl Q I rx hs pl pu h;obtain ⟨a,xs,rfl,hx,hw,q⟩:=h;cases rx;obtain ⟨its,r,ht,hz⟩:=I.tuple hx;have hlen:its.toArray.size=xs.length:=by rw [Of];exact r.length.symm
 refine ⟨"tuple",_,PyProof.Rows.slot_tuple_getitem.lookup,ht.typeIs,?_⟩;refine HT.Zdb ht hs pl pu (by rw [hlen];exact hw) ?_ (by rw [hlen];exact hz);rw [hlen];refine ⟨.ref s.heap.objs.size,_,I.laid (t':=s.toks) (o:=.tup (Zhz xs lo hi)) (fun b ob q=>Od _ q) (Oq _) ?_,rfl,q _ (I.hok.fresh (Oq _))⟩;exact ⟨OE (ZdT xs lo hi) hz,_,(r.drop (HT.sIx xs.length 0 lo)).take (HT.sIx xs.length xs.length hi - HT.sIx xs.length 0 lo),ZaH.fresh _ _⟩
noncomputable def ZsK(K:PySem.W.Frag):R2:=fun x y H Q=>∃ a b xs ys,x=.ref a/\y=.ref b/\SqT K H a xs/\SqT K H b ys/\xs≠[]/\xs.length+ys.length<=sizeLine /\
 (ys=[]->Q (.ref a) H)/\(ys≠[]->∀ p,H p=none->Q (.ref p) (upd H p (.tup (xs++ys))))
theorem Zh.nil_iff(r:Zh xs us):us=[]↔xs=[]:=by
 cases r with
 | nil=>simp
 | cons _ _=>simp
theorem Zn9:OpR X (binaryOp .Add) (ZsK X.K):=by
 intro pins s Z H x y v u Q I rx ry h;obtain ⟨a,b,xs,ys,rfl,rfl,ha,hb,hx,hz,q1,q2⟩:=h;cases rx;cases ry;obtain ⟨its,r1,p1,_⟩:=I.tuple ha;obtain ⟨its2,r2,p2,_⟩:=I.tuple hb;refine HT.ZoY p1 p2 (fun z=>hx (r1.nil_iff.mp z)) (fun z=>⟨.ref a,H,I,rfl,q1 (r2.nil_iff.mp z)⟩) (fun z=>?_) (by rw [<- r1.length,<- r2.length];exact hz);refine ⟨.ref s.heap.objs.size,_,I.laid (t':=s.toks) (o:=.tup (xs++ys)) (fun b ob q=>Od _ q) (Oq _) ?_,rfl,q2 (fun w=>z (r2.nil_iff.mpr w)) _ (I.hok.fresh (Oq _))⟩;exact ⟨by rw [OA];exact hz,_,r1.append r2,ZaH.fresh _ _⟩
end
end L2
namespace L2
open PySem PySem.Spec PyProof.Rows
noncomputable def ixN(n:Nat)(i:Int):Option Nat:=if 0<=i then (if i<n then some i.toNat else none) else if -(n:Int)<=i then some (i+n).toNat else none
noncomputable def atI(xs:List α)(i:Int):Option α:=(ixN xs.length i).bind fun j=>xs[j]?
theorem ZjF(h:ixN n i=some j):seqIndex? i n=some j/\j<n/\-(n:Int)<=i/\i<n:=by
 unfold ixN at h;by_cases h0:0<=i
 . rw [if_pos h0] at h;by_cases h1:i<n
   . rw [if_pos h1] at h;have e:i.toNat=j:=Option.some.inj h;exact ⟨by rw [seqIndex_of h0 h1,e],by lia,by lia,h1⟩
   . rw [if_neg h1] at h;cases h
 . rw [if_neg h0] at h;by_cases h1:-(n:Int)<=i
   . rw [if_pos h1] at h;have e:(i+n).toNat=j:=Option.some.inj h;exact ⟨by rw [seqIndex_neg (by lia) h1,e],by lia,h1,by lia⟩
   . rw [if_neg h1] at h;cases h
theorem ZgJ(h:atI xs i=some v):∃ j,seqIndex? i xs.length=some j/\xs[j]? = some v/\j<xs.length/\-(xs.length:Int)<=i/\i<xs.length:=by
 unfold atI at h;cases e:ixN xs.length i with
 | none=>rw [e] at h;cases h
 | some j =>
   rw [e] at h;obtain ⟨h1,h2,h3,h4⟩:=ZjF e;exact ⟨j,h1,h,h2,h3,h4⟩
noncomputable def ZgL(b:Expr):Prop:=∀ o i,subscripted b false o i=operate [o,i] (getItem o i)
noncomputable def IxR(X:Cx)(r:R2):Prop :=
 ∀ (value slice:Expr) (pins:List (Addr×Obj)) (s:Shared) (Z:St) (H:Hp) (x y:V) (v u:Value) (Q:VK),Inv X pins Z H s->RelV x v->RelV y u->r x y H Q ->
   subscripted slice false v u=operate [v,u] (getItem v u)->wpAny (model X.prog X.w) X.A (subscriptTail value slice v u) (EP X pins Z Q) X.xe s
noncomputable def MtR(X:Cx)(id:String)(r:V->List V->Hp->VK->Prop):Prop :=
 ∀ (pins:List (Addr×Obj)) (s:Shared) (Z:St) (H:Hp) (x:V) (xs:List V) (v:Value) (us:List Value) (Q:VK),Inv X pins Z H s->RelV x v->Zh xs us->r x xs H Q ->
   wpAny (model X.prog X.w) X.A (call (.builtin id) (v::us)) (EP X pins Z Q) X.xe s
section
variable {X:Cx}{a b:Expr}{ta tb:TE}{pos:Pos}
theorem ZsV{r:R2}(hr:IxR X r)(ha:PE X a ta)(hb:PE X b tb)(hs:ZgL b):PE X (.Subscript a b pos) (tOp r ta tb):=by
 intro pins s Z H Q I h;exact Subscript_ (ZrN ha hb I h fun v u s2 x y H2 I2 rx ry q=>hr a b pins s2 Z H2 x y v u Q I2 rx ry q (hs _ _))
noncomputable def ZuG(K:PySem.W.Frag):R2:=fun x y H Q=>∃ p xs i v,x=.ref p/\y=.int i/\SqL K H p xs/\atI xs i=some v/\Q v H
noncomputable def ZuE(K:PySem.W.Frag):R2:=fun x y H Q=>∃ p xs i v,x=.ref p/\y=.int i/\SqT K H p xs/\atI xs i=some v/\Q v H
noncomputable def ZuF:R2:=fun x y H Q=>∃ z i c,x=.str z/\y=.int i/\z.length<=sizeLine/\atI z.cps.toList i=some c/\Q (.str ⟨#[c]⟩) H
theorem ZoB:IxR X (ZuG X.K):=by
 intro value slice pins s Z H x y v u Q I rx ry h hs;obtain ⟨p,xs,i,z,rfl,rfl,hq,he,q⟩:=h;cases rx;obtain ⟨t,rfl⟩:=ry;obtain ⟨its,r,pl,hz⟩:=I.list hq;obtain ⟨j,h1,h2,h3,h4,h5⟩:=ZgJ he;obtain ⟨w,ew,rw'⟩:=r.get h2;have hl:=r.length;have hn:=ZaT;have fin:EP X pins Z Q w s:=⟨z,H,I,rw',q⟩
 by_cases h0:0<=i
 . have hj:i.toNat=j:=by
     rw [seqIndex_of h0 h5] at h1;exact Option.some.inj h1
   exact item_listR pl.isList h0 (by lia) (by rw [hj];simpa using ew) fin hs
 . have hj:(i+(its.toArray.size:Int)).toNat=j:=by
     rw [seqIndex_neg (by lia) h4] at h1;rw [Of,<- hl];exact Option.some.inj h1
   exact subscriptTail_builtinR (x:=w) pl.isList.typeIs slot_list_getitem.lookup
     (wpAny_getItem_list_neg (Q:=fun r s'=>r=w/\EP X pins Z Q r s') pl.isList (by lia) (by rw [Of]<;>lia) (by lia) (by rw [hj];simpa using ew) ⟨rfl,fin⟩) hs
theorem Zrf:IxR X (ZuE X.K):=by
 intro value slice pins s Z H x y v u Q I rx ry h hs;obtain ⟨p,xs,i,z,rfl,rfl,hq,he,q⟩:=h;cases rx;obtain ⟨t,rfl⟩:=ry;obtain ⟨its,r,pl,hz⟩:=I.tuple hq;obtain ⟨j,h1,h2,h3,h4,h5⟩:=ZgJ he;obtain ⟨w,ew,rw'⟩:=r.get h2;have hl:=r.length;have hn:=ZaT;have fin:EP X pins Z Q w s:=⟨z,H,I,rw',q⟩
 exact subscriptTail_builtinR (x:=w) pl.typeIs slot_tuple_getitem.lookup
   (getItem_tuple (j:=j) (Q:=fun r s'=>r=w/\EP X pins Z Q r s') pl (by lia) (by lia) (by rw [Of,<- hl];exact h1) (by simpa using ew) ⟨rfl,fin⟩) hs
theorem Zrg:IxR X ZuF:=by
 intro value slice pins s Z H x y v u Q I rx ry h hs;obtain ⟨z,i,c,rfl,rfl,hz,he,q⟩:=h;obtain ⟨t,rfl⟩:=rx;obtain ⟨t',rfl⟩:=ry;obtain ⟨j,h1,h2,h3,h4,h5⟩:=ZgJ he;have hl:z.cps.toList.length=z.length:=by simp [Str.length]
 rw [hl] at h1 h4 h5;have hn:=ZaT;exact tail_any (typeIs_str s z t) slot_str_getitem.lookup (getItem_str (c:=c) (by
   have e1:decide (i < -(2 ^ 63:Int))=false:=decide_eq_false (by lia);have e2:decide (i ≥ 2 ^ 63)=false:=decide_eq_false (by lia);rw [e1,e2,Bool.or_false]) (by rw [h1];simpa using h2) ⟨.str ⟨#[c]⟩,H,I.tok _,⟨_,rfl⟩,q⟩) hs
theorem Zis (its:List Value) (n j:Nat) (u:Value):Obj.mapSeq (·.setIfInBounds j u) {cls:=.type "list",data:=.seq its.toArray n}={cls:=.type "list",data:=.seq (its.set j u).toArray n}:=by
 simp [Obj.mapSeq]
theorem Inv.lst(I:Inv X pins Z H s)(h:H p=some (.lst xs)) :
   ∃ (its:List Value) (n:Nat),Zh xs its/\s.heap.get? p=some {cls:=.type "list",data:=.seq its.toArray n}/\xs.length<=sizeLine:=by
 obtain ⟨z,its,n,r,e⟩:=I.hok p _ h;exact ⟨its,n,r,e,z⟩
theorem Inv.lstUpd{pins:List (Addr×Obj)}{Z:St}{H:Hp}{s:Shared}{p:Addr}{xs ys:List V}{its its':List Value}{n n':Nat}{f:Obj->Obj}(I:Inv X pins Z H s)(h:H p=some (.lst xs))
   (ho:s.heap.get? p=some {cls:=.type "list",data:=.seq its.toArray n}) (hf:f {cls:=.type "list",data:=.seq its.toArray n}={cls:=.type "list",data:=.seq its'.toArray n'}) (r:Zh ys its') (hz:ys.length<=sizeLine) (t:Nat) :
   Inv X pins Z (upd H p (.lst ys)) {s with heap:=s.heap.update p f,toks:=t}:=by
 have e:(s.heap.update p f).get? p=some {cls:=.type "list",data:=.seq its'.toArray n'}:=by
   rw [Heap.get?_update_self f ho (by rw [hf]<;>rfl),hf]
 refine I.write (x:=p) (e:=p) (by rw [h];trivial) (.inl rfl) (fun b u hb q=>(Heap.get?_update_other _ _ (Ne.symm hb)).trans q) ⟨_,e⟩ ?_;exact ⟨hz,its',n',r,e⟩
noncomputable def ZsI:V->V->V->Hp->(Hp->Prop)->Prop:=fun o i v H Q=>∃ p xs k j,o=.ref p/\i=.int k/\H p=some (.lst xs)/\ixN xs.length k=some j/\Q (upd H p (.lst (xs.set j v)))
theorem set_list:Zpi X ZsI:=by
 intro pins s Z H o i v ov iv u Q I ro ri rv h;obtain ⟨p,xs,k,j,rfl,rfl,hp,hj,q⟩:=h;cases ro;obtain ⟨t,rfl⟩:=ri;obtain ⟨its,n,r,ho,hz⟩:=I.lst hp;obtain ⟨h1,h2,h3,h4⟩:=ZjF hj;have hl:=r.length;have hn:=ZaT;have I':Inv X pins Z (upd H p (.lst (xs.set j v))) {s with heap:=s.heap.update p (Obj.mapSeq (·.setIfInBounds j u))} :=
   I.lstUpd hp ho (Zis its n j u) (r.set rv j) (by rw [List.length_set];exact hz) s.toks
 by_cases h0:0<=k
 . have hk:k.toNat=j:=by
     rw [seqIndex_of h0 h4] at h1;exact Option.some.inj h1
   exact PySem.W.ki_setAt ho h0 (by lia) (by rw [Of,<- hl];exact h4) (by rw [hk];exact ⟨_,I',q⟩)
 . have hk:(k+(its.toArray.size:Int)).toNat=j:=by
     rw [seqIndex_neg (by lia) h3] at h1;rw [Of,<- hl];exact Option.some.inj h1
   exact PySem.W.ki_setBack ho (by lia) (by rw [Of,<- hl];exact h3) (by lia) (by rw [hk];exact ⟨_,I',q⟩)
theorem ZfS(lo hi:Option Int)(n:Nat):(sliceBounds lo hi none n).1=((HT.sIx n 0 lo:Nat):Int)/\(sliceBounds lo hi none n).2.1=((HT.sIx n n hi:Nat):Int)/\(sliceBounds lo hi none n).2.2=1:=by
 refine ⟨?_,?_,rfl⟩
 . cases lo with
   | none=>simp [sliceBounds,HT.sIx]
   | some i =>
     simp only [sliceBounds,HT.sIx,Option.getD_none,show (1:Int) > 0 by decide,if_true];by_cases h:i<0
     . simp only [h,if_true]<;>lia
     . simp only [h,if_false]<;>lia
 . cases hi with
   | none=>simp [sliceBounds,HT.sIx]
   | some i =>
     simp only [sliceBounds,HT.sIx,Option.getD_none,show (1:Int) > 0 by decide,if_true];by_cases h:i<0
     . simp only [h,if_true]<;>lia
     . simp only [h,if_false]<;>lia
theorem Zfd(its:List Value)(lo hi:Option Int):slicePick its.toArray lo hi none=((its.drop (HT.sIx its.length 0 lo)).take (HT.sIx its.length its.length hi - HT.sIx its.length 0 lo)).toArray:=by
 obtain ⟨h1,h2,h3⟩:=ZfS lo hi its.toArray.size;unfold slicePick;rw [h1,h2,h3];simp only [sliceRange_one,pick_run,Of]<;>rfl
noncomputable def ZuB(K:PySem.W.Frag):V->Option Int->Option Int->Hp->VK->Prop:=fun x lo hi H Q=>∃ a xs,x=.ref a/\SqL K H a xs/\∀ p,H p=none->Q (.ref p) (upd H p (.lst (Zhz xs lo hi)))
theorem Znt:SlR X (ZuB X.K):=by
 intro pins s Z H x v vl vu lo hi sl Q I rx hs pl pu h;obtain ⟨a,xs,rfl,hx,q⟩:=h;cases rx;obtain ⟨its,r,ht,hz⟩:=I.list hx;have hlen:=r.length;refine ⟨"list",_,slot_list_getitem.lookup,ht.isList.typeIs,?_⟩;refine wpAny_getItem_list_slice ht.isList hs pl pu .none (by simp) ?_ (by rw [Of]<;>lia);rw [Zfd,<- hlen];refine ⟨.ref s.heap.objs.size,_,I.laid (t':=s.toks) (o:=.lst (Zhz xs lo hi)) (fun b ob q=>Od _ q) (Oq _) ?_,rfl,q _ (I.hok.fresh (Oq _))⟩;exact ⟨OE (ZdT xs lo hi) hz,_,0,(r.drop (HT.sIx xs.length 0 lo)).take (HT.sIx xs.length xs.length hi - HT.sIx xs.length 0 lo),Oj _ rfl⟩
noncomputable def ZcF:V->Bool
 | .non=>true
 | .bl _=>true
 | .int _=>true
 | .str _=>true
 | _=>false
noncomputable def eqV:V->V->Bool
 | .non,.non=>true
 | .bl a,.bl b=>a==b
 | .bl a,.int b=>(if a then 1 else 0)==b
 | .int a,.bl b=>a==(if b then 1 else 0)
 | .int a,.int b=>a==b
 | .str a,.str b=>a==b
 | _,_=>false
theorem ZrF(ry:RelV y u)(rx:RelV x v)(fy:ZcF y=true)(fx:ZcF x=true):SeqAt.EqAt A s u v (eqV y x):=by
 cases y with
 | non =>
   cases ry;cases x with
   | non=>cases rx;exact SeqAt.EqAt.same _
   | bl b=>cases rx;exact SeqAt.EqAt.none_bool b
   | int b=>obtain ⟨t,rfl⟩:=rx;exact SeqAt.EqAt.none_int b t
   | str b=>obtain ⟨t,rfl⟩:=rx;exact SeqAt.EqAt.none_str b t
   | _=>exact absurd (show false=true from fx) Ow
 | bl a =>
   cases ry;cases x with
   | non=>cases rx;exact SeqAt.EqAt.bool_none a
   | bl b=>cases rx;exact SeqAt.EqAt.bool_bool a b
   | int b=>obtain ⟨t,rfl⟩:=rx;exact SeqAt.EqAt.bool_int a b t
   | str b=>obtain ⟨t,rfl⟩:=rx;exact SeqAt.EqAt.bool_str a b t
   | _=>exact absurd (show false=true from fx) Ow
 | int a =>
   obtain ⟨t',rfl⟩:=ry;cases x with
   | non=>cases rx;exact SeqAt.EqAt.int_none a t'
   | bl b=>cases rx;exact SeqAt.EqAt.int_bool a t' b
   | int b=>obtain ⟨t,rfl⟩:=rx;exact SeqAt.EqAt.int_int a t' b t
   | str b=>obtain ⟨t,rfl⟩:=rx;exact SeqAt.EqAt.int_str a t' b t
   | _=>exact absurd (show false=true from fx) Ow
 | str a =>
   obtain ⟨t',rfl⟩:=ry;cases x with
   | non=>cases rx;exact SeqAt.EqAt.str_none a t'
   | bl b=>cases rx;exact SeqAt.EqAt.str_bool a t' b
   | int b=>obtain ⟨t,rfl⟩:=rx;exact SeqAt.EqAt.str_int a t' b t
   | str b=>obtain ⟨t,rfl⟩:=rx;exact SeqAt.EqAt.str_str a t' b t
   | _=>exact absurd (show false=true from fx) Ow
 | _=>exact absurd (show false=true from fy) Ow
noncomputable def eqU(x:V)(u:Value):Bool:=match u with
 | .none=>eqV .non x
 | .bool b=>eqV (.bl b) x
 | .int i _=>eqV (.int i) x
 | .str z _=>eqV (.str z) x
 | _=>false
theorem ZmG(r:RelV y u)(f:ZcF y=true):eqU x u=eqV y x:=by
 cases y with
 | non=>cases r;rfl
 | bl b=>cases r;rfl
 | int i=>obtain ⟨t,rfl⟩:=r;rfl
 | str z=>obtain ⟨t,rfl⟩:=r;rfl
 | _=>exact absurd (show false=true from f) Ow
theorem Zdo:∀ {xs:List V}{us:List Value},Zh xs us->xs.all ZcF=true->us.any (eqU x)=xs.any fun y=>eqV y x
 | _,_,.nil,_=>rfl
 | y::xs,u::us,.cons r t,f=>by
   rw [List.all_cons,Oa] at f;rw [List.any_cons,List.any_cons,ZmG r f.1,Zdo t f.2]
theorem ZbU(rx:RelV x v)(fx:ZcF x=true):∀ {xs:List V}{us:List Value},Zh xs us->xs.all ZcF=true->∀ u∈us,SeqAt.EqAt A s u v (eqU x u)
 | _,_,.nil,_=>fun u hu=>by cases hu
 | y::xs,u::us,.cons r t,f=>fun u' hu=>by
   rw [List.all_cons,Oa] at f;rcases O2.mp hu with rfl|hu
   . rw [ZmG r f.1];exact ZrF r rx f.1 fx
   . exact ZbU rx fx t f.2 u' hu
noncomputable def inV(x:V)(xs:List V):Bool:=xs.any fun y=>eqV y x
noncomputable def rIn(K:PySem.W.Frag)(neg:Bool):R2:=fun x y H Q=>∃ p xs,y=.ref p/\(SqL K H p xs\/SqT K H p xs)/\ZcF x=true/\xs.all ZcF=true/\Q (.bl (if neg then !inV x xs else inV x xs)) H
theorem Zkw:OpR X (compareOp .In) (rIn X.K false):=by
 intro pins s Z H x y v u Q I rx ry h;obtain ⟨p,xs,rfl,hq,fx,fs,q⟩:=h;cases ry;rcases hq with hq|hq
 . obtain ⟨its,r,pl,hz⟩:=I.list hq;refine SeqAt.in_listAt (eqU x) pl.isList (fun w hw=>ZbU rx fx r fs w (by simpa using hw)) ⟨.bl _,H,I,rfl,?_⟩;rw [show its.toArray.any (eqU x)=its.any (eqU x) by simp,Zdo r fs];exact q
 . obtain ⟨its,r,pl,hz⟩:=I.tuple hq;refine SeqAt.in_tupleAt (eqU x) pl (fun w hw=>ZbU rx fx r fs w (by simpa using hw)) ⟨.bl _,H,I,rfl,?_⟩;rw [show its.toArray.any (eqU x)=its.any (eqU x) by simp,Zdo r fs];exact q
theorem Zf1:OpR X (compareOp .NotIn) (rIn X.K true):=by
 intro pins s Z H x y v u Q I rx ry h;obtain ⟨p,xs,rfl,hq,fx,fs,q⟩:=h;cases ry;rcases hq with hq|hq
 . obtain ⟨its,r,pl,hz⟩:=I.list hq;refine SeqAt.notIn_listAt (eqU x) pl.isList (fun w hw=>ZbU rx fx r fs w (by simpa using hw)) ⟨.bl _,H,I,rfl,?_⟩;rw [show its.toArray.any (eqU x)=its.any (eqU x) by simp,Zdo r fs];exact q
 . obtain ⟨its,r,pl,hz⟩:=I.tuple hq;refine SeqAt.notIn_tupleAt (eqU x) pl (fun w hw=>ZbU rx fx r fs w (by simpa using hw)) ⟨.bl _,H,I,rfl,?_⟩;rw [show its.toArray.any (eqU x)=its.any (eqU x) by simp,Zdo r fs];exact q
theorem Zgr:Zaa X (.builtin "len") (fun xs H Q=>∃ p ys,xs=[.ref p]/\(SqL X.K H p ys\/SqT X.K H p ys)/\Q (.int ys.length) H):=by
 intro pins s Z H xs us Q I r h;obtain ⟨p,ys,rfl,hq,q⟩:=h;obtain ⟨u,rfl,rx⟩:=vals1 r;cases rx;have hn:=ZaT;rcases hq with hq|hq
 . obtain ⟨its,r',pl,hz⟩:=I.list hq;have hlen:=r'.length;exact Calls.call_len_list pl.isList (by simp only [Of]<;>lia) ⟨.int ys.length,H,I.tok _,⟨s.toks+1,by rw [Of,hlen]⟩,q⟩
 . obtain ⟨its,r',pl,hz⟩:=I.tuple hq;have hlen:=r'.length;exact len_tuple pl (by simp only [Of]<;>lia) ⟨.int ys.length,H,I.tok _,⟨s.toks+1,by rw [Of,hlen]⟩,q⟩
theorem Zgq:Zaa X (.builtin "len") (fun xs H Q=>∃ z,xs=[.str z]/\z.length<=sizeLine/\Q (.int z.length) H):=by
 intro pins s Z H xs us Q I r h;obtain ⟨z,rfl,hz,q⟩:=h;obtain ⟨u,rfl,t,rfl⟩:=vals1 r;have hn:=ZaT;exact len_str (by lia) ⟨.int z.length,H,I.tok _,⟨_,rfl⟩,q⟩
theorem Zgp:Zaa X (.type "list") (fun xs H Q=>∃ p ys,xs=[.ref p]/\(SqL X.K H p ys\/SqT X.K H p ys)/\∀ l,H l=none->Q (.ref l) (upd H l (.lst ys))):=by
 intro pins s Z H xs us Q I r h;obtain ⟨p,ys,rfl,hq,q⟩:=h;obtain ⟨u,rfl,rx⟩:=vals1 r;cases rx;have fin:∀ (its:List Value),Zh ys its->ys.length<=sizeLine->∀ (h':Heap) (c':Nat),(∀ b o',s.heap.get? b=some o'->h'.get? b=some o') ->
     h'.get? s.heap.objs.size=some {cls:=.type "list",dict:=none,data:=.seq its.toArray c',slots:=#[]}->EP X pins Z Q (.ref s.heap.objs.size) {s with heap:=h'}:=fun its r' hz h' c' kp e =>
   ⟨.ref s.heap.objs.size,_,I.laid (t':=s.toks) kp (Oq _) (show ZO X.prog X.w _ h' _ (.lst ys) from ⟨hz,its,c',r',e⟩),rfl,q _ (I.hok.fresh (Oq _))⟩
 rcases hq with hq|hq
 . obtain ⟨its,r',pl,hz⟩:=I.list hq;have hlen:=r'.length;obtain ⟨o,ho,hc,n,hd⟩:=pl.isList;exact call_list_seq p (.inl rfl) ho hc hd (fun h' c' kp e=>fin its r' hz h' c' kp e) (by simp only [Of]<;>lia)
 . obtain ⟨its,r',pl,hz⟩:=I.tuple hq;have hlen:=r'.length;obtain ⟨o,ho,hc,n,hd⟩:=pl;exact call_list_seq p (.inr rfl) ho hc hd (fun h' c' kp e=>fin its r' hz h' c' kp e) (by simp only [Of]<;>lia)
theorem ZcM:Zaa X (.type "tuple") (fun xs H Q=>∃ p ys,xs=[.ref p]/\((SqL X.K H p ys/\∀ l,H l=none->Q (.ref l) (upd H l (.tup ys)))\/(SqT X.K H p ys/\Q (.ref p) H))):=by
 intro pins s Z H xs us Q I r h;obtain ⟨p,ys,rfl,h⟩:=h;obtain ⟨u,rfl,rx⟩:=vals1 r;cases rx;rcases h with ⟨hq,q⟩|⟨hq,q⟩
 . obtain ⟨its,r',pl,hz⟩:=I.list hq;have hlen:=r'.length;refine call_tuple_list pl.isList (fun h' kp=>?_) (by simp only [Of]<;>lia);have I1:Inv X pins Z H {s with heap:=h'}:=I.kept (t':=s.toks) kp;have I2:Inv X pins Z (upd H h'.objs.size (.tup ys)) {s with heap:=h'.push {cls:=.type "tuple",data:=.seq its.toArray}} :=
     I1.laid (t':=s.toks) (fun b o e=>Od _ e) (Oq _) (show ZO X.prog X.w _ _ _ (.tup ys) from ⟨hz,its,r',ZaH.fresh _ _⟩)
   exact ⟨.ref h'.objs.size,_,I2,rfl,q _ (I1.hok.fresh (Oq _))⟩
 . obtain ⟨its,r',pl,hz⟩:=I.tuple hq;exact call_tuple_same pl ⟨.ref p,H,I,rfl,q⟩
noncomputable def tyV(K:PySem.W.Frag)(T:String)(x:V)(H:Hp):Prop:=match x with
 | .str _=>T = "str"
 | .int _=>T = "int"
 | .ref p=>(T = "list" /\ ∃ xs,SqL K H p xs)\/(T = "tuple" /\ ∃ o,K.lookup p=some o/\o.cls=.type "tuple" /\ o.dict=none) \/
     (T = "dict" /\ ((∃ kvs,H p=some (.dK kvs))\/∃ kvs,H p=some (.dT kvs)))\/(T = "set" /\ ∃ S_ n,H p=some (.set S_ n))
 | _=>False
theorem Zk4(I:Inv X pins Z H s)(r:RelV x v)(ty:tyV X.K T x H) :
   s.TypeIs v T/\∀ a,v=.ref a->∃ ob,s.heap.get? a=some ob/\ob.dict=none:=by
 cases x with
 | str z =>
   obtain ⟨t,rfl⟩:=r;cases (show T = "str" from ty);exact ⟨typeIs_str s z t,fun _ e=>nomatch e⟩
 | int i =>
   obtain ⟨t,rfl⟩:=r;cases (show T = "int" from ty);exact ⟨typeIs_int s i t,fun _ e=>nomatch e⟩
 | ref p =>
   cases r;rcases ty with ⟨rfl,xs,hq⟩|⟨rfl,o,hk,hc,hd⟩|⟨rfl,hk⟩|⟨rfl,S_,n,hk⟩
   . obtain ⟨its,_,pl,_⟩:=I.list hq;refine ⟨pl.isList.typeIs,fun a e=>?_⟩;cases e;obtain ⟨o,n,e,c,hd,_⟩:=pl;exact ⟨o,e,hd⟩
   . refine ⟨⟨o,I.kIn p o hk,hc⟩,fun a e=>?_⟩;cases e;exact ⟨o,I.kIn _ o hk,hd⟩
   . have z:∃ o,s.heap.get? p=some o/\o.ExactDict:=by
       rcases hk with ⟨kvs,hk⟩|⟨kvs,hk⟩
       . obtain ⟨_,_,_,_,o,_,_,e,ex,_⟩:=I.hok p _ hk;exact ⟨o,e,ex⟩
       . obtain ⟨_,_,_,_,o,_,_,e,ex,_⟩:=I.hok p _ hk;exact ⟨o,e,ex⟩
     obtain ⟨o,e,ex⟩:=z;refine ⟨⟨o,e,ex.1⟩,fun a e2=>?_⟩;cases e2;exact ⟨o,e,ex.2.1⟩
   . obtain ⟨o,_,_,_,e,ex,_⟩:=I.hok p _ hk;refine ⟨⟨o,e,ex.1⟩,fun a e2=>?_⟩;cases e2;exact ⟨o,e,ex.2.1⟩
 | _=>exact False.elim ty
noncomputable def Zuo(K:PySem.W.Frag)(T:String)(r:V->List V->Hp->VK->Prop)(to:TE):TE:=fun Z H Q=>to Z H fun x H1=>tyV K T x H1/\r x [] H1 Q
noncomputable def tBM(K:PySem.W.Frag)(T:String)(r:V->List V->Hp->VK->Prop)(to:TE)(t:TA):TE:=fun Z H Q=>to Z H fun x H1=>tyV K T x H1/\t Z H1 fun xs H2=>r x xs H2 Q
variable {o e:Expr}{es:List Expr}{to:TE}{t:TA}{name:Str}{apos cpos:Pos}{T id:String}{r:V->List V->Hp->VK->Prop}
theorem ZqD (pa:PlainAttrs T) (slot:Slot T name id) (hty:typeOf (.builtin id)=pure (.type "method_descriptor")) (hm:MtR X id r) (ho:PE X o to)
   (hbase:attributeBase o name X.env (eval o X.env)=eval o X.env:=by rfl) (hline:(apos.endLine==cpos.line)=true:=by rfl):PE X (.Call (.Attribute o name apos) [] [] cpos) (Zuo X.K T r to):=by
 intro pins s Z H Q I h;refine wpAny_Call_method0_late hbase hline (thn (ho pins s Z H _ I h) fun v s1 ⟨x,H1,I1,r1,ty,q1⟩=>?_);obtain ⟨h1,h2⟩:=Zk4 I1 r1 ty;exact ⟨T,id,pa,slot,hty,h1,h2,Calls.callWith_builtin rfl (PySem.evalArgs_none (hm pins s1 Z H1 x [] v [] Q I1 r1 .nil q1))⟩
theorem ZsW (pa:PlainAttrs T) (slot:Slot T name id) (hty:typeOf (.builtin id)=pure (.type "method_descriptor")) (hm:MtR X id r) (ho:PE X o to) (ha:PA X (e::es) t)
   (hbase:attributeBase o name X.env (eval o X.env)=eval o X.env:=by rfl)
   (hfew:((backTo cpos (starEach (e::es) X.env)).all (fun x=>!x.1)&&(backToKw cpos (keywordEach [] X.env)).all (fun x=>x.1.isSome)
     && decide ((e::es).length+([]:List Keyword).length+(if ([]:List Keyword).isEmpty then 0 else 1)<30))=true:=by rfl)
   (hline:(apos.endLine==cpos.line)=true:=by rfl) (hs:starEach (e::es) X.env=(false,eval e X.env)::starEach es X.env:=by rfl) (hplain:(backTo cpos (starEach es X.env)).any (·.1)=false:=by rfl) :
   PE X (.Call (.Attribute o name apos) (e::es) [] cpos) (tBM X.K T r to t):=by
 intro pins s Z H Q I h;refine wpAny_Call_method_late hbase hfew hline rfl (thn (ho pins s Z H _ I h) fun v s1 ⟨x,H1,I1,r1,ty,q1⟩=>?_);obtain ⟨h1,h2⟩:=Zk4 I1 r1 ty;refine ⟨T,id,pa,slot,hty,h1,h2,?_⟩;have hA:=ha cpos pins s1 Z H1 _ I1 q1;rw [hs] at hA ⊢;refine Calls.callWith_builtin (by show (false || (backTo cpos (starEach es X.env)).any (·.1))=false;rw [hplain]<;>rfl) (Calls.evalArgs_plain ?_);exact thn hA fun us s2 ⟨vs,H2,I2,r2,q2⟩=>hm pins s2 Z H2 x vs v us Q I2 r1 r2 q2
end
end L2
namespace L2
open PySem PySem.Spec PyProof.Rows
noncomputable def MtM(X:Cx)(id:String)(r:V->List V->Hp->VK->Prop):Prop :=
 ∀ (pins:List (Addr×Obj)) (s:Shared) (Z:St) (H:Hp) (x:V) (xs:List V) (v:Value) (us:List Value) (Q:VK),Inv X pins Z H s->RelV x v->Zh xs us->r x xs H Q ->
   wpAny (model X.prog X.w) X.A (call (.builtin id) (v::us)) (EP X pins Z Q) X.xe s
theorem Zh.one:∀ {x:V}{us:List Value},Zh [x] us->∃ u,us=[u]/\RelV x u
 | _,_,.cons r .nil=>⟨_,rfl,r⟩
theorem Zh.zero:∀ {us:List Value},Zh [] us->us=[]
 | _,.nil=>rfl
theorem Zh.dropLast(h:Zh xs us):Zh xs.dropLast us.dropLast:=by
 induction h with
 | nil=>exact .nil
 | cons r t ih =>
   cases t with
   | nil=>exact .nil
   | cons q t'=>exact .cons r ih
theorem Zh.reverse(h:Zh xs us):Zh xs.reverse us.reverse:=by
 induction h with
 | nil=>exact .nil
 | cons r t ih=>rw [List.reverse_cons,List.reverse_cons];exact Zh.append ih (.cons r .nil)
theorem ZiL(l:List α):l.eraseIdx (l.length - 1)=l.dropLast:=by
 induction l with
 | nil=>rfl
 | cons a r ih =>
   cases r with
   | nil=>rfl
   | cons b r =>
     have e:(a::b::r).length - 1=((b::r).length - 1)+1:=by
       have h1:(a::b::r).length=r.length+2:=rfl;have h2:(b::r).length=r.length+1:=rfl
       lia
     rw [e,List.eraseIdx_cons_succ,ih]
     all_goals rfl
section
variable {X:Cx}{pins:List (Addr×Obj)}{Z:St}{H:Hp}{s:Shared}{l b:Addr}{xs ys zs:List V}
theorem Inv.lset{its its':List Value}{n:Nat}{f:Array Value->Array Value}{t':Nat}(I:Inv X pins Z H s)(hH:H l=some (.lst xs))
   (e:s.heap.get? l=some {cls:=.type "list",data:=.seq its.toArray n}) (hf:f its.toArray=its'.toArray) (hv:Zh ys its') (hz:ys.length<=sizeLine) :
   Inv X pins Z (upd H l (.lst ys)) {s with heap:=s.heap.update l (Obj.mapSeq f),toks:=t'}:=by
 have q:=PySem.IsL.update e f;rw [hf] at q;refine I.write (x:=l) (e:=l) (by rw [hH];exact trivial) (.inl rfl) (fun b' u hb hu=>(Heap.get?_update_other s.heap (Obj.mapSeq f) (Ne.symm hb)).trans hu) ⟨_,q⟩ ?_;exact ⟨hz,its',_,hv,q⟩
theorem Inv.lnew(I:Inv X pins Z H s)(hv:Zh ys its)(hz:ys.length<=sizeLine) :
   Inv X pins Z (upd H s.heap.objs.size (.lst ys)) {s with heap:=s.heap.push {cls:=.type "list",data:=.seq its.toArray},toks:=t'} :=
 I.laid (fun _ _ q=>Od _ q) (Oq _) ⟨hz,its,0,hv,Oj _ rfl⟩
theorem Inv.fresh(I:Inv X pins Z H s):H s.heap.objs.size=none:=I.hok.fresh (Oq _)
theorem Inv.lstM (I:Inv X pins Z H s) (hH:H l=some (.lst xs)):xs.length<=sizeLine/\∃ (its:List Value) (n:Nat),Zh xs its/\xs.length=its.length/\s.heap.get? l=some {cls:=.type "list",data:=.seq its.toArray n}:=by
 obtain ⟨z,its,n,r,e⟩:=I.hok l _ hH;exact ⟨z,its,n,r,r.length,e⟩
theorem Zg7{n:Nat}(h:n<=sizeLine):Builtin.List.listTooLong n=false:=by
 unfold Builtin.List.listTooLong;exact decide_eq_false (by lia)
end
section
variable {X:Cx}
noncomputable def ZnI:V->List V->Hp->VK->Prop:=fun x vs H Q=>∃ l xs y,x=.ref l/\vs=[y]/\H l=some (.lst xs)/\xs.length<sizeLine/\Q .non (upd H l (.lst (xs++[y])))
theorem Zfz:MtM X "list.append" ZnI:=by
 intro pins s Z H x vs v us Q I rx rv h;obtain ⟨l,xs,y,rfl,rfl,hH,hz,q⟩:=h;cases rx;obtain ⟨u,rfl,ru⟩:=rv.one;obtain ⟨z,its,n,r,hl,e⟩:=I.lstM hH;refine call_meets F.slot_list_append ⟨_,e,rfl⟩ F.entry_list_append (F.args_list_append_2 _ _) (PySem.list_append l its.toArray n u (by rw [Of];lia)) ⟨e,?_⟩;refine ⟨.non,_,I.lset (its':=its++[u]) hH e (by simp) (r.append (.cons ru .nil)) ?_,rfl,q⟩;rw [OA,List.length_singleton]
 lia
noncomputable def ZnH:V->List V->Hp->VK->Prop:=fun x vs H Q=>∃ l b xs zs,x=.ref l/\vs=[.ref b]/\H l=some (.lst xs)/\H b=some (.lst zs)/\xs.length+zs.length<=sizeLine/\Q .non (upd H l (.lst (xs++zs)))
theorem ZkC:MtM X "list.extend" ZnH:=by
 intro pins s Z H x vs v us Q I rx rv h;obtain ⟨l,b,xs,zs,rfl,rfl,hH,hB,hz,q⟩:=h;cases rx;obtain ⟨u,rfl,ru⟩:=rv.one;cases ru;obtain ⟨z,its,n,r,hl,e⟩:=I.lstM hH;obtain ⟨z2,its2,n2,r2,hl2,e2⟩:=I.lstM hB;have hsz:its.toArray.size+its2.toArray.size<=sizeLine:=by rw [Of,Of];lia
 have hlong:¬ (!its.toArray.isEmpty&&Builtin.List.listTooLong (its.toArray.size+its2.toArray.size))=true:=by
   rw [Zg7 hsz,Bool.and_false];exact Ow
 refine call_meets F.slot_list_extend ⟨_,e,rfl⟩ F.entry_list_extend (F.args_list_extend_2 _ _)
   (AutoSeq1.list_extend_list_list_0 l its.toArray n b its2.toArray n2 hlong (by rw [Of];lia) (by lia)) ⟨e,e2,?_⟩
 refine ⟨.non,_,I.lset (its':=its++its2) hH e (by simp) (r.append r2) ?_,rfl,q⟩;rw [OA]
 lia
noncomputable def ZuC:V->List V->Hp->VK->Prop:=fun x vs H Q=>∃ l xs y,x=.ref l/\vs=[]/\H l=some (.lst xs)/\xs[xs.length - 1]? = some y/\Q y (upd H l (.lst xs.dropLast))
theorem ZqS:MtM X "list.pop" ZuC:=by
 intro pins s Z H x vs v us Q I rx rv h;obtain ⟨l,xs,y,rfl,rfl,hH,hy,q⟩:=h;cases rx;have hus:=rv.zero;subst hus;obtain ⟨z,its,n,r,hl,e⟩:=I.lstM hH;obtain ⟨u,hu,ru⟩:=r.get hy;have hy':its.toArray[its.toArray.size - 1]? = some u:=by
   show its.toArray[its.length - 1]? = some u;rw [<- Array.getElem?_toList,<- hl];exact hu
 refine call_meets F.slot_list_pop ⟨_,e,rfl⟩ F.entry_list_pop (F.args_list_pop_1 _) (MeetsSeq.list_pop_last l its.toArray n u hy' (by rw [Of];lia)) ⟨e,?_⟩;refine ⟨y,_,I.lset (its':=its.dropLast) hH e ?_ r.dropLast ?_,ru,q⟩
 . show its.toArray.eraseIdxIfInBounds (its.toArray.size - 1)=its.dropLast.toArray;rw [Of,List.eraseIdxIfInBounds_toArray,ZiL]
 . rw [List.length_dropLast]
   lia
noncomputable def Zlv:V->List V->Hp->VK->Prop:=fun x vs H Q=>∃ l xs,x=.ref l/\vs=[]/\H l=some (.lst xs)/\Q .non (upd H l (.lst xs.reverse))
theorem Ziq:MtM X "list.reverse" Zlv:=by
 intro pins s Z H x vs v us Q I rx rv h;obtain ⟨l,xs,rfl,rfl,hH,q⟩:=h;cases rx;have hus:=rv.zero;subst hus;obtain ⟨z,its,n,r,hl,e⟩:=I.lstM hH;refine call_meets F.slot_list_reverse ⟨_,e,rfl⟩ F.entry_list_reverse (F.args_list_reverse_1 _) (AutoSeq1.list_reverse_list_0 l its.toArray n (by rw [Of];lia)) ⟨e,?_⟩;refine ⟨.non,_,I.lset (its':=its.reverse) hH e (by simp) r.reverse ?_,rfl,q⟩;rw [List.length_reverse]
 lia
noncomputable def Zqg:V->List V->Hp->VK->Prop:=fun x vs H Q=>∃ l xs,x=.ref l/\vs=[]/\H l=some (.lst xs)/\Q .non (upd H l (.lst []))
theorem Zl8:MtM X "list.clear" Zqg:=by
 intro pins s Z H x vs v us Q I rx rv h;obtain ⟨l,xs,rfl,rfl,hH,q⟩:=h;cases rx;have hus:=rv.zero;subst hus;obtain ⟨z,its,n,r,hl,e⟩:=I.lstM hH;refine call_meets F.slot_list_clear ⟨_,e,rfl⟩ F.entry_list_clear (F.args_list_clear_1 _) (AutoSeq1.list_clear_list_0 l its.toArray n (by rw [Of];lia)) ⟨e,?_⟩;exact ⟨.non,_,I.lset (its':=[]) (ys:=[]) hH e rfl .nil (Nat.zero_le _),rfl,q⟩
noncomputable def ZuI:R2:=fun x y H Q=>∃ l b xs zs,x=.ref l/\y=.ref b/\H l=some (.lst xs)/\H b=some (.lst zs)/\xs.length+zs.length<=sizeLine/\∀ p,H p=none->Q (.ref p) (upd H p (.lst (xs++zs)))
theorem ZqL:OpR X (binaryOp .Add) ZuI:=by
 intro pins s Z H x y v u Q I rx ry h;obtain ⟨l,b,xs,zs,rfl,rfl,hH,hB,hz,q⟩:=h;cases rx;cases ry;obtain ⟨z,its,n,r,hl,e⟩:=I.lstM hH;obtain ⟨z2,its2,n2,r2,hl2,e2⟩:=I.lstM hB;refine PySem.P.add_list e e2 ?_ (by rw [Of,Of];lia);have ea:its.toArray++its2.toArray=(its++its2).toArray:=by simp
 rw [ea];exact ⟨.ref _,_,I.lnew (t':=s.toks) (r.append r2) (by rw [OA];lia),rfl,q _ I.fresh⟩
end
end L2
namespace Att
open PySem PySem.W PySem.Calls PyProof.Rows
theorem Zd1:∀ (ns:List Int) (vs:List Value),WellAll P h vs (ns.map WData.int)->IntsAre vs ns:=by
 intro ns;induction ns with
 | nil =>
   intro vs w;rw [Oy] at w;cases w;exact .nil
 | cons n ns ih =>
   intro vs w;rw [Op] at w;cases w with
   | cons a b =>
     cases a;exact .cons _ _ (ih _ b)
theorem Zkj{l:OpenLaw}{n:Nat}(hn:l.most=some n){P:Params}{h:Heap}{args:List WData}{vals:List Value}
   (hpre:l.row.toRowW.claim.pre args=true) (hwl:WellAll P h vals args) :
   ∃ a vs ns,vals=[Value.ref a]/\args=[WData.list (ns.map WData.int)]/\h.get? a=some {cls:=.type "list",data:=.seq vs.toArray}/\IntsAre vs ns/\ns.length<=n:=by
 have hsh:WShape.hasAll [] args [.list .int]=true:=(pre_splitW hpre).1;have hc:l.pre.holds [] {args:=args}=true:=(pre_splitW hpre).2;obtain ⟨d,r,rfl,h1,h2⟩:=hasAllW_cons hsh;obtain rfl:=hasAllW_nil h2;obtain ⟨xs,rfl,h3⟩:=hasW_list h1;obtain ⟨ns,rfl⟩:=items_int h3;have hlen:ns.length<=n:=by
   unfold OpenLaw.pre at hc;have h4:(WTm.not (.lt (.lit (.int (n:Int))) (.len (.arg 0)))).holds [] {args:=[.list (ns.map .int)]}=true:=by
     have h4:=(holds_andW hc).1;rw [hn] at h4;exact h4
   have h5:=condW_of h4 (w_not (w_lt w_lit (w_len_list (w_arg rfl))));rw [List.length_map] at h5;refine Nat.le_of_not_lt fun q=>?_;have q':(n:Int)<((ns.length:Nat):Int):=by lia
   first
     | (rw [decide_eq_true q'] at h5;exact absurd h5 (by decide))
     | (simp at h5;lia)
 cases hwl with
 | cons w1 w2 =>
   cases w2;cases w1 with
   | list ho hall=>exact ⟨_,_,ns,rfl,rfl,ho,Zd1 ns _ hall,hlen⟩
theorem Zko(l:OpenLaw)(args:List WData):l.row.toRowW.claim.post args (.bool true) args=true :=
 postW_of (r:=l.row.toRowW) (X:=(true==true))
   (show WShape.has [] (.bool true) .bool=true by first|rfl|decide|simp [WShape.has,WShape.arms,WShape.armsAll])
   (show (WTm.eq .res (.lit (.bool true))).value [] {args:=args,res:=some (.bool true),after:=args}=some (.bool (true==true)) from w_eq_bool (w_res rfl) w_lit) rfl
theorem ZhZ{l:OpenLaw}{n:Nat}{q:Program}{loose:List Str}{XP:(Str->Option Value)->Heap->Prop}{YP:World->Heap->Prop}{d:DefRec}
   (hn:l.most=some n) (hdf:d.params.defaults=[])
   (call:∀ (w:World) (s₀ s₁:Shared) (mg mb:Str->Option Value) (fa:Addr) (o:Obj) (pm cd doc:Value) (a:Addr) (vs:List Value) (ns:List Int),
     Ground q loose [] XP w s₀ mg mb s₁.heap->YP w s₁.heap ->
     s₁.heap.get? fa=some o->o.data=.func (docDef d.name d.params d.body d.scope pm cd doc)->s₁.heap.CodeRec cd d.name->mg d.name=some (.ref fa) ->
     s₁.heap.get? a=some {cls:=.type "list",data:=.seq vs.toArray}->IntsAre vs ns->ns.length<=n->s₁.gens=#[] ->
     codeAny (model l.prog w) callerA (.call (.ref fa) ⟨[.ref a],[]⟩) (fun r s'=>r=.ok (.ret (.bool true))/\OldK s₁.heap s'.heap/\s'.os=s₁.os/\AllBare s'.gens) s₁) :
   WalkO q loose XP YP l.row.toRowW d [] (fun f vs=>PySem.call f vs):=by
 intro w s₀ s₁ mg mb G Y fa o pm cd doc dV kV ho hd hcd hD hmg hg args vals as hpre hlay hrd hwl hlo;obtain rfl:dV=.none:=Dflts.none hD hdf;obtain rfl:kV=.none:=Dflts.noKw hD;obtain ⟨a,vs,ns,rfl,rfl,hobj,hints,hlen⟩:=Zkj hn hpre hwl;refine enter_call (codeAny_mono (call w s₀ s₁ mg mb fa o pm cd doc a vs ns G Y ho (fd_plain hd) hcd hmg hobj hints hlen hg) fun r s' hq=>?_);obtain ⟨rfl,h2,h3,h4⟩:=hq;exact ⟨.inl ⟨.bool true,.bool true,[],rfl,fun _=>rfl,.bool true,Zko l _,fun _=>⟨List.Pairwise.nil,fun _ hm=>(nomatch hm)⟩⟩,h2,h3,h4⟩
end Att
namespace L2
open PySem PySem.Spec PyProof.Rows
theorem Zfp:∀ {vs:List Value}{ns:List Int},IntsAre vs ns->Zh (ns.map V.int) vs
 | _,_,.nil=>.nil
 | _,_,.cons n t h=>.cons ⟨t,rfl⟩ (Zfp h)
noncomputable def Zpj(H:Hp):Prop:=∀ b,H b=none\/∃ o xs,H b=some (.frz o (.lst xs))
theorem Zme{P:Program}{w:World}{K:PySem.W.Frag}{mg mb:Str->Option Value}{CX:CXT}{k:Nat}{fa a:Addr}{fd:FuncData}{x:Str}{sp:Sp}{s₁:Shared}{vs:List Value}{ns:List Int}
   (KX:K.In s₁.heap) (hns:s₁.heap.Ns mainGlobals mg) (hb:s₁.heap.Ns builtinsNs mb) (hbb:∀ x:Str,x ≠ "__name__" -> mb x=bootBuiltins x) (hlim:s₁.heap.NoLimit) (hg:s₁.gens=#[])
   (ha:s₁.heap.get? a=some {cls:=.type "list",data:=.seq vs.toArray}) (hi:IntsAre vs ns) (hl:ns.length<=sizeLine) (hr:Room k callerA)
   (F:∀ base:Heap,K.In base->base.Ns mainGlobals mg->FnOk P w K mg base CX k fa fd [x] sp) (hbind:∀ (s:Shared) (u:Value),BindsTo s fd ⟨[u],[]⟩ [(x,u)])
   (hsp:∀ H:Hp,Zpj H->SqL K H a (ns.map V.int)->sp [.ref a] H (fun v _=>v=.bl true) fun _ _ _=>False)
   (hCX:∀ H e s',CX [] H s₁ (fun _ _ _=>False) e s'->False) :
   codeAny (model P w) callerA (.call (.ref fa) ⟨[.ref a],[]⟩) (fun r s'=>r=.ok (.ret (.bool true))/\OldK s₁.heap s'.heap/\s'.os=s₁.os/\AllBare s'.gens) s₁:=by
 have rv:=Zfp hi;have lenV:=hi.length;have core:∀ H:Hp,Zpj H->SqL K H a (ns.map V.int)->HOk P w H s₁.heap->(∀ b,H b≠none->b=a)->(H a≠none->K.lookup a=none) ->
     codeAny (model P w) callerA (.call (.ref fa) ⟨[.ref a],[]⟩) (fun r s'=>r=.ok (.ret (.bool true))/\OldK s₁.heap s'.heap/\s'.os=s₁.os/\AllBare s'.gens) s₁:=by
   intro H hO hS hok hA hK;have base_of:∀ {b:Addr}{o:Obj},s₁.heap.get? b=some o->H b=none->(Zgc s₁.heap H).get? b=some o:=fun e n=>Zmr e n;have noA:∀ {b:Addr}{o:Obj}{es:Array DictEntry}{ep:Nat},s₁.heap.get? b=some o->o.data=.dict es ep->H b=none:=fun {b o es ep} e d=>by
     cases q:H b with
     | none=>rfl
     | some u =>
       have e':b=a:=hA b (by rw [q];simp);subst e';rw [ha] at e;cases e;have d':Data.seq vs.toArray _=Data.dict es ep:=d;cases d'
   have nsK:∀ {b:Addr}{m:Str->Option Value},s₁.heap.Ns b m->(Zgc s₁.heap H).Ns b m:=fun {b m} ⟨o,es,ep,e,d,r⟩=>⟨o,es,ep,base_of e (noA e d),d,r⟩
   have hKb:K.In (Zgc s₁.heap H):=fun b o e=>base_of (KX b o e) (by
     cases q:H b with
     | none=>rfl
     | some u =>
       have e':b=a:=hA b (by rw [q];simp);subst e';rw [hK (by rw [q];simp)] at e;cases e)
   have hM:Mod K mg (Zgc s₁.heap H):=⟨hKb,nsK hns,⟨mb,nsK hb,hbb⟩,let ⟨mc,h1,h2⟩:=hlim;⟨mc,nsK h1,h2⟩⟩
   have e0:Env0 P w K mg (Zgc s₁.heap H) callerA [] s₁ H:=⟨rfl,hM,fun b o e=>Zol e,Nat.le_of_eq (ZkJ _ _),trivial,fun b hb=>absurd (show b∈([]:List Addr) from hb) (by simp),hok,.of_eq hg⟩
   refine codeAny_mono ((F _ hKb (nsK hns)).run callerA [] s₁ H ⟨[.ref a],[]⟩ [.ref a] [.ref a] _ _ hr e0 (hbind s₁ (.ref a)) (.cons rfl .nil) (hsp H hO hS)) fun r s' h=>?_;cases r with
   | error e=>exact (hCX H e s' h).elim
   | ok fl =>
     cases fl with
     | next=>exact False.elim h
     | brk=>exact False.elim h
     | cont=>exact False.elim h
     | ret u =>
       obtain ⟨v,H',os,bare,un,hok',r',q⟩:=h;have q':v=.bl true:=q;subst q';obtain rfl:u=Value.bool true:=r';refine ⟨rfl,OldK.of_keep fun b o e=>?_,os,bare⟩;cases q:H b with
       | none=>exact un.keep b o e q (by intro z;exact absurd (show b∈([]:List Addr) from z) (by simp)) (by simp)
       | some u =>
         rcases hO b with z|⟨ob,xs,z⟩
         . rw [q] at z;cases z
         . have z2:=un.frzs b ob _ z;obtain ⟨e1,_⟩:=hok b _ z;obtain ⟨e2,_⟩:=hok' b _ z2;rw [e] at e1;cases e1;exact e2
 cases hk:K.lookup a with
 | some o =>
   have e:=KX a o hk;rw [ha] at e;cases e;refine core (fun _=>none) (fun _=>.inl rfl) (.inr ⟨_,vs.toArray,_,hk,rfl,rfl,rfl,by rw [Of,lenV];exact hl,by simpa using rv⟩) (fun b u z=>by have z':(none:Option HO)=some u:=z;cases z') (fun b z=>absurd rfl z) fun z=>absurd rfl z
 | none =>
   refine core (fun b=>if b=a then some (.frz {cls:=.type "list",data:=.seq vs.toArray} (.lst (ns.map V.int))) else none) (fun b=>?_) (.inl (.inr ⟨{cls:=.type "list",data:=.seq vs.toArray},if_pos rfl⟩)) (fun b u z=>?_) (fun b z=>?_) fun _=>hk
   . by_cases hb:b=a
     . exact .inr ⟨_,_,if_pos hb⟩
     . exact .inl (if_neg hb)
   . by_cases hb:b=a
     . have z':=(if_pos hb).symm.trans z;cases z';subst hb;exact ⟨ha,by rw [List.length_map];exact hl,vs,_,rv,ha⟩
     . have z':=(if_neg hb).symm.trans z;cases z'
   . by_cases hb:b=a
     . exact hb
     . exact absurd (if_neg hb) z
end L2
namespace L2
open PySem PySem.Spec PyProof.Rows
theorem Zng{l:PySem.W.OpenLaw}{n k:Nat}{q:Program}{loose:List Str}{XP:(Str->Option Value)->Heap->Prop}{YP:World->Heap->Prop}{d:DefRec}{K:Params->PySem.W.Frag}{CX:World->CXT}{sp:World->Sp}{x:Str}
   (hn:l.most=some n) (hn2:n<=sizeLine) (hdf:d.params.defaults=[]) (hr:Room k callerA)
   (hY:∀ (w:World) (h:Heap),YP w h->(K w.params).In h)
   (F:∀ (w:World) (mg:Str->Option Value) (fa:Addr) (h:Heap),(K w.params).In h->h.Ns mainGlobals mg->mg d.name=some (.ref fa) ->
     ∃ fd:FuncData,(∀ (s:Shared) (u:Value),BindsTo s fd ⟨[u],[]⟩ [(x,u)]) /\
       ∀ base:Heap,(K w.params).In base->base.Ns mainGlobals mg->FnOk l.prog w (K w.params) mg base (CX w) k fa fd [x] (sp w))
   (hsp:∀ (w:World) (H:Hp) (a:Addr) (ns:List Int),ns.length<=n->Zpj H->SqL (K w.params) H a (ns.map V.int)->sp w [.ref a] H (fun v _=>v=.bl true) fun _ _ _=>False)
   (hCX:∀ (w:World) (H:Hp) (s:Shared) (e:Value) (s':Shared),CX w [] H s (fun _ _ _=>False) e s'->False) :
   PySem.W.WalkO q loose XP YP l.row.toRowW d [] (fun f vs=>PySem.call f vs):=by
 refine Att.ZhZ hn hdf fun w s₀ s₁ mg mb fa o pm cd doc a vs ns G Y ho hd hcd hmg hobj hints hlen hg=>?_;have KX:=hY w _ Y;obtain ⟨fd,hb,hF⟩:=F w mg fa _ KX G.T.g hmg;exact Zme KX G.T.g G.T.b G.T.builtins G.T.nolimit hg hobj hints (OE hlen hn2) hr hF hb (fun H hO hS=>hsp w H a ns hlen hO hS) fun H e s'=>hCX w H s₁ e s'
end L2
namespace L2
open PySem PySem.Spec PyProof.Rows
noncomputable def inClass(s:Stmt)(j:Nat):Stmt:=match s with
 | .ClassDef _ _ _ body _ _ _ _ _ _ _=>body.getD j (.Pass ⟨0,0,0,0⟩)
 | _=>.Pass ⟨0,0,0,0⟩
noncomputable def Zct(s:Stmt):Arguments:=match s with
 | .FunctionDef _ a _ _ _ _ _ _ _ _=>a
 | _=>{posonlyargs:=[],args:=[],vararg:=none,kwonlyargs:=[],kw_defaults:=[],kwarg:=none,defaults:=[]}
noncomputable def Zbc(s:Stmt):List Stmt:=match s with
 | .FunctionDef _ _ b _ _ _ _ _ _ _=>b
 | _=>[]
noncomputable def ZM(s:Stmt):Scope:=match s with
 | .FunctionDef _ _ _ _ _ _ sc _ _ _=>sc
 | _=>{kind:=.function,names:=[],isGenerator:=false,isCoroutine:=false}
noncomputable abbrev E0:XK:=fun _ _ _=>False
structure Fun(K:PySem.W.Frag)(x qual:Str)(st:Stmt)(f:Addr)(fd:FuncData):Prop where
 ex:∃ (oc:Value) (od:Option Addr) (kV doc pm:Value) (an:Option Addr) (cdv ct:Value) (osl:Array (Option Value)),
   fd=PySem.W.fnOf x qual (Zct st) (Zbc st) (ZM st) .none kV doc pm an cdv ct/\K.lookup f=some ⟨oc,od,.func fd,osl⟩/\PySem.W.codeIn K cdv qual=true
 kp:PySem.W.keepIn K (.ref f)=true
section
variable {P:Program}{w:World}{K:PySem.W.Frag}{mg:Str->Option Value}{base:Heap}
theorem Fun.binds{x qual:Str}{st:Stmt}{f:Addr}{fd:FuncData}{ps:List Str}(F:Fun K x qual st f fd)
   (h:∀ (kV doc pm:Value) (an:Option Addr) (cdv ct:Value) (us:List Value),us.length=ps.length->bindArgs (PySem.W.fnOf x qual (Zct st) (Zbc st) (ZM st) .none kV doc pm an cdv ct) ⟨us,[]⟩=pure (ps.zip us)):Binds K fd ps []:=by
 obtain ⟨oc,od,kV,doc,pm,an,cdv,ct,osl,rfl,lk,hcd⟩:=F.ex;exact .all (h kV doc pm an cdv ct)
theorem Zmv{x qual:Str}{st:Stmt}{f:Addr}{oc:Value}{od an:Option Addr}{osl:Array (Option Value)}{kV doc pm cdv ct:Value}(l:K.lookup f=some ⟨oc,od,.func (PySem.W.fnOf x qual (Zct st) (Zbc st) (ZM st) .none kV doc pm an cdv ct),osl⟩)
   (c:PySem.W.codeIn K cdv qual=true) (k:PySem.W.keepIn K (.ref f)=true):Fun K x qual st f (PySem.W.fnOf x qual (Zct st) (Zbc st) (ZM st) .none kV doc pm an cdv ct):=⟨⟨oc,od,kV,doc,pm,an,cdv,ct,osl,rfl,l,c⟩,k⟩
end
theorem ZiC{A B_:Prop}(h:B_):if false=true then A else B_:=by
 rw [if_neg Ow];exact h
theorem ZiB{A B_:Prop}(h:A):if true=true then A else B_:=by
 rw [if_pos rfl];exact h
end L2
end
section
set_option tactic.hygienic false
namespace L2
open PySem PySem.Spec PyProof.Rows
section
variable {κ:Type} [DecidableEq κ]
noncomputable def Zcw(kvs:List (κ×V))(k:κ):Option V:=(kvs.find? fun kv=>decide (kv.1=k)).map (·.2)
noncomputable def putK(kvs:List (κ×V))(k:κ)(v:V):List (κ×V) :=
 if (kvs.any fun kv=>decide (kv.1=k))=true then kvs.map (fun kv=>if kv.1=k then (kv.1,v) else kv) else kvs++[(k,v)]
theorem Zk0{p:κ×V}{r:List (κ×V)}{k:κ}(e:p.1=k):Zcw (p::r) k=some p.2:=by simp [Zcw,List.find?_cons,e]
theorem Zk1{p:κ×V}{r:List (κ×V)}{k:κ}(e:¬ p.1=k):Zcw (p::r) k=Zcw r k:=by simp [Zcw,List.find?_cons,e]
theorem ZdQ(kvs:List (κ×V))(k:κ)(v:V):(putK kvs k v).length<=kvs.length+1:=by
 unfold putK;split
 . rw [List.length_map];lia
 . rw [OA,Os,List.length_nil];lia
theorem Zdp.isSome_eq{o:Option V}{u:Option Value}(r:Zdp o u):o.isSome=u.isSome:=by
 cases o with
 | none=>cases u with
   | none=>rfl
   | some _=>exact (show False from r).elim
 | some _=>cases u with
   | none=>exact (show False from r).elim
   | some _=>rfl
theorem KV.val{kvs:List (κ×V)}{vs:List (κ×Value)}(r:KV kvs vs)(k:κ):Zdp (Zcw kvs k) (valueAt vs k):=by
 unfold KV at r;induction r with
 | nil=>exact True.intro
 | @cons p q ps qs h t ih =>
   obtain ⟨h1,h2⟩:=h;by_cases e:p.1=k
   . have e':q.1=k:=h1.symm.trans e;have b:valueAt (q::qs) k=some q.2:=by simp [valueAt,List.find?_cons,e']
     rw [Zk0 e,b];exact h2
   . have e':¬ q.1=k:=fun z=>e (h1.trans z);have b:valueAt (q::qs) k=valueAt qs k:=by simp [valueAt,List.find?_cons,e']
     rw [Zk1 e,b];exact ih
theorem KV.any{kvs:List (κ×V)}{vs:List (κ×Value)}(r:KV kvs vs)(k:κ):(kvs.any fun kv=>decide (kv.1=k))=vs.any fun kv=>decide (kv.1=k):=by
 unfold KV at r;induction r with
 | nil=>rfl
 | cons h t ih=>rw [List.any_cons,List.any_cons,ih,h.1]
theorem KV.repl{kvs:List (κ×V)}{vs:List (κ×Value)}(r:KV kvs vs)(k:κ){y:V}{u:Value}(ry:RelV y u) :
   KV (kvs.map fun kv=>if kv.1=k then (kv.1,y) else kv) (vs.map fun kv=>if kv.1=k then (kv.1,u) else kv):=by
 unfold KV at r ⊢;induction r with
 | nil=>exact .nil
 | @cons p q ps qs h t ih =>
   rw [Op,Op];refine .cons ?_ ih;obtain ⟨h1,h2⟩:=h;by_cases e:p.1=k
   . rw [if_pos e,if_pos (h1.symm.trans e)];exact ⟨h1,ry⟩
   . rw [if_neg e,if_neg (fun z=>e (h1.trans z))];exact ⟨h1,h2⟩
theorem KV.put{kvs:List (κ×V)}{vs:List (κ×Value)}(r:KV kvs vs)(k:κ){y:V}{u:Value}(ry:RelV y u):KV (putK kvs k y) (stored vs k u):=by
 unfold putK stored;rw [r.any k];by_cases e:(vs.any fun kv=>decide (kv.1=k))=true
 . rw [if_pos e,if_pos e];exact r.repl k ry
 . rw [if_neg e,if_neg e];exact Paired.snoc r ⟨rfl,ry⟩
theorem KV.length(r:KV kvs vs):kvs.length=vs.length:=Paired.length r
end
theorem Zhk(r:RelV (kV k) u):(Zz P w).is k u=true:=by
 cases k with
 | inl i=>obtain ⟨t,e⟩:=(show ∃ t,u=Value.int i t from r);subst e;exact Zhc P w i t
 | inr x=>obtain ⟨t,e⟩:=(show ∃ t,u=Value.str x t from r);subst e;exact Zhb P w x t
section
variable {P:Program}{w:World}{H:Hp}{h:Heap}{a:Addr}
theorem ZsD(ok:HOk P w H h)(e:Rd H a u):ZO P w H h a u:=e.ok ok
theorem ZmJ(ok:HOk P w H h)(e:Rd H a (.dK kvs)):kvs.length<=sizeLine/\(a==sysModules)=false/\∃ vs,KV kvs vs/\h.DictOf (Zz P w) a vs :=
 show ZO P w H h a (.dK kvs) from ZsD ok e
theorem ZpG(ok:HOk P w H h)(e:H a=some (.dK kvs)):kvs.length<=sizeLine/\(a==sysModules)=false/\∃ vs,KV kvs vs/\h.DictOf (Zz P w) a vs:=ZmJ ok (.inl e)
end
section
variable {X:Cx}{pins:List (Addr×Obj)}{Z:St}{H:Hp}{s:Shared}{a:Addr}{y v:V}{u r:Value}{o:Option V}{A:Around}{E:Value->Shared->Prop}
theorem Inv.big(I:Inv X pins Z H s):sysModules<s.heap.objs.size:=by
 have h:mainGlobals<s.heap.objs.size:=(I.mod.glob.keeps I.bk).lt;exact Nat.lt_trans (by decide) h
theorem ZjP(I:Inv X pins Z H s)(mu:Mut (H a))(hs:Heap.SameBut a s.heap h')(he:∃ q,h'.get? a=some q)(new:ZO X.prog X.w (upd H a ob) h' a ob) :
   Inv X pins Z (upd H a ob) {s with heap:=h',toks:=t'} :=
 I.write (x:=a) (e:=a) mu (.inl rfl) (fun b q hb z=>(hs.2 b hb).trans z) he new
theorem ZiN(z:kvs.length<=sizeLine)(hd:(a==sysModules)=false)(rel:KV kvs vs)(dd:h'.DictOf (Zz P w) a vs) :
   ZO P w H' h' a (.dK kvs):=⟨z,hd,vs,rel,dd⟩
end
theorem Zhx (h:Heap) (hb:sysModules<h.objs.size):ZO P w H (h.push {cls:=.type "dict",data:=.dict #[]}) h.objs.size (.dK []) :=
 ⟨Nat.zero_le _,beq_eq_false_iff_ne.mpr (Ne.symm (Ou hb)),[],.nil,Heap.DictOf.new h⟩
noncomputable def Zp4:TE:=fun _ H Q=>∀ p,H p=none->Q (.ref p) (upd H p (.dK []))
section
variable {X:Cx}{pos:Pos}
theorem ZlQ:PE X (.Dict [] [] pos) Zp4:=fun pins s Z H Q I h =>
 wpAny_Dict_empty ⟨.ref s.heap.objs.size,_,I.laid (a:=s.heap.objs.size) (o:=.dK []) (t':=s.toks) (fun _ _ q=>Od _ q) (Oq _) (Zhx s.heap I.big),rfl,h _ (I.hok.fresh (Oq _))⟩
end
noncomputable def ZfP:List (TE×TE)->St->Hp->(List (V×V)->Hp->Prop)->Prop
 | [],_,H,Q=>Q [] H
 | (tk,tv)::r,Z,H,Q=>tk Z H fun x H1=>tv Z H1 fun y H2=>ZfP r Z H2 fun ps H3=>Q ((x,y)::ps) H3
noncomputable abbrev VV:List (V×V)->List (Value×Value)->Prop:=Paired fun p q=>RelV p.1 q.1/\RelV p.2 q.2
noncomputable def PPs(X:Cx)(pos:Pos)(keys:List (Option Expr))(values:List Expr)(trs:List (TE×TE)):Prop :=
 ∀ (pins:List (Addr×Obj)) (s:Shared) (Z:St) (H:Hp) (Q:List (V×V)->Hp->Prop),Inv X pins Z H s->ZfP trs Z H Q ->
   wpAny (model X.prog X.w) X.A (evalPairs (pairTrees keys values X.env pos)) (fun vs s'=>∃ ps H',Inv X pins Z H' s'/\VV ps vs/\Q ps H') X.xe s
theorem ZnO:PPs X pos [] [] []:=fun pins s Z H Q I h=>pairTrees_nil_walk ⟨[],H,I,.nil,h⟩
theorem ZlG(hk:PE X k tk)(hv:PE X v tv)(hr:PPs X pos ks vs trs) :
   PPs X pos (some k::ks) (v::vs) ((tk,tv)::trs):=fun pins s Z H Q I h =>
 pairTrees_cons_walk (thn (hk pins s Z H _ I h) fun u s1 ⟨x,H1,I1,rx,q1⟩=>thn (hv pins s1 Z H1 _ I1 q1) fun w2 s2 ⟨y,H2,I2,ry,q2⟩ =>
   thn (hr pins s2 Z H2 _ I2 q2) fun ws s3 ⟨ps,H3,I3,rel,q3⟩=>⟨(x,y)::ps,H3,I3,.cons ⟨rx,ry⟩ rel,q3⟩)
noncomputable def Zdy(kvs more:List (Key×V)):List (Key×V):=more.foldl (fun acc kv=>putK acc kv.1 kv.2) kvs
theorem KV.merge:∀ {more:List (Key×V)}{rs:List (Key×Value)}{kvs:List (Key×V)}{vs:List (Key×Value)},KV more rs->KV kvs vs->KV (Zdy kvs more) (merged vs rs):=by
 intro more rs kvs vs r;unfold KV at r;induction r generalizing kvs vs with
 | nil=>intro q;exact q
 | @cons p q ps qs h t ih =>
   intro r0;have e:KV (putK kvs p.1 p.2) (stored vs q.1 q.2):=by
     have:=r0.put p.1 h.2;rw [<- h.1];exact this
   exact ih e
theorem ZcC:∀ (more kvs:List (Key×V)),(Zdy kvs more).length<=kvs.length+more.length
 | [],kvs=>by show kvs.length<=kvs.length+0;lia
 | p::r,kvs=>by
   have h1:=ZcC r (putK kvs p.1 p.2);have h2:=ZdQ kvs p.1 p.2;show (Zdy (putK kvs p.1 p.2) r).length<=_;rw [Os];lia
theorem Ze5:∀ {kvs:List (Key×V)}{ws:List (Value×Value)},VV (kvs.map fun kv=>(kV kv.1,kv.2)) ws->∃ rs,Carries (Zz P w) ws rs/\KV kvs rs
 | [],_,r=>by rw [Oy] at r;cases r;exact ⟨[],True.intro,.nil⟩
 | p::kvs,_,r=>by
   rw [Op] at r;cases r with
   | @cons a b as bs h t =>
     obtain ⟨rs,c,q⟩:=Ze5 (P:=P) (w:=w) t;obtain ⟨b1,b2⟩:=b;exact ⟨(p.1,b2)::rs,⟨Zhk h.1,rfl,c⟩,.cons ⟨rfl,h.2⟩ q⟩
noncomputable def Zst(trs:List (TE×TE)):TE:=fun Z H Q=>∀ p,H p=none->ZfP trs Z (upd H p (.dK [])) fun ps H2=>H2 p=some (.dK [])/\∃ kvs:List (Key×V),ps=kvs.map (fun kv=>(kV kv.1,kv.2))/\kvs.length<=15/\Q (.ref p) (upd H2 p (.dK (Zdy [] kvs)))
theorem Zn0(h:PPs X pos keys values trs)(hall:keys.all (·.isSome)=true)(hl:keys.length=values.length)(h0:keys≠[])
   (h15:keys.length<=15):PE X (.Dict keys values pos) (Zst trs):=by
 intro pins s Z H Q I q;have hn:=I.hok.fresh (Oq s.heap.objs.size);have I1:=I.laid (a:=s.heap.objs.size) (o:=.dK []) (h':=s.heap.push {cls:=.type "dict",data:=.dict #[]}) (t':=s.toks) (fun _ _ q=>Od _ q) (Oq _) (Zhx s.heap I.big);refine wpAny_Dict_walk (knd:=Zz X.prog X.w) hall hl h0 h15 (thn (h pins _ Z _ _ I1 (q _ hn)) fun ws s2 ⟨ps,H2,I2,rel,e,kvs,ep,lk,q2⟩=>?_);subst ep;obtain ⟨rs,c,rk⟩:=Ze5 (P:=X.prog) (w:=X.w) rel;obtain ⟨z,hd,vs0,r0,dd⟩:=ZpG I2.hok e;cases r0;refine ⟨rs,c,dd,fun h' dd' hs=>⟨.ref s.heap.objs.size,_,?_,rfl,q2⟩⟩;have hz:(Zdy [] kvs).length<=sizeLine:=by
   have h1:=ZcC kvs [];rw [List.length_nil] at h1;rw [sizeLine_eq];lia
 have he:∃ q,h'.get? s.heap.objs.size=some q:=let ⟨q,_,_,hq,_⟩:=dd';⟨q,hq⟩;exact ZjP I2 (by rw [e];exact True.intro) hs he (ZiN hz hd (rk.merge .nil) dd')
section
variable {X:Cx}{pins:List (Addr×Obj)}{Z:St}{H:Hp}{s:Shared}{a:Addr}{kvs:List (Key×V)}{A:Around}{E:Value->Shared->Prop}
theorem ZmK (I:Inv X pins Z H s) (e:Rd H a (.dK kvs)) (h:∀ p s',H p=none->Inv X pins Z (upd H p (.dK kvs)) s'->Q (.ref p) s'):wpAny (model X.prog X.w) A (call (.type "dict") [.ref a]) Q E s:=by
 obtain ⟨z,hd,vs,rel,dd⟩:=ZmJ I.hok e;refine kt_call_dict hd dd (by rw [<- rel.length];exact z) fun h' dd' hs=>?_;refine h _ _ (I.hok.fresh (Oq _)) (I.laid (a:=s.heap.objs.size) (o:=.dK kvs) (t':=s.toks) (fun b q hq=>?_) (Oq _) (ZiN z (beq_eq_false_iff_ne.mpr (Ne.symm (Ou I.big))) rel dd'));exact (hs.2 b (Ou (Heap.lt_size hq))).trans (Od _ hq)
end
end L2
end
section
namespace L2
open PySem PySem.Spec PyProof.Rows
theorem ZbV{env:Env}:∀ (names:List (Str×NameKind)) (x:Str),
   (names.map fun (n,k)=>if (k==NameKind.free&&env.scope.kind==.function&&env.kindOf n==some .cell) then (n,NameKind.cell) else (n,k)).lookup x =
     (names.lookup x).map fun k=>if (k==NameKind.free&&env.scope.kind==.function&&env.kindOf x==some .cell) then NameKind.cell else k
 | [],_=>rfl
 | (n,k)::r,x=>by
   have ih:=@ZbV env r x;show List.lookup x ((if (k==NameKind.free&&env.scope.kind==.function&&env.kindOf n==some .cell)=true then (n,NameKind.cell) else (n,k))::_)=_;cases hx:x==n with
   | true =>
     have e:x=n:=by simpa using hx
     subst e;by_cases hc:(k==NameKind.free&&env.scope.kind==.function&&env.kindOf x==some .cell)=true
     . rw [if_pos hc];simp only [OF,hx,Option.map_some,if_pos hc]
     . rw [if_neg hc];simp only [OF,hx,Option.map_some,if_neg hc]
   | false =>
     by_cases hc:(k==NameKind.free&&env.scope.kind==.function&&env.kindOf n==some .cell)=true
     . rw [if_pos hc];simp only [OF,hx];exact ih
     . rw [if_neg hc];simp only [OF,hx];exact ih
noncomputable def ZdH(env:Env):List (Str×NameKind)->List (Str×Addr)->List (Str×Addr)
 | [],cs=>cs
 | (n,k)::r,cs=>ZdH env r (if (k==.free)=true then (n,(env.cells.lookup n).getD 0)::cs else cs)
theorem ZhG{env:Env}:∀ (l:List (Str×NameKind)) (cs:List (Str×Addr)),(∀ y∈l,y.2=.free->∃ c,env.cells.lookup y.1=some c) ->
   (∀ x c,(x,c)∈cs->env.cells.lookup x=some c)->∀ x c,(x,c)∈ZdH env l cs->env.cells.lookup x=some c
 | [],cs,_,h2,x,c,hm=>h2 x c hm
 | (n,k)::r,cs,h1,h2,x,c,hm=>by
   refine ZhG r _ (fun y hy=>h1 y (Oh _ hy)) (fun x c hm=>?_) x c hm;by_cases hk:(k==NameKind.free)=true
   . rw [if_pos hk] at hm;rcases O2.mp hm with e|hm
     . cases e;have hk':k=.free:=by
         cases k<;>first|rfl|(exact absurd hk (by decide))
       obtain ⟨c,e⟩:=h1 (n,k) Oi hk';rw [e];rfl
     . exact h2 x c hm
   . rw [if_neg hk] at hm;exact h2 x c hm
theorem ZfD:∀ (l:List (Str×NameKind)) (cs:List (Str×Addr)) (p:Str×Addr),p∈cs->p∈ZdH env l cs
 | [],_,_,h=>h
 | (n,k)::r,cs,p,h=>by
   refine ZfD r _ p ?_;by_cases hk:(k==NameKind.free)=true
   . rw [if_pos hk];exact Oh _ h
   . rw [if_neg hk];exact h
theorem ZhH:∀ (l:List (Str×NameKind)) (cs:List (Str×Addr)) (y:Str×NameKind),y∈l->y.2=.free->∃ c,(y.1,c)∈ZdH env l cs
 | (n,k)::r,cs,y,h,hf=>by
   rcases O2.mp h with e|h
   . subst e;refine ⟨(env.cells.lookup n).getD 0,ZfD r _ _ ?_⟩;have hk:(k==NameKind.free)=true:=by
       have:k=.free:=hf;subst this;rfl
     rw [if_pos hk];exact Oi
   . exact ZhH r _ y h hf
theorem ZcA:∀ {l:List (Str×α)}{x:Str}{c:α},(x,c)∈l->∃ c',l.lookup x=some c'/\(x,c')∈l
 | (n,d)::r,x,c,h=>by
   cases hx:x==n with
   | true =>
     have e:x=n:=by simpa using hx
     subst e;exact ⟨d,by simp [OF],Oi⟩
   | false =>
     rcases O2.mp h with e|h
     . cases e;simp at hx
     . obtain ⟨c',h1,h2⟩:=ZcA h;exact ⟨c',by simp only [OF,hx];exact h1,Oh _ h2⟩
theorem Zfj(h:∀ y∈scope.names,y.2=.free->∃ c,env.cells.lookup y.1=some c):closureFor scope env=pure (ZdH env scope.names []):=by
 have all:∀ (l:List (Str×NameKind)) (cs:List (Str×Addr)),(∀ y∈l,y.2=.free->∃ c,env.cells.lookup y.1=some c) ->
     (forIn l cs fun (x:Str×NameKind) r=>match x with|(name,kind)=>if (kind==NameKind.free)=true then (do let a <- cellOf env name;pure (ForInStep.yield ((name,a)::r))) else pure (ForInStep.yield r):Sem (List (Str×Addr)))=pure (ZdH env l cs):=by
   intro l;induction l with
   | nil=>intro cs _;rfl
   | cons y r ih =>
     intro cs hl;obtain ⟨n,k⟩:=y;rw [List.forIn_cons];have hr:=fun cs=>ih cs fun y hy=>hl y (Oh _ hy);by_cases hk:(k==NameKind.free)=true
     . have hk':k=.free:=by
         cases k<;>first|rfl|(exact absurd hk (by decide))
       obtain ⟨c,e⟩:=hl (n,k) Oi hk';have ec:cellOf env n=pure c:=by unfold cellOf;rw [e]
       simp only [hk,if_true,ec];show (forIn r ((n,c)::cs) _:Sem _)=_;rw [hr];show _=pure (ZdH env r (if (k==NameKind.free)=true then (n,(env.cells.lookup n).getD 0)::cs else cs));rw [if_pos hk,e];rfl
     . simp only [hk];show (forIn r cs _:Sem _)=_;rw [hr];show _=pure (ZdH env r (if (k==NameKind.free)=true then (n,(env.cells.lookup n).getD 0)::cs else cs));rw [if_neg hk]
 unfold closureFor;have z:=all scope.names [] h;dsimp only at z ⊢;rw [z];rfl
end L2
end
section
set_option tactic.hygienic false
namespace L2
open PySem PySem.Spec PyProof.Rows
theorem ZhD(I:Nat->Shared->Prop)
   (turn:∀ n s,I n s->wpAny (model prog w) A (pyNext it) (fun r s₁=>match r with
     | none=>R (.ok .next) s₁
     | some v=>wpAny (model prog w) A (letOwnedTupleGo target it v) (fun _ s₁'=>wpAny (model prog w) A (assign target env v) (fun _ s₂ =>
         wpAny (model prog w) A (forIn ifs true fun c r=>if r=true then do let ok <- isTrue c env (eval c env);pure (ForInStep.yield ok) else pure (ForInStep.yield r)) (fun ok s₃ =>
           if ok=true then wpAny (model prog w) A (eval elt env) (fun x s₄ =>
             wpAny (model prog w) A (call (.builtin "list.append") [acc,x]) (fun _ s₅=>∃ m,m<n/\I m s₅) (notedBy (model prog w) A env fun e s'=>R (.error e) s') s₄) (notedBy (model prog w) A env fun e s'=>R (.error e) s') s₃
           else ∃ m,m<n/\I m s₃) (notedBy (model prog w) A env fun e s'=>R (.error e) s') s₂) (notedBy (model prog w) A env fun e s'=>R (.error e) s') s₁') (notedBy (model prog w) A env fun e s'=>R (.error e) s') s₁) (notedBy (model prog w) A env fun e s'=>R (.error e) s') s)
   (n:Nat) (h:I n s) :
   codeAny (model prog w) A (.compLoop (.ListComp elt [⟨target,iter,ifs,0⟩] scope pos) 0 it acc env) R s:=by
 refine codeAny_loop rfl I (fun n s hI=>?_) n h;show wpAny _ A ((compTurn (.ListComp elt [⟨target,iter,ifs,0⟩] scope pos) 0 it acc env).onRaise (fun x=>do noteFrame x env;theTreesLotGoes x)) _ _ s;refine wpAny_noted ?_;rw [compTurn_list];refine wpAny_bind (wpAny_standAt (wpAny_bind (wpAny_mono (turn n s hI) (fun r s₁ h₁=>?_) fun _ _ h'=>h')));cases r with
 | none=>exact wpAny_pure h₁
 | some v =>
   refine wpAny_bind (wpAny_mono h₁ (fun _ s₁' h₁'=>?_) fun _ _ h'=>h');refine wpAny_bind (wpAny_mono h₁' (fun _ s₂ h₂=>wpAny_bind (wpAny_mono h₂ (fun ok s₃ h₃=>?_) fun _ _ h'=>h')) fun _ _ h'=>h');cases ok with
   | false=>exact wpAny_pure ⟨rfl,h₃⟩
   | true =>
     exact wpAny_bind (wpAny_bind (wpAny_mono h₃ (fun x s₄ h₄=>wpAny_bind (wpAny_mono h₄ (fun _ s₅ h₅=>wpAny_pure (wpAny_pure ⟨rfl,h₅⟩)) fun _ _ h'=>h')) fun _ _ h'=>h'))
structure CompSc(NC N:List Str)(js:List (Option Nat))(sc scope:Scope):Prop where
 kind:scope.kind=.function
 dkind:sc.kind=.function
 nocell:∀ y∈scope.names,y.2≠.cell
 locs:∀ y∈scope.names,y.2=.local->scope.names.lookup y.1=some .local
 free:∀ y∈scope.names,y.2=.free->sc.names.lookup y.1=some .cell
 nd:NC.Nodup
 len:js.length=NC.length
 jok:((NC.zip js).all fun p=>p.2.all fun j=>decide (N[j]? = some p.1)&&decide (scope.names.lookup p.1=some .free))=true
theorem CompSc.at{NC N:List Str}{js:List (Option Nat)}(S_:CompSc NC N js sc scope){i j:Nat}{x:Str}(h1:NC[i]? = some x)(h2:js[i]? = some (some j)):N[j]? = some x/\scope.names.lookup x=some .free:=by
 have h:=S_.jok;rw [OC] at h;have hm:(x,some j)∈NC.zip js:=by
   refine O1 (i:=i) ?_;rw [List.getElem?_zip_eq_some];exact ⟨h1,h2⟩
 have q:=h _ hm;simp only [Option.all_some,Oa,decide_eq_true_eq] at q;exact q
noncomputable def capt(js:List (Option Nat))(Z:St):St:=js.map fun o=>o.bind fun j=>(Z[j]?).join
noncomputable def Zw(X:Cx)(NC:List Str)(scope:Scope)(C:Addr)(s3:Shared)(H3:Hp)(fp:List Addr):Cx :=
 {X with N:=NC,s₀:=s3,H₀:=H3,env:=compEnvC scope (ZdH X.env scope.names []) C X.env,outer:=X.stack,stack:=X.stack,ex:=fp,fn:=fun _=>false,calm:=true,pn:=[],xe:=fun _ _=>False}
noncomputable def ZiY(k:Nat)(g:TG):Prop:=∀ x Z H Q,g x Z H Q->g x Z H fun σ2 H2=>Q σ2 H2/\σ2.length=Z.length/\∀ j,k<=j->σ2[j]? = Z[j]?
noncomputable def Zh2(k:Nat)(g:TGs):Prop:=∀ x Z H Q,g x Z H Q->g x Z H fun σ2 H2=>Q σ2 H2/\σ2.length=Z.length/\∀ j,k<=j->σ2[j]? = Z[j]?
theorem Znn(h:i<k):ZiY k (ZbP i):=fun x Z H Q q=>⟨q,List.length_set,fun j hj=>by rw [Oc (by lia)]⟩
theorem Zi9:Zh2 k ZoJ:=fun x Z H Q q=>⟨q.1,q.2,rfl,fun _ _=>rfl⟩
theorem Zen(h:i<k)(hu:Zh2 k u):Zh2 k (Zhq (ZbP i) u):=by
 rintro xs Z H Q ⟨v,r,e,q⟩;refine ⟨v,r,e,?_⟩;have z:=hu r (Z.set i (some v)) H Q q;have z2:=hu r (Z.set i (some v)) H (fun σ2 H2=>Q σ2 H2/\σ2.length=(Z.set i (some v)).length/\∀ j,k<=j->σ2[j]? = (Z.set i (some v))[j]?) z;show u r (Z.set i (some v)) H _;have e1:(Z.set i (some v)).length=Z.length:=List.length_set;have e2:∀ j,k<=j->(Z.set i (some v))[j]? = Z[j]? := fun j hj=>Oc (by lia);have e3:(fun σ2 H2=>Q σ2 H2/\σ2.length=Z.length/\∀ j,k<=j->σ2[j]? = Z[j]?)=(fun σ2 H2=>Q σ2 H2/\σ2.length=(Z.set i (some v)).length/\∀ j,k<=j->σ2[j]? = (Z.set i (some v))[j]?):=by
   funext σ2 H2;rw [e1];refine propext ⟨fun ⟨a,b,c⟩=>⟨a,b,fun j hj=>(c j hj).trans (e2 j hj).symm⟩,fun ⟨a,b,c⟩=>⟨a,b,fun j hj=>(c j hj).trans (e2 j hj)⟩⟩
 rw [e3];exact z
theorem Zk7{K:PySem.W.Frag}(hu:Zh2 k u):ZiY k (ZoI K n u):=by
 rintro x Z H Q ⟨a,xs,e,h1,h2,q⟩;exact ⟨a,xs,e,h1,h2,hu xs Z H Q q⟩
noncomputable def PIf(X:Cx)(ifs:List Expr)(t:TT):Prop :=
 ∀ (pins:List (Addr×Obj)) (s:Shared) (Z:St) (H:Hp) (Q:Bool->Hp->Prop),Inv X pins Z H s->t Z H Q ->
   wpAny (model X.prog X.w) X.A (forIn ifs true fun c r=>if r=true then do let ok <- isTrue c X.env (eval c X.env);pure (ForInStep.yield ok) else pure (ForInStep.yield r)) (TP X pins Z Q) X.xe s
noncomputable def Zua:TT:=fun _ H Q=>Q true H
theorem ZnU{X:Cx}:PIf X [] Zua:=fun _ _ _ H _ I h=>wpAny_tests_nil ⟨H,I,h⟩
theorem ZnT{X:Cx}{c:Expr}{t:TT}(hc:PT X c t):PIf X [c] t:=fun pins s Z H Q I h=>wpAny_tests_one (hc pins s Z H Q I h)
noncomputable def Zk9(wi:TI)(js:List (Option Nat))(g:TG)(tc:TT)(te:TE):TE:=fun Z H Q=>wi Z H fun J H1=>∀ D,H1 D=none->∃ W:Nat->Nat->List V->Hp->Prop,(∃ m,W 0 m [] (upd H1 D (.lst []))) /\
 ∀ i m ys H,W i m ys H->H D=some (.lst ys)->(J.stop i H/\Q (.ref D) H) \/
   (J.go i H/\ys.length<sizeLine/\∀ x H',J.yld i H x H'->g x (capt js Z) H' fun σ2 H2=>tc σ2 H2 fun b H3 =>
     if b=true then te σ2 H3 fun y H4=>H4 D=some (.lst ys)/\∃ m',m'<m/\W (i+1) m' (ys++[y]) (upd H4 D (.lst (ys++[y])))
     else H3 D=some (.lst ys)/\∃ m',m'<m/\W (i+1) m' ys H3)
section
variable {X:Cx}{pins:List (Addr×Obj)}{Z:St}{H:Hp}{s:Shared}
theorem Zmn{NC:List Str}{js:List (Option Nat)}{sc scope:Scope}{C:Addr}{h4:Heap}{tk:Nat}{fp:List Addr}{m:Str->Option Value}(S_:CompSc NC X.N js sc scope)(hsc:X.env.scope=sc)(hc:X.calm=true)
   (I:Inv X pins Z H s) (f:∀ b∈fp,Zck X pins H b) (fo:∀ b∈fp,∃ o,s.heap.get? b=some o) (hC:C=s.heap.objs.size) (hns:h4.Ns C m) (hk:∀ b o,s.heap.get? b=some o->h4.get? b=some o) :
   Inv (Zw X NC scope C s H fp) [] (capt js Z) H {s with heap:=h4,toks:=tk}:=by
 have hcells:∀ y∈scope.names,y.2=.free->∃ c,X.env.cells.lookup y.1=some c:=fun y hy hf=>I.ok.has y.1 (.inl (show X.env.scope.names.lookup y.1=some .cell by rw [hsc];exact S_.free y hy hf));have cl1:∀ x c,(ZdH X.env scope.names []).lookup x=some c->X.env.cells.lookup x=some c:=fun x c e=>ZhG scope.names [] hcells (fun _ _ z=>by cases z) x c (PySem.mem_of_lookup e);have cl2:∀ y∈scope.names,y.2=.free->∃ c,(ZdH X.env scope.names []).lookup y.1=some c:=fun y hy hf=>by
   obtain ⟨c,hm⟩:=ZhH (env:=X.env) scope.names [] y hy hf;obtain ⟨c',e,_⟩:=ZcA hm;exact ⟨c',e⟩
 have kinds:∀ x,(Zw X NC scope C s H fp).env.kindOf x=(scope.names.lookup x).map fun k=>if (k==NameKind.free&&X.env.scope.kind==.function&&X.env.kindOf x==some .cell) then NameKind.cell else k:=fun x=>ZbV scope.names x;have fcell:∀ x,scope.names.lookup x=some .free->(Zw X NC scope C s H fp).env.kindOf x=some .cell:=fun x e=>by
   rw [kinds,e];have h1:X.env.kindOf x=some .cell:=show X.env.scope.names.lookup x=some .cell by rw [hsc];exact S_.free (x,.free) (PySem.mem_of_lookup e) rfl
   have h2:X.env.scope.kind=.function:=I.ok.kind;simp only [Option.map_some,h1,h2];rfl
 have flt:∀ b∈fp,b<s.heap.objs.size:=fun b hb=>let ⟨o,e⟩:=fo b hb;Heap.lt_size e;refine ⟨⟨I.ok.mod,S_.kind,I.ok.glob,I.ok.blt,Nat.le_of_eq hC.symm,fun x y c h1 h2=>I.ok.inj x y c (cl1 x c h1) (cl1 y c h2),fun x hx=>?_,fun x c hf _=>absurd (show false=true from hf) Ow,fun _=>I.ok.hd hc,I.ok.frames,.inl rfl,fun b hb=>⟨?_,fun x c e=>(f b hb).2.2.2.2.1 x c (cl1 x c e)⟩,
     I.bs,OE I.ok.bsz I.sz,fun b o e hb=>?_,fun b hb hm=>?_,I.stack,I.stkFree⟩,
   rfl,I.bare,Un.kept hk,⟨m,hns,fun i x v h1 h2 h3=>?_⟩,fun x c e=>?_,?_,fun x c e=>I.freeC x c (cl1 x c e),fun p hp=>absurd (show p∈([]:List (Addr×Obj)) from hp) (by simp),I.hok.kept hk,?_⟩
 . rw [kinds] at hx;cases e:scope.names.lookup x with
   | none=>rw [e] at hx;rcases hx with hx|hx<;>cases hx
   | some k =>
     rw [e] at hx;have hm:=PySem.mem_of_lookup e;have hk:k=.free:=by
       by_cases hf:(k==NameKind.free)=true
       . cases k<;>first|rfl|(exact absurd hf (by decide))
       . have hf':(k==NameKind.free)=false:=Bool.eq_false_iff.mpr hf;simp only [Option.map_some,hf',Bool.false_and,OG,if_false] at hx;rcases hx with hx|hx
         . exact absurd (Option.some.inj hx) (S_.nocell _ hm)
         . exact Option.some.inj hx
     exact cl2 (x,k) hm hk
 . show b≠C;rw [hC];exact Ou (flt b hb)
 . obtain ⟨_,_,_,f3,_⟩:=f b hb;rcases f3 with z|z
   . exact I.ok.noex b o e z
   . exact absurd (Ot (Heap.lt_size e) (OE I.ok.bsz z)) (Nat.lt_irrefl _)
 . obtain ⟨_,f1,f2,_⟩:=f b hb;exact (O2.mp (I.stkSub b hm)).elim f1 f2
 . have hj:∃ j,js[i]? = some (some j)/\Z[j]? = some (some v):=by
     unfold capt at h2;rw [On] at h2;cases e:js[i]? with
     | none=>rw [e] at h2;cases h2
     | some o =>
       rw [e] at h2;have h2':(o.bind fun j=>(Z[j]?).join)=some v:=Option.some.inj h2;cases o with
       | none=>cases h2'
       | some j =>
         refine ⟨j,rfl,?_⟩;have h3':(Z[j]?).join=some v:=h2';cases q:Z[j]? with
         | none=>rw [q] at h3';cases h3'
         | some r=>rw [q] at h3';rw [show r=some v from h3']
   obtain ⟨j,hj,hσ⟩:=hj;obtain ⟨hN,hfr⟩:=S_.at (show NC[i]? = some x from h1) hj;have hcell:X.env.scope.names.lookup x=some .cell:=by rw [hsc];exact S_.free (x,.free) (PySem.mem_of_lookup hfr) rfl
   obtain ⟨m0,_,hl⟩:=I.loc;obtain ⟨u,r,l⟩:=hl j x v hN hσ (.inr (.inl hcell));refine ⟨u,r,?_⟩;rcases l with ⟨k,_⟩|⟨_,c,e,z⟩
   . rw [show X.env.kindOf x=some .cell from hcell] at k;cases k
   . obtain ⟨c',e'⟩:=cl2 (x,.free) (PySem.mem_of_lookup hfr) rfl;have ec:=cl1 x c' e';rw [e] at ec;cases ec;obtain ⟨o,ho,hd⟩:=z;exact .inr ⟨.inl (fcell x hfr),c,e',o,hk _ _ ho,hd⟩
 . obtain ⟨v,o,ho,hd⟩:=I.cell x c (cl1 x c e);exact ⟨v,o,hk _ _ ho,hd⟩
 . show H C=none;rw [hC];exact I.hok.fresh (Oq _)
 . unfold capt;rw [List.length_map];exact S_.len
end
section
variable {X:Cx}{elt tg iter:Expr}{ifs:List Expr}{scope sc:Scope}{pos:Pos}{NC:List Str}{js:List (Option Nat)}{k:Nat}{wi:TI}{g:TG}{tc:TT}{te:TE}
theorem Inv.comp_out{pins:List (Addr×Obj)}{Z σ':St}{H3 H':Hp}{s3 s1:Shared}{C:Addr}{fp:List Addr}{h'':Heap}(I3:Inv X pins Z H3 s3)(f:∀ b∈fp,Zck X pins H3 b)(hC:C=s3.heap.objs.size)
   (I':Inv (Zw X NC scope C s3 H3 fp) [] σ' H' s1) (hs:Heap.SameBut C s1.heap h''):Inv X pins Z H' {s1 with heap:=h''}:=by
 have ne:∀ b o,s3.heap.get? b=some o->b≠C:=fun b o e=>by rw [hC];exact Ou (Heap.lt_size e)
 have u:=I'.base;refine I3.call' (s':={s1 with heap:=h''}) (ch:=fp) I'.os ⟨fun b o e n hb hx=>(hs.2 b (ne b o e)).trans (u.keep b o e n hb hx),fun b o e n hb hx=>?_,u.free,fun b o e hx=>?_,u.tups,u.frzs,u.tbls⟩ ?_ I'.bare fun b hb=>?_
 . obtain ⟨sl,q⟩:=u.slot b o e n hb hx;exact ⟨sl,(hs.2 b (ne b o e)).trans q⟩
 . obtain ⟨o',q⟩:=u.there b o e hx;exact ⟨o',(hs.2 b (ne b o e)).trans q⟩
 . have hfree:H' C=none:=I'.free;intro b ob e;refine (I'.hok b ob e).stay (fun c w' hc q=>(hs.2 c ?_).trans q) (fun _ q=>q) fun _ _ q=>q;rintro rfl;rcases hc with rfl|hc
   . rw [hfree] at e;cases e
   . rw [hfree] at hc;cases hc
 . obtain ⟨_,f1,_,f3,f4,f5⟩:=f b hb;exact ⟨f3,f1,f4,f5⟩
theorem ZkP{pins:List (Addr×Obj)}{Z:St}{H3:Hp}{s3 s4:Shared}{C Dd it:Addr}{fp:List Addr}{tn:Nat->Heap->Prop}{J:It}{W:Nat->Nat->List V->Hp->Prop}{Q:VK}{m0:Nat}{post:Result->Shared->Prop}
   (hb:∀ (C:Addr) (s3:Shared) (H3:Hp) (fp:List Addr),PG (Zw X NC scope C s3 H3 fp) tg g/\PIf (Zw X NC scope C s3 H3 fp) ifs tc/\PE (Zw X NC scope C s3 H3 fp) elt te)
   (hk:ZiY k g) (hjk:∀ j,j<k->js[j]? = some none) (hC:C=s3.heap.objs.size) (f3:∀ b∈fp,Zck X pins H3 b) (fpl:∀ b∈fp,∃ o,s3.heap.get? b=some o) (I4:Inv (Zw X NC scope C s3 H3 fp) [] (capt js Z) H3 s4) (T:Turn X.prog X.w X.K tg J fp it tn) (st4:tn 0 s4.heap) (hD0:H3 Dd=some (.lst [])) (w0:W 0 m0 [] H3)
   (turn:∀ i m ys H,W i m ys H->H Dd=some (.lst ys)->(J.stop i H/\Q (.ref Dd) H)\/(J.go i H/\ys.length<sizeLine/\∀ x H',J.yld i H x H'->g x (capt js Z) H' fun σ2 H2=>tc σ2 H2 fun b H3 =>
     if b=true then te σ2 H3 fun y H4=>H4 Dd=some (.lst ys)/\∃ m',m'<m/\W (i+1) m' (ys++[y]) (upd H4 Dd (.lst (ys++[y]))) else H3 Dd=some (.lst ys)/\∃ m',m'<m/\W (i+1) m' ys H3))
   (stp:∀ s6 H5,Inv (Zw X NC scope C s3 H3 fp) [] (capt js Z) H5 s6->Q (.ref Dd) H5->post (.ok .next) s6) :
   codeAny (model X.prog X.w) X.A (.compLoop (.ListComp elt [⟨tg,iter,ifs,0⟩] scope pos) 0 (.ref it) (.ref Dd) (compEnvC scope (ZdH X.env scope.names []) C X.env)) post s4:=by
 have stat:∀ {H':Hp},(∀ b∈fp,H' b=none)->∀ b∈fp,Zck (Zw X NC scope C s3 H3 fp) [] H' b:=fun hn b hb =>
   ⟨hn b hb,(by rw [hC];exact Ou (let ⟨o,e⟩:=fpl b hb;Heap.lt_size e)),fun hm=>I4.ok.exfs b hb hm,.inl hb,fun x c e=>(I4.ok.exf b hb).2 x c e,fun p hp=>absurd (show p∈([]:List (Addr×Obj)) from hp) (by simp)⟩
 refine ZhD (fun n s'=>∃ i ys H',Inv (Zw X NC scope C s3 H3 fp) [] (capt js Z) H' s'/\tn i s'.heap/\(∀ b∈fp,H' b=none)/\H' Dd=some (.lst ys)/\W i n ys H') ?_ m0
   ⟨0,[],_,I4,st4,fun b hb=>(f3 b hb).1,hD0,w0⟩
 rintro n s5 ⟨i,ys,H5,I5,st5,fr5,hD5,w5⟩;rcases turn i n ys H5 w5 hD5 with ⟨stop,qn⟩|⟨go,hlen,step⟩
 . refine wpAny_mono (T.done (Zw X NC scope C s3 H3 fp) rfl rfl rfl rfl i [] s5 (capt js Z) H5 (fun _ _=>False) I5 (stat fr5) st5 stop) (fun r s6 ⟨hr,I6⟩=>?_) fun _ _ z=>z.elim;subst hr;exact stp s6 H5 I6 qn
 . refine wpAny_mono (T.item (Zw X NC scope C s3 H3 fp) rfl rfl rfl rfl i [] s5 (capt js Z) H5 (fun _ _=>False) I5 (stat fr5) st5 go) (fun r s6 ⟨u,hr,h6⟩=>?_) fun _ _ z=>z.elim;subst hr;refine wpAny_mono h6 (fun _ s7 ⟨x,H7,I7,r7,y7,st7,fr7⟩=>?_) fun _ _ z=>z.elim;have I7':=I7.pinned (stat fr7) (T.obj _ _ st7);obtain ⟨pg,pif,pe⟩:=hb C s3 H3 fp;refine wpAny_mono (pg _ s7 (capt js Z) H7 x u _ I7' r7 (hk _ _ _ _ (step x H7 y7))) (fun _ s8 ⟨σ8,H8,I8,q8,l8,k8⟩=>?_) fun _ _ z=>z.elim;have back:∀ {H9:Hp}{s9:Shared},Inv (Zw X NC scope C s3 H3 fp) ([]++Zew fp s7.heap) σ8 H9 s9 ->
       Inv (Zw X NC scope C s3 H3 fp) [] (capt js Z) H9 s9/\tn (i+1) s9.heap/\∀ b∈fp,H9 b=none:=fun {H9 s9} I9=>by
     refine ⟨(I9.unpinned).weak l8.symm fun j v e=>?_,T.keep _ _ _ st7 fun b hb o e=>(I9.pin (b,o) (Ov _ (Ov _ (ZbH hb e)))).1,fun b hb=>?_⟩
     . by_cases hj:j<k
       . unfold capt at e;rw [On,hjk j hj] at e;cases e
       . rw [k8 j (Nat.le_of_not_lt hj)];exact e
     . obtain ⟨o,e,d⟩:=T.obj _ _ st7 b hb;exact (I9.pin (b,o) (Ov _ (Ov _ (ZbH hb e)))).2.1
   refine wpAny_mono (pif _ s8 σ8 H8 _ I8 q8) (fun ok s9 ⟨H9,I9,q9⟩=>?_) fun _ _ z=>z.elim;cases ok with
   | false =>
     rw [if_neg Ow] at q9 ⊢;obtain ⟨hD9,m',hm,w9⟩:=q9;obtain ⟨b1,b2,b3⟩:=back I9;exact ⟨m',hm,i+1,ys,H9,b1,b2,b3,hD9,w9⟩
   | true =>
     rw [if_pos rfl] at q9 ⊢;refine wpAny_mono (pe _ s9 σ8 H9 _ I9 q9) (fun y s10 ⟨v,H10,I10,r10,hD10,m',hm,w10⟩=>?_) fun _ _ z=>z.elim;refine wpAny_mono (Zfz (X:=Zw X NC scope C s3 H3 fp) _ s10 σ8 H10 (.ref Dd) [v] (.ref Dd) [y]
       (fun _ H11=>H11=upd H10 Dd (.lst (ys++[v]))) I10 rfl (.cons r10 .nil) ⟨_,ys,v,rfl,rfl,hD10,hlen,rfl⟩) (fun _ s11 ⟨_,H11,I11,_,e11⟩=>?_) fun _ _ z=>z.elim
     subst e11;obtain ⟨b1,b2,b3⟩:=back I11;exact ⟨m',hm,i+1,ys++[v],_,b1,b2,b3,Zd,w10⟩
theorem ZhB{U:Option (Value->Sem Unit)}{Q0:Value->Shared->Prop}{Q:VK}{pins:List (Addr×Obj)}{Z:St}{H:Hp}{s:Shared}(S_:CompSc NC X.N js sc scope)(hsc:X.env.scope=sc)(hc:X.calm=true)(hi:PI X tg iter wi)
   (hb:∀ (C:Addr) (s3:Shared) (H3:Hp) (fp:List Addr),PG (Zw X NC scope C s3 H3 fp) tg g/\PIf (Zw X NC scope C s3 H3 fp) ifs tc/\PE (Zw X NC scope C s3 H3 fp) elt te)
   (hk:ZiY k g) (hjk:∀ j,j<k->js[j]? = some none) (hs:∀ x,foldedSetIterable iter X.env x=pure x) (I:Inv X pins Z H s) (h:Zk9 wi js g tc te Z H Q)
   (stp:∀ C Dd (s3 s6:Shared) H3 H5 fp,C=s3.heap.objs.size->Inv X pins Z H3 s3->(∀ b∈fp,Zck X pins H3 b)->Inv (Zw X NC scope C s3 H3 fp) [] (capt js Z) H5 s6->Q (.ref Dd) H5->compPost (model X.prog X.w) X.A X.xe U Q0 (.ref Dd) C (.ok .next) s6) :
   wpAny (model X.prog X.w) X.A (comprehension (.ListComp elt [⟨tg,iter,ifs,0⟩] scope pos) scope X.env posn (newList []) false (eval iter X.env) U) Q0 X.xe s:=by
 have hcells:∀ y∈scope.names,y.2=.free->∃ c,X.env.cells.lookup y.1=some c:=fun y hy hf=>I.ok.has y.1 (.inl (show X.env.scope.names.lookup y.1=some .cell by rw [hsc];exact S_.free y hy hf));refine wpAny_comprehension_free rfl hs (Zfj hcells) S_.kind S_.locs (thn (hi pins s Z H _ I h) fun xv s1 h1=>thn h1 fun itv s2 h2=>?_);obtain ⟨it,fp,tn,J,H2,e,I2,T,st2,f2,rest⟩:=h2;subst e;have hD:H2 s2.heap.objs.size=none:=I2.hok.fresh (Oq _);obtain ⟨W,⟨m0,w0⟩,turn⟩:=rest s2.heap.objs.size hD;refine wpAny_newObj_type (wpAny_newFunctionEnv S_.nocell (by intro y hy;simp at hy) (fun h4 hns hsb=>?_) S_.kind);have I3:Inv X pins Z (upd H2 s2.heap.objs.size (.lst [])) {s2 with heap:=s2.heap.push {cls:=.type "list",dict:=none,data:=.seq ([]:List Value).toArray}}:=I2.lnew (t':=s2.toks) (ys:=[]) (its:=[]) .nil (Nat.zero_le _);dsimp only at hns hsb ⊢;generalize hs3:({s2 with heap:=s2.heap.push {cls:=.type "list",dict:=none,data:=.seq ([]:List Value).toArray}}:Shared)=s3 at I3;have eh:s2.heap.push {cls:=.type "list",dict:=none,data:=.seq ([]:List Value).toArray}=s3.heap:=by rw [<- hs3]
 have eD:s2.heap.objs.size<s3.heap.objs.size:=by rw [<- eh,Heap.size_push];exact OH _
 rw [eh] at hns hsb;have keep:∀ b o,s3.heap.get? b=some o->h4.get? b=some o:=fun b o e=>(hsb.2 b (Ou (Heap.lt_size e))).trans (Od _ e);have fpl:∀ b∈fp,∃ o,s3.heap.get? b=some o:=fun b hb=>by
   obtain ⟨o,e,_⟩:=T.obj 0 _ st2 b hb;exact ⟨o,by rw [<- eh];exact Od _ e⟩
 have neD:∀ b∈fp,b≠s2.heap.objs.size:=fun b hb=>by
   obtain ⟨o,e,_⟩:=T.obj 0 _ st2 b hb;exact Ou (Heap.lt_size e)
 have f3:∀ b∈fp,Zck X pins (upd H2 s2.heap.objs.size (.lst [])) b:=fun b hb=>⟨by rw [Ze (neD b hb)];exact (f2 b hb).1,(f2 b hb).2⟩
 have I4:=Zmn (tk:=s2.toks+([]:List (Str×Value)).length) S_ hsc hc I3 f3 fpl rfl hns keep;have st4:tn 0 h4:=T.keep 0 _ _ st2 fun b hb o e=>keep b o (by rw [<- eh];exact Od _ e);have eC:(s2.heap.push {cls:=.type "list",dict:=none,data:=.seq ([]:List Value).toArray}).objs.size=s3.heap.objs.size:=by rw [eh]
 have loop:∀ s4:Shared,s4={s3 with heap:=h4,toks:=s2.toks+([]:List (Str×Value)).length} ->
     codeAny (model X.prog X.w) X.A (.compLoop (.ListComp elt [⟨tg,iter,ifs,0⟩] scope pos) 0 (.ref it) (.ref s2.heap.objs.size) (compEnvC scope (ZdH X.env scope.names []) s3.heap.objs.size X.env))
       (compPost (model X.prog X.w) X.A X.xe U Q0 (.ref s2.heap.objs.size) s3.heap.objs.size) s4:=by
   rintro s4 rfl;exact ZkP hb hk hjk rfl f3 fpl I4 T st4 Zd w0 turn fun s6 H5 I6 qn=>stp _ _ s3 s6 _ H5 fp rfl I3 f3 I6 qn
 have e4:({s2 with heap:=h4,toks:=s2.toks+([]:List (Str×Value)).length}:Shared)={s3 with heap:=h4,toks:=s2.toks+([]:List (Str×Value)).length}:=by rw [<- hs3]
 rw [eC];exact codeAny_compStart_list (loop _ e4) (T.self X.A 0 _ _ _ st4 (loop _ e4))
theorem Zn1(S_:CompSc NC X.N js sc scope)(hsc:X.env.scope=sc)(hc:X.calm=true)(hi:PI X tg iter wi)
   (hb:∀ (C:Addr) (s3:Shared) (H3:Hp) (fp:List Addr),PG (Zw X NC scope C s3 H3 fp) tg g/\PIf (Zw X NC scope C s3 H3 fp) ifs tc/\PE (Zw X NC scope C s3 H3 fp) elt te)
   (hk:ZiY k g) (hjk:∀ j,j<k->js[j]? = some none) (hs:∀ x,foldedSetIterable iter X.env x=pure x:=by intro _;rfl) :
   PE X (.ListComp elt [⟨tg,iter,ifs,0⟩] scope pos) (Zk9 wi js g tc te):=fun pins s Z H Q I h=>ZhB S_ hsc hc hi hb hk hjk hs I h fun C Dd s3 s6 H3 H5 fp hC I3 f3 I6 qn=>by
     obtain ⟨m,hm,_⟩:=I6.loc;exact ⟨m,hm,fun h' hs'=>⟨.ref Dd,H5,I3.comp_out f3 hC I6 hs',rfl,qn⟩⟩
end
end L2
end
section
namespace L2
open PySem PySem.Spec PyProof.Rows
section
variable {X:Cx}
noncomputable def TyN(K:PySem.W.Frag)(x:V)(H:Hp)(t:String):Prop:=match x with
 | .int _=>t = "int"
 | .str _=>t = "str"
 | .bl _=>t = "bool"
 | .non=>t = "NoneType"
 | .ref p=>(t = "list" /\ ∃ xs,SqL K H p xs)\/(t = "tuple" /\ ∃ xs,SqT K H p xs)
 | _=>False
theorem ZmO:Zaa X (.builtin "isinstance") (fun xs H Q=>∃ x t T b,xs=[x,.ty T]/\TyN X.K x H t/\PySem.W.kitOne X.K (.type t) (.type T)=some b/\Q (.bl b) H):=by
 intro pins s Z H xs us Q I r h;obtain ⟨x,t,T,b,rfl,ty,e,q⟩:=h;obtain ⟨u,w',rfl,rx,rT⟩:=vals2 r;obtain rfl:w'=Value.type T:=rT;have fin:∀ tk,EP X pins Z Q (.bool b) {s with toks:=tk}:=fun tk=>⟨.bl b,H,I.tok tk,rfl,q⟩
 cases x with
 | int i =>
   obtain ⟨tk,rfl⟩:=rx;obtain rfl:t = "int" := ty;exact PySem.W.kia_one PySem.W.kitx_int I.kIn trivial e (by intro z;cases z) fin
 | str i =>
   obtain ⟨tk,rfl⟩:=rx;obtain rfl:t = "str" := ty;exact PySem.W.kia_one PySem.W.kitx_str I.kIn trivial e (by intro z;cases z) fin
 | bl i =>
   obtain rfl:u=Value.bool i:=rx;obtain rfl:t = "bool" := ty;exact PySem.W.kia_one PySem.W.kitx_bool I.kIn trivial e (by intro z;cases z) fin
 | non =>
   obtain rfl:u=Value.none:=rx;obtain rfl:t = "NoneType" := ty;exact PySem.W.kia_one PySem.W.kitx_none I.kIn trivial e (by intro z;cases z) fin
 | ref p =>
   obtain rfl:u=Value.ref p:=rx;rcases ty with ⟨rfl,xs,hx⟩|⟨rfl,xs,hx⟩
   . obtain ⟨its,_,pl,_⟩:=I.list hx;exact PySem.W.kia_one PySem.W.kitx_list I.kIn pl.isList.typeIs e (by intro z;cases z) fin
   . obtain ⟨its,_,pl,_⟩:=I.tuple hx;exact PySem.W.kia_one PySem.W.kitx_tuple I.kIn pl.typeIs e (by intro z;cases z) fin
 | _=>exact (show False from ty).elim
theorem ZkG{K:PySem.W.Frag}(h:PySem.W.kitOne [] (.type t) (.type T)=some b):PySem.W.kitOne K (.type t) (.type T)=some b:=h
noncomputable def ZuA:V->Option Int->Option Int->Hp->VK->Prop:=fun x lo hi H Q=>∃ y,x=.str y/\y.length<=sizeLine/\Q (.str (StrLaws.sliceText y lo hi)) H
theorem Zp7:SlR X ZuA:=by
 intro pins s Z H x v vl vu lo hi sl Q I rx hs pl pu h;obtain ⟨y,rfl,hz,q⟩:=h;obtain ⟨t,rfl⟩:=rx;refine ⟨"str",_,F.slot_str_getitem.lookup,typeIs_str _ _ _,?_⟩;have go:∀ (l u:Option (Int×Tok)),vl=partValue l->vu=partValue u->lo=l.map (·.1)->hi=u.map (·.1)->wpAny (model X.prog X.w) X.A (getItem (.str y t) (.ref sl)) (EP X pins Z Q) X.xe s:=by
   rintro l u rfl rfl rfl rfl;refine wpAny_getItem_str_slice (l:=l) (u:=u) (st:=none) hs rfl ?_;refine post_val_or_str ⟨OE (Txt.slice_le y _ _) hz,fun t' k=>⟨.str _,H,I.tok k,⟨t',rfl⟩,q⟩⟩
 cases pl with
 | none =>
   cases pu with
   | none=>exact go none none rfl rfl rfl rfl
   | int j tj=>exact go none (some (j,tj)) rfl rfl rfl rfl
 | int i ti =>
   cases pu with
   | none=>exact go (some (i,ti)) none rfl rfl rfl rfl
   | int j tj=>exact go (some (i,ti)) (some (j,tj)) rfl rfl rfl rfl
end
end L2
end
section
namespace L2
open PySem PySem.Spec PyProof.Rows
theorem ZO.there(x:ZO P w H h a o):∃ ob,h.get? a=some ob:=by
 cases o with
 | lst xs=>obtain ⟨_,_,_,_,e⟩:=x;exact ⟨_,e⟩
 | tup xs=>obtain ⟨_,_,_,ob,e,_⟩:=x;exact ⟨_,e⟩
 | dK kvs=>obtain ⟨_,_,_,_,o,_,_,e,_⟩:=x;exact ⟨_,e⟩
 | dT kvs=>obtain ⟨_,_,_,_,o,_,_,e,_⟩:=x;exact ⟨_,e⟩
 | set S_ n=>obtain ⟨o,_,_,_,e,_⟩:=x;exact ⟨_,e⟩
 | ins C dx fs=>obtain ⟨_,_,_,e,_⟩:=x;exact ⟨_,e⟩
 | own y=>obtain ⟨_,e⟩:=x;exact ⟨_,e⟩
 | xd fs=>obtain ⟨_,⟨_,_,_,e,_⟩,_⟩:=x;exact ⟨_,e⟩
 | rng lo hi=>obtain ⟨_,_,_,e⟩:=x;exact ⟨_,e⟩
 | frz ob u=>obtain ⟨e,_⟩:=x;exact ⟨_,e⟩
 | tbl ps=>exact ⟨_,(show h.get? a=some _ from x)⟩
 | met f y=>exact ⟨_,(show h.get? a=some _ from x)⟩
 | ext φ=>obtain ⟨_,⟨_,e⟩,_⟩:=x;exact ⟨_,e⟩
noncomputable def Kept(fs:List Addr)(H':Hp)(h h1 B_:Heap):Prop:=∀ b o,h1.get? b=some o->(H' b≠none\/((∃ o',h.get? b=some o')/\b ∉ fs))->B_.get? b=some o
noncomputable def CXF(P:Program)(w:World):CXT:=fun outer H s E e s' =>
 ∃ (a:Addr) (cls a0:Value) (H':Hp) (B_:Heap),e=.ref a/\s'.os=s.os/\AllBare s'.gens/\Un (frs outer) [] H H' s.heap s'.heap/\HOk P w H' s'.heap /\
   Heap.FlyingW B_ outer a cls a0 s'.heap/\Kept (frs outer) H' s.heap s'.heap B_/\H' a=none/\E cls none H'
theorem ZeF(un:Un fs [] H H' h h1)(hok:HOk P w H' h1)(kb:Kept fs H' h h1 B_)(stay:B_.StaysIn h2)(up:h1.UpToSlots h2)
   (hf:∀ b∈fs,∃ o,h1.get? b=some o/\∀ vs,o.data≠.fields vs):Un fs [] H H' h h2/\HOk P w H' h2/\Kept fs H' h h2 B_:=by
 have tr:∀ b u,H' b=some u->∃ o,h1.get? b=some o/\h2.get? b=some o/\B_.get? b=some o:=fun b u e=>by
   obtain ⟨o,q⟩:=(hok b u e).there;have z:=kb b o q (.inl (by rw [e];simp));exact ⟨o,q,stay _ _ z,z⟩
 have old:∀ b o,h.get? b=some o->b ∉ fs->∃ o1,h1.get? b=some o1/\h2.get? b=some o1/\B_.get? b=some o1:=fun b o e hb=>by
   obtain ⟨o1,q⟩:=un.there b o e (by simp);have z:=kb b o1 q (.inr ⟨⟨o,e⟩,hb⟩);exact ⟨o1,q,stay _ _ z,z⟩
 refine ⟨⟨fun b o e n hb _=>?_,fun b o e n hb _=>?_,fun b o e n _=>un.free b o e n (by simp),fun b o e _=>?_,un.tups,un.frzs,un.tbls⟩,fun b u e=>?_,fun b o e hb=>?_⟩
 . obtain ⟨o1,q1,q2,_⟩:=old b o e hb;have z:=un.keep b o e n hb (by simp);rw [q1] at z;cases z;exact q2
 . obtain ⟨sl,z⟩:=un.slot b o e n hb (by simp);obtain ⟨o',z',nf⟩:=hf b hb;rw [z] at z';cases z';obtain ⟨sl',q⟩:=up b _ z nf;exact ⟨sl',q⟩
 . by_cases hb:b∈fs
   . obtain ⟨o',z',nf⟩:=hf b hb;obtain ⟨sl',q⟩:=up b _ z' nf;exact ⟨_,q⟩
   . obtain ⟨o1,_,q2,_⟩:=old b o e hb;exact ⟨_,q2⟩
 . refine (hok b u e).stay (fun c v hc q=>?_) (fun _ q=>q) fun _ _ q=>q;have hc':∃ u',H' c=some u':=by
     rcases hc with rfl|hc
     . exact ⟨u,e⟩
     . exact ⟨_,hc⟩
   obtain ⟨u',e'⟩:=hc';obtain ⟨o,q1,q2,_⟩:=tr c u' e';rw [q] at q1;cases q1;exact q2
 . rcases hb with hb|⟨⟨o',e'⟩,hb⟩
   . cases q:H' b with
     | none=>exact absurd q hb
     | some u =>
       obtain ⟨o1,q1,q2,q3⟩:=tr b u q;rw [e] at q2;cases q2;exact q3
   . obtain ⟨o1,q1,q2,q3⟩:=old b o' e' hb;rw [e] at q2;cases q2;exact q3
noncomputable def Zj8(X:Cx)(E:XK):Prop:=∀ (pins:List (Addr×Obj)) (Z:St) (H:Hp) (s:Shared) (h':Heap) (e:Addr) (cls:Value) (vs:List Value),Inv X pins Z H s->Heap.MadeExcOf s.heap h' e cls vs->E cls none H->X.xe (.ref e) {s with heap:=h'}
section
variable {P:Program}{w:World}{K:PySem.W.Frag}{mg:Str->Option Value}{base:Heap}{N:List Str}{qual:Str}{scope:Scope}{f:Addr}{cd:Value}{A:Around}{outer:List Env}{s0:Shared}{H0:Hp}{E:XK}
theorem Zln:Zj8 (ZiO (CXF P w) P w K mg base N qual scope f cd A outer s0 H0 E) E:=by
 intro pins Z H s h' e cls vs I hx hE;have hfr:(A.deeper (envOfC qual scope s0.heap.objs.size f cd)).frames=some (envOfC qual scope s0.heap.objs.size f cd::outer):=I.ok.frames;have hin:∀ env∈(envOfC qual scope s0.heap.objs.size f cd::outer),∀ b,env.frame=some b->b∈(envOfC qual scope s0.heap.objs.size f cd::outer).filterMap (·.frame):=fun env he b hb=>List.mem_filterMap.mpr ⟨env,he,hb⟩;have hst:s.heap.FunFrames base (envOfC qual scope s0.heap.objs.size f cd::outer):=I.stack;show wpAny (model P w) (A.deeper (envOfC qual scope s0.heap.objs.size f cd)) (leaving (envOfC qual scope s0.heap.objs.size f cd) (.ref e)) _ _ {s with heap:=h'};refine wpAny_leaves_madeW (s:={s with heap:=h'}) (base:=PySem.W.hideAll s.heap (frs (envOfC qual scope s0.heap.objs.size f cd::outer))) hfr rfl (fun b o q=>PySem.W.of_hideAll _ q) (PySem.W.funFrames_hide hst hin) hx fun h'' t x1 x2 x3 x4=>?_;have un:Un (frs outer) [] H0 H s0.heap h':=(I.base:Un (frs outer) [] H0 H s0.heap s.heap).trans (Un.kept hx.keeps);have hok:HOk P w H h':=I.hok.kept hx.keeps;have kb:Kept (frs outer) H s0.heap h' (PySem.W.hideAll s.heap (frs (envOfC qual scope s0.heap.objs.size f cd::outer))):=fun b o e1 hb=>by
   rcases hb with hb|⟨⟨o',e'⟩,hb⟩
   . cases q:H b with
     | none=>exact absurd q hb
     | some u =>
       obtain ⟨o1,q1⟩:=(I.hok b u q).there;have q2:=hx.keeps b o1 q1;rw [e1] at q2;cases q2;exact PySem.W.hideAll_get _ q1 fun hm=>by
         have z:H b=none:=I.stkFree b hm;rw [q] at z;cases z
   . obtain ⟨o1,q1⟩:=(I.base:Un (frs outer) [] H0 H s0.heap s.heap).there b o' e' (show b ∉ ([]:List Addr) from List.not_mem_nil);have q2:=hx.keeps b o1 q1;rw [e1] at q2;cases q2;refine PySem.W.hideAll_get _ q1 fun hm=>?_;have hm':b∈s0.heap.objs.size::frs outer:=I.stkSub b hm;rcases O2.mp hm' with z|z
     . rw [z] at e';exact absurd (Heap.lt_size e') (Nat.lt_irrefl _)
     . exact hb z
 have hfo:∀ b∈frs outer,∃ o,h'.get? b=some o/\∀ vs,o.data≠.fields vs:=fun b hb=>by
   obtain ⟨_,o,q,nf⟩:=I.funs.mem hb;exact ⟨o,hx.keeps _ _ q,nf⟩
 obtain ⟨r1,r2,r3⟩:=ZeF un hok kb x1.1 x4 hfo;refine ⟨e,cls,_,H,_,rfl,I.os,I.bare,r1,r2,x1,r3,?_,hE⟩;cases q:H e with
 | none=>rfl
 | some u =>
   obtain ⟨o1,q1⟩:=(I.hok e u q).there;rw [hx.new] at q1;cases q1
theorem Zn4(h:∀ cls H',E1 cls none H'->E cls none H'):Za5 (CXF P w) (ZiO (CXF P w) P w K mg base N qual scope f cd A outer s0 H0 E) E1:=by
 intro pins Z H s e s' I hx;obtain ⟨a,cls,a0,H',B_,rfl,os,bare,un,hok,fl,kb,ha,hE⟩:=hx;have I':=I.call' (ch:=[]) os un hok bare (fun b z=>absurd z (by simp));have hfr:(A.deeper (envOfC qual scope s0.heap.objs.size f cd)).frames=some (envOfC qual scope s0.heap.objs.size f cd::outer):=I.ok.frames;show wpAny (model P w) (A.deeper (envOfC qual scope s0.heap.objs.size f cd)) (leaving (envOfC qual scope s0.heap.objs.size f cd) (.ref a)) _ _ s';refine wpAny_leaves_onW hfr rfl fl fun h'' x1 x4=>?_;have kb':Kept (frs outer) H' s0.heap s'.heap B_:=fun b o e1 hb=>by
   refine kb b o e1 ?_;rcases hb with hb|⟨⟨o',e'⟩,hb⟩
   . exact .inl hb
   . obtain ⟨o1,q1⟩:=(I.base:Un (frs outer) [] H0 H s0.heap s.heap).there b o' e' (show b ∉ ([]:List Addr) from List.not_mem_nil);refine .inr ⟨⟨o1,q1⟩,fun hm=>?_⟩;have hm':b∈s0.heap.objs.size::frs outer:=I.stkSub b hm;rcases O2.mp hm' with z|z
     . rw [z] at e';exact absurd (Heap.lt_size e') (Nat.lt_irrefl _)
     . exact hb z
 have hfo:∀ b∈frs outer,∃ o,s'.heap.get? b=some o/\∀ vs,o.data≠.fields vs:=fun b hb=>by
   obtain ⟨_,o,q,nf⟩:=I'.funs.mem hb;exact ⟨o,q,nf⟩
 obtain ⟨r1,r2,r3⟩:=ZeF (I'.base:Un (frs outer) [] H0 H' s0.heap s'.heap) hok kb' x1.1 x4 hfo;exact ⟨a,cls,a0,H',B_,rfl,I'.os,bare,r1,r2,x1,r3,ha,h _ _ hE⟩
end
theorem Zkt:Za5 (CXF P w) X E0:=fun _ _ _ _ _ _ _ h=>by
 obtain ⟨_,_,_,_,_,_,_,_,_,_,_,_,_,z⟩:=h;exact z.elim
end L2
end
section
namespace L2
open PySem PySem.Spec PyProof.Rows
structure ExcN(K:PySem.W.Frag)(C2:Addr):Prop where
 ty:PySem.W.typeIn K (.ref C2)=some (.type "type")
 cls:(PySem.W.clsIn K C2).isSome=true
 exc:PySem.W.subIn K (.ref C2) (.type "BaseException")=some true
end L2
end
section
namespace L2
open PySem PySem.Spec PyProof.Rows
noncomputable def Def(P:Program)(w:World)(K:PySem.W.Frag)(mg:Str->Option Value)(base:Heap)(k:Nat)(x:Str)(ps:List Str)(sp:Sp):Prop :=
 ∃ f fd,mg x=some (.ref f)/\PySem.W.keepIn K (.ref f)=true/\Binds K fd ps []/\FnOk P w K mg base (CXF P w) k f fd ps sp
section
variable {X:Cx}{k:Nat}{x:Str}{ps:List Str}{sp:Sp}{E:XK}{e:Expr}{es:List Expr}{t:TA}{p pos:Pos}
noncomputable def Zun(sp:Sp)(E:XK)(t:TA):TE:=fun Z H Q=>t Z H fun vs H1=>sp vs H1 Q E
theorem ZqC(D:Def X.prog X.w X.K X.mg X.base k x ps sp)(hr:Room k X.A)(hg:Gl X x)(hx:Za5 (CXF X.prog X.w) X E)(ha:PA X (e::es) t)
   (hdb:(x==("__debug__" : Str))=false:=by decide) (he:starEach (e::es) X.env=(false,eval e X.env)::starEach es X.env:=by rfl) (hpl:(backTo pos (starEach es X.env)).any (·.1)=false:=by rfl) :
   PE X (.Call (.Name x p) (e::es) [] pos) (Zun sp E t):=by
 obtain ⟨f,fd,h1,h2,h3,h4⟩:=D;intro pins s Z H Q I h;refine Zn2 h4 hr hg h1 h2 h3 .nil hx ha hdb he hpl pins s Z H Q I ?_;have z:t Z H fun vs H1=>sp vs H1 Q E:=h;show t Z H fun vs H1=>sp (vs++[]) H1 Q E;simpa only [List.append_nil] using z
end
end L2
end
section
namespace L2
open PySem PySem.Spec PyProof.Rows
section
variable {X:Cx}{pins:List (Addr×Obj)}{Z:St}{H:Hp}{s:Shared}{h':Heap}
theorem ZjI{ch:List Addr}(hf:∀ b∈ch,Zck X pins H b):∀ b∈ch,(b∈X.ex\/X.s₀.heap.objs.size<=b)/\b≠X.env.locals/\(∀ x c,X.env.cells.lookup x=some c->c≠b)/\∀ p∈X.pn++pins,p.1≠b:=fun b hb=>by
 obtain ⟨_,f1,_,f3,f4,f5⟩:=hf b hb;exact ⟨f3,f1,f4,f5⟩
theorem Inv.turnL{t':Nat}{ch:List Addr}(I:Inv X pins Z H s)(hf:∀ b∈ch,Zck X pins H b)(k:∀ b o,b ∉ ch->s.heap.get? b=some o->h'.get? b=some o):Inv X pins Z H {s with heap:=h',toks:=t'}:=by
 have nit:∀ b u,H b=some u->b ∉ ch:=fun b u e z=>by rw [(hf b z).1] at e;cases e
 refine I.step (g':=s.gens) (d':=s.drawn) (ch:=ch) (ZjI hf) (fun b o _ _ hc e _=>k b o hc e) (fun b o _ _ hc e _=>⟨o.slots,k b o hc e⟩) (fun _ _ _ _ n=>n)
   (fun b o hc e=>⟨o,k b o hc e⟩) (fun _ _ e=>e) (fun _ _ _ e=>e) (fun b ps e=>⟨#[],by rw [e];simp⟩) (fun m hm=>?_) (fun b u e=>?_) I.bare
 . obtain ⟨o,es,ep,ho,r⟩:=hm;exact ⟨o,es,ep,k _ o (fun z=>(hf _ z).2.1 rfl) ho,r⟩
 . refine (I.hok b u e).stay (fun c v hc q=>k c v ?_ q) (fun _ q=>q) fun _ _ q=>q;rcases hc with z|z
   . rw [z];exact nit b u e
   . exact nit c _ z
theorem Inv.turnT{t':Nat}{ch:List Addr}{us:List Value}(I:Inv X pins Z H s)(hf:∀ b∈ch,Zck X pins H b)(k:∀ b o,b ∉ ch->s.heap.get? b=some o->h'.get? b=some o)
   (hT:s.heap.objs.size<=T) (tup:ZaH h' T us.toArray) (rv:Zh vs us) (hz:vs.length<=sizeLine):Inv X pins Z (upd H T (.tup vs)) {s with heap:=h',toks:=t'}:=by
 have nit:∀ b u,H b=some u->b ∉ ch:=fun b u e z=>by rw [(hf b z).1] at e;cases e
 have neT:∀ b o,s.heap.get? b=some o->b≠T:=fun b o e=>Ou (Ot (Heap.lt_size e) hT);have hTn:H T=none:=I.hok.fresh hT;refine I.step (g':=s.gens) (d':=s.drawn) (ch:=ch) (ZjI hf) (fun b o _ _ hc e _=>k b o hc e) (fun b o _ _ hc e _=>⟨o.slots,k b o hc e⟩) (fun b o _ e n=>by rw [Ze (neT b o e)];exact n)
   (fun b o hc e=>⟨o,k b o hc e⟩) (fun b xs e=>by rw [Ze (ZI e hTn)];exact e) (fun b o u e=>by rw [Ze (ZI e hTn)];exact e) (fun b ps e=>⟨#[],by rw [Ze (ZI e hTn),e];simp⟩) (fun m hm=>?_) (fun b u e=>?_) I.bare
 . obtain ⟨o,es,ep,ho,r⟩:=hm;exact ⟨o,es,ep,k _ o (fun z=>(hf _ z).2.1 rfl) ho,r⟩
 . by_cases hb:b=T
   . subst hb;rw [Zd] at e;cases e;exact ⟨hz,us,rv,tup⟩
   . rw [Ze hb] at e;refine (I.hok b u e).stay (fun c v hc q=>k c v ?_ q) (fun c q=>by rw [Ze (ZI q hTn)];exact q) fun c xs q=>by rw [Ze (ZI q hTn)];exact q
     rcases hc with z|z
     . rw [z];exact nit b u e
     . exact nit c _ z
end
noncomputable def Ite(K:PySem.W.Frag)(a:Addr):It :=
 ⟨fun i H=>∃ xs x,SqL K H a xs/\xs[i]? = some x,fun i H v H'=>∃ p,v=.ref p/\H p=none/\∃ x,(∀ xs,SqL K H a xs->xs[i]? = some x)/\H'=upd H p (.tup [.int i,x]),fun i H=>∃ xs,SqL K H a xs/\xs.length=i⟩
theorem Zkd{P:Program}{w:World}{K:PySem.W.Frag}{es:List Expr}{kk:Nat}{tp:Pos}(a it e:Addr)(hei:e≠it)(hae:a≠e)(hai:a≠it) :
   Turn P w K (.Tuple es kk tp) (Ite K a) [e,it] e (fun i h=>(∃ old,IsEnum h e it i old)/\h.IsListIter it a i) where
 mem:=by simp
 obj:=fun i h st b hb=>by
   obtain ⟨⟨old,he⟩,o,e1,c,d⟩:=st;rcases O2.mp hb with rfl|hb
   . exact ⟨_,he,fun v z=>by cases z⟩
   . have e2:b=it:=by simpa using hb
     subst e2;exact ⟨o,e1,fun v z=>by rw [d] at z;cases z⟩
 keep:=fun i h h' st k=>by
   obtain ⟨⟨old,he⟩,st⟩:=st;exact ⟨⟨old,k e (by simp) _ he⟩,st.at fun o z=>k it (by simp) o z⟩
 item:=by
   intro X hP hw hK hc i pins s Z H E I hf st hg;subst hP hw hK;obtain ⟨xs,x,hq,hx⟩:=hg;obtain ⟨its,rv,p,hz⟩:=I.list hq;have hl:=rv.length;have hi:i<xs.length:=(Ob.mp hx).1;have W:=WalksT.enumerate (prog:=X.prog) (w:=X.w) (I.ok.hd hc) e it a hei hae hai its.toArray;have itm:∀ (Q':Option Value->Shared->Prop) (E':Value->Shared->Prop),(∀ T vals h' tk,(∃ t x,its.toArray[i]? = some x/\vals=#[.int i t,x])->s.heap.objs.size<=T->ZaH h' T vals ->
       ((∃ x,IsEnumOut h' e it ((i:Int)+1) x T)/\h'.IsListIter it a (i+1)/\h'.IsList a its.toArray/\T≠e/\T≠it)->(∀ b o,b ∉ [e,it]->s.heap.get? b=some o->h'.get? b=some o)->Q' (some (.ref T)) {s with heap:=h',toks:=tk}) ->
       wpAny (model X.prog X.w) X.A (pyNext (.ref e)) Q' E' s:=by
     intro Q' E' hQ;obtain ⟨⟨old,he⟩,hit⟩:=st;have hx2:its.toArray[i]? = some (its.toArray[i]'(by simp;lia)):=Array.getElem?_eq_getElem (by simp;lia);refine wpAny_pyNext_enum_item he hit p.isList hx2 hei fun h' ho hit' hT hsz hk=>?_;have e1:e<s.heap.objs.size:=Heap.lt_size he;have e2:it<s.heap.objs.size:=by obtain ⟨_,z,_⟩:=hit;exact Heap.lt_size z
     exact hQ s.heap.objs.size _ h' (s.toks+1) ⟨_,_,hx2,rfl⟩ (Oq _) ⟨_,hT,rfl,rfl,_,rfl⟩ ⟨⟨_,ho⟩,hit',p.isList.at fun o z=>hk a o hae hai z,Nat.ne_of_gt e1,Nat.ne_of_gt e2⟩
       fun b o hb z=>hk b o (fun e'=>hb (by simp [e'])) (fun e'=>hb (by simp [e'])) z
   refine itm _ _ fun T vals h1 tk hP hT tup mid kk=>?_;refine ⟨_,rfl,W.go _ _ _ i T {s with heap:=h1,toks:=tk} _ _ mid fun h2 st2 kk2=>?_⟩;obtain ⟨t,y,hy,rfl⟩:=hP;have hy':its[i]? = some y:=by simpa using hy
   obtain ⟨u,hu,ru⟩:=rv.get hx;rw [hy'] at hu;cases hu;have hTw:T ∉ [e,it]:=W.apart i T h1 mid;have tup2:ZaH h2 T #[.int i t,y]:=by
     obtain ⟨o,q,r⟩:=tup;exact ⟨o,kk2 T o hTw q,r⟩
   have I2:Inv X pins Z (upd H T (.tup [.int i,x])) {s with heap:=h2,toks:=tk}:=I.turnT hf (fun b o hb q=>kk2 b o hb (kk b o hb q)) hT (us:=[.int i t,y]) tup2 (.cons ⟨t,rfl⟩ (.cons ru .nil)) (by show 2<=sizeLine;decide);refine ⟨.ref T,_,I2,rfl,⟨T,rfl,I.hok.fresh hT,x,fun ys hy=>by rw [I.list_inj hy hq];exact hx,rfl⟩,⟨st2.1,st2.2.1⟩,fun b hb=>?_⟩;have neb:b≠T:=fun z=>hTw (by rw [<- z];exact hb);rw [Ze neb];exact (hf b hb).1
 done:=by
   intro X hP hw hK hc i pins s Z H E I hf st hg;subst hP hw hK;obtain ⟨xs,hq,hx⟩:=hg;obtain ⟨its,rv,p,hz⟩:=I.list hq;have hl:=rv.length;have W:=WalksT.enumerate (prog:=X.prog) (w:=X.w) (I.ok.hd hc) e it a hei hae hai its.toArray;have e1:its.toArray.size=i:=by simp;lia
   refine W.done s _ _ ?_ fun h1 tk kk=>⟨rfl,I.turnL hf kk⟩
   rw [e1];exact ⟨st.1,st.2,p.isList⟩
 self:=fun A i s Q E st h=>by
   obtain ⟨⟨old,he⟩,_⟩:=st;exact wpAny_pyIter_enum he h
noncomputable def Ztx(K:PySem.W.Frag)(ta:TA):TI:=fun Z H R=>ta Z H fun vs H1=>∃ a,vs=[.ref a]/\(∃ xs,SqL K H1 a xs)/\R (Ite K a) H1
theorem ZnW {X:Cx}{es:List Expr}{kk:Nat}{tp:Pos}{l:Expr}{ta:TA}{p pos:Pos} (hg:Gl X "enumerate") (hm:X.mg "enumerate" = none) (ha:PA X [l] ta) (hs:starEach [l] X.env=[(false,eval l X.env)]:=by rfl) :
   PI X (.Tuple es kk tp) (.Call (.Name "enumerate" p) [l] [] pos) (Ztx X.K ta):=by
 intro pins s Z H R I h;refine Call_ (Zbt I hg hm boot_enumerate (PyProof.Rows.callWith_type1 (thn (ha pos pins s Z H _ I h) fun us s1 ⟨vs,H1,I1,r1,q1⟩=>?_) hs rfl));obtain ⟨a,rfl,⟨xs,hq⟩,q⟩:=q1;obtain ⟨u,rfl,ru⟩:=vals1 r1;obtain rfl:u=Value.ref a:=ru;obtain ⟨its,rv,pl,hz⟩:=I1.list hq;have hlt:a<s1.heap.objs.size:=by obtain ⟨_,_,e,_⟩:=pl;exact Heap.lt_size e
 refine call_enumerate_list pl.isList fun h' he hi hsz kk=>?_;refine wpAny_pyIter_enum he ?_;refine ⟨s1.heap.objs.size+1,[s1.heap.objs.size+1,s1.heap.objs.size],_,_,H1,rfl,I1.kept (t':=s1.toks) kk,Zkd a s1.heap.objs.size (s1.heap.objs.size+1) (Nat.succ_ne_self _) (Ou (Nat.lt_succ_of_lt hlt)) (Ou hlt),⟨⟨_,he⟩,hi⟩,fun b hb=>?_,q⟩;rcases O2.mp hb with rfl|hb
 . exact I1.fpOk (Nat.le_succ _) (I1.hok.fresh (Nat.le_succ _))
 . have e:b=s1.heap.objs.size:=by simpa using hb
   subst e;exact I1.fpOk (Oq _) (I1.hok.fresh (Oq _))
end L2
end
section
namespace L2
open PySem PySem.Spec PyProof.Rows PySem.Builtin PySem.Builtin.ObjectAttr PySem.Builtin.Getset_descriptor
structure ExcA(K:PySem.W.Frag)(D:Addr):Prop where
 ga:PySem.W.findIn K (.ref D) "__getattribute__" = some (some (.builtin "BaseException.__getattribute__"))
 ga2:PySem.W.findIn K (.ref D) "__getattr__" = some none
 cl:PySem.W.findIn K (.ref D) "__class__" = some (some (.builtin "object.__class__"))
 get:PySem.W.specialIn K (.builtin "object.__class__") "__get__" = some (some (.builtin "getset_descriptor.__get__"))
 takes:PySem.W.takesIn K (.builtin "object.__class__")=some true
 obj:PySem.W.mroIn K D (.type "object")=some true
 base:PySem.W.subIn K (.ref D) (.type "BaseException")=some true
 isc:(PySem.W.clsIn K D).isSome=true
end L2
end
section
namespace L2
open PySem PySem.Spec PyProof.Rows
theorem ZoZ(h:PSs X b t)(r:t D Z H):∃ t,PSs X b t/\t D Z H:=⟨t,h,r⟩
theorem ZgW:RelV (.int x) (.int x t):=⟨t,rfl⟩
theorem Zau:RelV (.ref a) (.ref a):=rfl
end L2
end
section
namespace L2
open PySem PySem.Spec PyProof.Rows
noncomputable def DkK(P:Program)(w:World)(K:PySem.W.Frag)(a:Addr)(kvs:List (Key×V)):Prop :=
 ∃ (o:Obj) (es:Array DictEntry) (ep:Nat) (vs:List (Key×Value)),K.lookup a=some o/\o.ExactDict/\o.data=.dict es ep/\KeysOf (Zz P w) es/\Pairs (Zz P w) es.toList vs/\(vs.map (·.1)).Nodup/\KV kvs vs/\kvs.length<=sizeLine/\(a==sysModules)=false
noncomputable def Dk(P:Program)(w:World)(K:PySem.W.Frag)(H:Hp)(a:Addr)(kvs:List (Key×V)):Prop:=Rd H a (.dK kvs)\/DkK P w K a kvs
section
variable {X:Cx}{pins:List (Addr×Obj)}{Z:St}{H:Hp}{s:Shared}{a:Addr}
theorem Inv.dk(I:Inv X pins Z H s)(h:Dk X.prog X.w X.K H a kvs):kvs.length<=sizeLine/\(a==sysModules)=false/\∃ vs,KV kvs vs/\s.heap.DictOf (Zz X.prog X.w) a vs:=by
 rcases h with h|⟨o,es,ep,vs,lk,ex,da,ks,ps,nd,kv,z,hm⟩
 . exact ZmJ I.hok h
 . exact ⟨z,hm,vs,kv,o,es,ep,I.kIn a o lk,ex,da,ks,ps,nd⟩
noncomputable def ZsJ(P:Program)(w:World)(K:PySem.W.Frag)(neg:Bool):R2:=fun x y H Q=>∃ a kvs k,y=.ref a/\x=kV k/\Dk P w K H a kvs/\Q (.bl (if neg then !(Zcw kvs k).isSome else (Zcw kvs k).isSome)) H
theorem ZqK:OpR X (compareOp .In) (ZsJ X.prog X.w X.K false):=by
 intro pins s Z H x y v u Q I rx ry h;obtain ⟨a,kvs,k,rfl,rfl,hd,q⟩:=h;cases ry;obtain ⟨z,hm,vs,rel,dd⟩:=I.dk hd;refine wpAny_in_of (Zhk rx) hm dd.mapOf ?_;rw [<- (rel.val k).isSome_eq];exact ⟨.bl _,H,I.tok _,rfl,q⟩
theorem Zku:OpR X (compareOp .NotIn) (ZsJ X.prog X.w X.K true):=by
 intro pins s Z H x y v u Q I rx ry h;obtain ⟨a,kvs,k,rfl,rfl,hd,q⟩:=h;cases ry;obtain ⟨z,hm,vs,rel,dd⟩:=I.dk hd;refine wpAny_notIn_of (Zhk rx) hm dd.mapOf ?_;rw [<- (rel.val k).isSome_eq];exact ⟨.bl _,H,I.tok _,rfl,q⟩
noncomputable def ZuH(P:Program)(w:World)(K:PySem.W.Frag):R2:=fun x y H Q=>∃ a kvs k v,x=.ref a/\y=kV k/\Dk P w K H a kvs/\Zcw kvs k=some v/\Q v H
theorem ZoC:IxR X (ZuH X.prog X.w X.K):=by
 intro value slice pins s Z H x y v u Q I rx ry h hs;obtain ⟨a,kvs,k,z,rfl,rfl,hd,hv,q⟩:=h;cases rx;obtain ⟨_,hm,vs,rel,dd⟩:=I.dk hd;obtain ⟨w',hw,rw'⟩:=Zdp.some_of (v:=z) (o:=valueAt vs k) (by rw [<- hv];exact rel.val k);exact subscriptTail_builtinR (x:=w') dd.typeIs PySem.F.slot_dict_getitem.lookup (wpAny_getItem_of (Zhk ry) dd.mapOf hw ⟨rfl,z,H,I.tok _,rw',q⟩) hs
theorem ZtM(I:Inv X pins Z H s)(e:H a=some (.dK kvs))(l:kvs.length<sizeLine)(ry:RelV (kV k) u)(rv:RelV v r)
   (h:∀ s',Inv X pins Z (upd H a (.dK (putK kvs k v))) s'->Q () s'):wpAny (model X.prog X.w) A (setItem (.ref a) u r) Q E s:=by
 obtain ⟨z,hd,vs,rel,dd⟩:=ZpG I.hok e;have hz:vs.length<=sizeLine:=by rw [<- rel.length];exact z
 have hl:(putK kvs k v).length<=sizeLine:=by have:=ZdQ kvs k v;lia
 refine wpAny_setItem_pairs (hsz:=hz) (Zhk ry) dd fun h' dd' hs=>h _ ?_;have he:∃ q,h'.get? a=some q:=let ⟨q,_,_,hq,_⟩:=dd';⟨q,hq⟩;exact ZjP I (by rw [e];exact True.intro) hs he (ZiN hl hd (rel.put k rv) dd')
noncomputable def ZsC:Zpg:=fun o i v H Q=>∃ a kvs k,o=.ref a/\i=kV k/\H a=some (.dK kvs)/\kvs.length<sizeLine/\Q (upd H a (.dK (putK kvs k v)))
theorem set_dict:Zpi X ZsC:=by
 intro pins s Z H o i v ov iv u Q I ro ri rv h;obtain ⟨a,kvs,k,rfl,rfl,e,l,q⟩:=h;cases ro;exact ZtM I e l ri rv fun s' I'=>⟨_,I',q⟩
end
end L2
end
section
set_option tactic.hygienic false
namespace L2
open PySem PySem.Spec PyProof.Rows
section
variable {X:Cx}{elt tg iter:Expr}{ifs:List Expr}{scope sc:Scope}{pos:Pos}{NC:List Str}{js:List (Option Nat)}{k:Nat}{wi:TI}{g:TG}{tc:TT}{te:TE}
theorem Zih(hN:X.N.Nodup)(hy:X.N[i0]? = some y)(hx:Loc X.env.scope y)(hf:X.fn y=true\/X.env.scope.names.lookup y=some .local)(S_:CompSc NC X.N js sc scope)(hsc:X.env.scope=sc)(hc:X.calm=true)(hi:PI X tg iter wi)
   (hb:∀ (C:Addr) (s3:Shared) (H3:Hp) (fp:List Addr),PG (Zw X NC scope C s3 H3 fp) tg g/\PIf (Zw X NC scope C s3 H3 fp) ifs tc/\PE (Zw X NC scope C s3 H3 fp) elt te)
   (hk:ZiY k g) (hjk:∀ j,j<k->js[j]? = some none) (hs:∀ x,foldedSetIterable iter X.env x=pure x:=by intro _;rfl) (hsw:swapsWith (.ListComp elt [⟨tg,iter,ifs,0⟩] scope pos) (some (.Name y py)) spos.line X.env=pure true:=by rfl) :
   PS X (.Assign [.Name y py] (.ListComp elt [⟨tg,iter,ifs,0⟩] scope pos) spos) (Zh8 (Zk9 wi js g tc te) (ZbP i0)):=by
 intro pins s Z H D0 I h;rw [exec_Assign_Name_used _ _ _ _ hsw];refine wpAny_bind (wpAny_standAt (wpAny_bind ?_));show wpAny _ X.A (do let _ <- comprehension (.ListComp elt [⟨tg,iter,ifs,0⟩] scope pos) scope X.env _ (newList []) false (eval iter X.env) (some (assign (.Name y py) X.env))) _ _ s;refine wpAny_bind (wpAny_mono (ZhB (Q:=fun x H1=>ZbP i0 x Z H1 D0.nx) (Q0:=fun _ s'=>SP X pins D0 .next s') S_ hsc hc hi hb hk hjk hs I h fun C Dd s3 s6 H3 H5 fp hC I3 f3 I6 qn=>?_) (fun _ s' hq=>wpAny_pure (wpAny_pure hq)) fun _ _ e=>e);obtain ⟨m,hm,_⟩:=I6.loc;have Io:Inv X pins Z H5 s6:=I3.comp_out (h'':=s6.heap) f3 hC I6 ⟨rfl,fun _ _=>rfl⟩;have fC:Zck X pins H5 C:=I3.fpOk (Nat.le_of_eq hC.symm) I6.free;show wpAny _ X.A (assign (.Name y py) X.env (.ref Dd)) _ _ _;refine wpAny_assign_Name (Zfr Io hN hy hx (v:=.ref Dd) rfl (fun s8 I8 ⟨a8,sb8,ha8⟩=>?_) hf);have ne8:C≠a8:=fun z=>by
   rcases ha8 with e|e
   . exact fC.2.1 (z.trans e)
   . exact fC.2.2.2.2.1 _ _ e z.symm
 refine ⟨m,hm.sameBut sb8 ne8,fun h' hs'=>?_⟩;exact ⟨_,H5,I8.turnL (t':=s8.toks) (ch:=[C]) (fun b hb=>by rw [Ox.mp hb];exact fC) (fun b o hb e=>(hs'.2 b (fun z=>hb (by rw [z];exact List.mem_singleton_self _))).trans e),qn⟩
end
end L2
end
section
namespace L2
open PySem PySem.Spec PyProof.Rows
mutual
inductive Dp(K:PySem.W.Frag)(H:Hp):V->PyData->Prop
 | non:Dp K H .non .none
 | bl (b:Bool):Dp K H (.bl b) (.bool b)
 | int (i:Int):Dp K H (.int i) (.int i)
 | str (x:Str) (ok:PyData.strOk x=true):Dp K H (.str x) (.str x)
 | lst {a:Addr}{xs:List V}{ds:List PyData}:SqL K H a xs->Dps K H xs ds->Dp K H (.ref a) (.list ds)
 | tup {a:Addr}{xs:List V}{ds:List PyData}:SqT K H a xs->Dps K H xs ds->Dp K H (.ref a) (.tuple ds)
inductive Dps(K:PySem.W.Frag)(H:Hp):List V->List PyData->Prop
 | nil:Dps K H [] []
 | cons {v:V}{vs:List V}{d:PyData}{ds:List PyData}:Dp K H v d->Dps K H vs ds->Dps K H (v::vs) (d::ds)
end
section
variable {K:PySem.W.Frag}{H H':Hp}
mutual
theorem Dp.lay:∀ {v:V}{d:PyData},Dp K H v d->d.canLay0=true
 | _,_,.non=>rfl
 | _,_,.bl b=>rfl
 | _,_,.int i=>rfl
 | _,_,.str x ok=>ok
 | _,_,.lst h r=>Dps.lay r
 | _,_,.tup h r=>Dps.lay r
theorem Dps.lay:∀ {v:List V}{d:List PyData},Dps K H v d->PyData.canLayAll0 d=true
 | _,_,.nil=>rfl
 | _,_,.cons h r=>by rw [PyData.canLayAll0,Dp.lay h,Dps.lay r];rfl
end
end
section
variable {X:Cx}{pins:List (Addr×Obj)}{Z:St}{H:Hp}{s:Shared}
mutual
theorem Inv.reads(I:Inv X pins Z H s):∀ {v:V}{d:PyData}{u:Value},Dp X.K H v d->RelV v u->∃ as,Reads s.heap u d as
 | _,_,_,.non,r=>by cases r;exact ⟨_,.none⟩
 | _,_,_,.bl b,r=>by cases r;exact ⟨_,.bool b⟩
 | _,_,_,.int i,r=>by obtain ⟨t,rfl⟩:=r;exact ⟨_,.int i t⟩
 | _,_,_,.str x ok,r=>by obtain ⟨t,rfl⟩:=r;exact ⟨_,.str x t⟩
 | _,_,_,.lst h rs,r=>by
   cases r;obtain ⟨its,rv,⟨o,n,e,c,_,dd⟩,_⟩:=I.list h;obtain ⟨as,q⟩:=Inv.readsAll I rs rv;exact ⟨_,.list e c dd (by simpa using q)⟩
 | _,_,_,.tup h rs,r=>by
   cases r;obtain ⟨its,rv,⟨o,e,c,n,dd⟩,_⟩:=I.tuple h;obtain ⟨as,q⟩:=Inv.readsAll I rs rv;exact ⟨_,.tuple e c dd (by simpa using q)⟩
theorem Inv.readsAll(I:Inv X pins Z H s):∀ {v:List V}{d:List PyData}{u:List Value},Dps X.K H v d->Zh v u->∃ as,ReadsAll s.heap u d as
 | _,_,_,.nil,r=>by cases r;exact ⟨_,.nil⟩
 | _,_,_,.cons h rs,r=>by
   cases r with
   | cons r1 r2 =>
     obtain ⟨as,q⟩:=Inv.reads I h r1;obtain ⟨bs,q2⟩:=Inv.readsAll I rs r2;exact ⟨_,.cons q q2⟩
end
end
end L2
end
section
set_option tactic.hygienic false
namespace L2
open PySem PySem.Spec PyProof.Rows
namespace Rv
theorem own:Manifest.owners.lookup (String.ofList ['d','e','s','r','e','v','e','r'].reverse)=some Manifest.sig_reversed:=by kernel_rfl
theorem next:Slot "reversed" "__next__" "reversed.__next__" :=
 .of (owner := "reversed") (n := "__next__") (by rw [typeLookup_type,builtinLookup_eq_fast]<;>kernel_rfl) (by decide +kernel) (by decide +kernel) (by decide +kernel) (by first|exact .inl (by decide +kernel)|exact .inr (by decide +kernel)) (by rw [isSubtype_type]<;>kernel_rfl)
theorem ZpF:entryFor table "reversed.__next__" = some Builtin.«reversed.__next__»:=entryFor_of_tree (by kernel_rfl)
theorem ZpP (a:Value):argsOk "reversed.__next__" ⟨[a],[]⟩:=by
 unfold argsOk;rw [signature?_of (id := "reversed.__next__") (n:=['_','_','t','x','e','n','_','_']) (o:=['d','e','s','r','e','v','e','r']) (by kernel_rfl) own];kernel_rfl
theorem iter:Slot "reversed" "__iter__" "reversed.__iter__" :=
 .of (owner := "reversed") (n := "__iter__") (by rw [typeLookup_type,builtinLookup_eq_fast]<;>kernel_rfl) (by decide +kernel) (by decide +kernel) (by decide +kernel) (by first|exact .inl (by decide +kernel)|exact .inr (by decide +kernel)) (by rw [isSubtype_type]<;>kernel_rfl)
theorem ZtT (a:Value):argsOk "reversed.__iter__" ⟨[a],[]⟩:=by
 unfold argsOk;rw [signature?_of (id := "reversed.__iter__") (n:=['_','_','r','e','t','i','_','_']) (o:=['d','e','s','r','e','v','e','r']) (by kernel_rfl) own];kernel_rfl
theorem ZtJ:entryFor table "reversed.__iter__" = some Builtin.«dict_keyiterator.__iter__» :=
 entryFor_alias (id' := "dict_keyiterator.__iter__") (by kernel_rfl) (by first|rfl|decide +kernel|(unfold String.splitOn;simp +decide [String.splitOnAux])) (by decide +kernel) (by kernel_rfl)
theorem Zs7:typeLookup (.type "tuple") "__reversed__" = pure none:=by rw [typeLookup_type,builtinLookup_eq_fast]<;>kernel_rfl
theorem Zjb:isSubtype (.type "reversed") (.type "reversed")=pure true:=by rw [isSubtype_type]<;>kernel_rfl
theorem init:Slot "reversed" "__init__" "object.__init__" :=
 .of (owner := "object") (n := "__init__") (by rw [typeLookup_type,builtinLookup_eq_fast]<;>kernel_rfl) (by decide +kernel) (by decide +kernel) (by decide +kernel) (by first|exact .inl (by decide +kernel)|exact .inr (by decide +kernel)) (by rw [isSubtype_type]<;>kernel_rfl)
theorem called:TypeCalled "reversed" "reversed.__new__" "object.__init__" := ⟨by decide +kernel,F.create_reversed,⟨_,_,F.mro_reversed⟩,F.made_reversed,by decide +kernel,Zjb,init⟩
noncomputable def obj (l:Addr) (i:Int):Obj:={cls:=.type "reversed",data:=.fields #[.ref l,rawInt i]}
noncomputable def Is (h:Heap) (a l:Addr) (i:Int):Prop:=∃ o,h.get? a=some o/\o.cls=.type "reversed" /\ o.data=.fields #[.ref l,rawInt i]
section
variable {prog:Program}{w:World}{A:Around}{E:Value->Shared->Prop}{s:Shared}
theorem Is.typeIs (x:Is s.heap a l i):s.TypeIs (.ref a) "reversed" := let ⟨o,ho,hc,_⟩:=x;⟨o,ho,hc⟩
theorem Is.at(x:Is h a l i)(e:∀ o,h.get? a=some o->h'.get? a=some o):Is h' a l i:=let ⟨o,ho,r⟩:=x;⟨o,e _ ho,r⟩
theorem new(hl:IsTup s.heap l items)(hz:items.size<=sizeLine)
   (h:Q (.ref s.heap.objs.size) {s with heap:=s.heap.push (obj l ((items.size:Int) - 1)),toks:=s.toks+1+1}) :
   codeAny (model prog w) A (.call (.builtin "reversed.__new__") ⟨[.type "reversed",.ref l],[]⟩) (wants Q E) s:=by
 have hfit:(items.size:Int)<2 ^ 63:=by have:=ZaT;lia
 refine codeAny_of_tree ?_;show wpAny _ A.in1 (do checkBuiltinCall "reversed.__new__" ⟨[.type "reversed",.ref l],[]⟩;again (.builtin "reversed.__new__" ⟨[.type "reversed",.ref l],[]⟩)) _ _ s;refine wpAny_bind (wpAny_of_eq (F.newCall_reversed_1 _) (wpAny_pure ⟨plainId_quiet F.plain_reversed_new _,codeAny_builtin F.entry_reversed_new ?_⟩));rw [Around.under_plainId F.plain_reversed_new _];unfold Builtin.«reversed.__new__»;refine wpAny_bind (wpAny_of_eq (newClass_reversed _) ?_)
 try dsimp only
 refine wpAny_bind (wpAny_of_eq (a:=()) (by first|rfl|kernel_rfl) (wpAny_bind (wpAny_of_eq (a:=()) (by first|rfl|kernel_rfl) ?_)))
 try dsimp only
 refine wpAny_bind (wpAny_specialOf hl.typeIs Zs7 ?_)
 try dsimp only
 refine wpAny_bind ?_;show wpAny _ _ (isInstance (.ref l) (.type "dict") >>= fun b=>_) _ _ s;refine wpAny_bind (wpAny_isInstance hl.typeIs F.sub_tuple_dict ?_);show wpAny _ _ (specialOf (.ref l) "__getitem__" >>= fun b=>_) _ _ s;refine wpAny_bind (wpAny_specialOf hl.typeIs slot_tuple_getitem.lookup ?_);refine wpAny_of_eq (a:=true) (by rfl) ?_;show wpAny _ _ (call (.builtin "len") [.ref l] >>= fun b=>_) _ _ s;refine wpAny_bind (len_tuple hl hfit ?_);show wpAny _ _ (asInt? (.int _ _) >>= fun b=>_) _ _ _;refine wpAny_bind (wpAny_pure ?_);show wpAny _ _ (newObj (.type "reversed") (.fields #[.ref l,rawInt ((items.size:Int) - 1)]) >>= fun b=>_) _ _ _;exact wpAny_bind (wpAny_newObj_type (wpAny_pure h))
theorem call(hl:IsTup s.heap l items)(hz:items.size<=sizeLine)
   (h:Q (.ref s.heap.objs.size) {s with heap:=s.heap.push (obj l ((items.size:Int) - 1)),toks:=s.toks+1+1}):wpAny (model prog w) A (PySem.call (.type "reversed") [.ref l]) Q E s:=by
 refine callType_codes called (F.typeCall_reversed_1 _) F.entry_object_init (new (Q:=fun o s1=>o=.ref s.heap.objs.size/\s1={s with heap:=s.heap.push (obj l ((items.size:Int) - 1)),toks:=s.toks+1+1}) hl hz ⟨rfl,rfl⟩) ?_;rintro _ _ ⟨rfl,rfl⟩;have hT:Shared.TypeIs {s with heap:=s.heap.push (obj l ((items.size:Int) - 1)),toks:=s.toks+1+1} (.ref s.heap.objs.size) "reversed" := ⟨_,Oj _ rfl,rfl⟩
 refine ⟨hT,F.args_object_init_2 _ _,?_⟩;exact object_init_meets init.lookup F.made_reversed (by decide) prog w _ _ _ ⟨hT,rfl,h⟩
theorem next_item{it l:Addr}{i:Nat}{Q:Option Value->Shared->Prop}(hit:Is s.heap it l (i:Int))(hl:IsTup s.heap l items)(hz:items.size<=sizeLine)(hx:items[i]? = some x)
   (hQ:∀ h' t',Is h' it l ((i:Int) - 1)->Heap.SameBut it s.heap h'->Q (some x) {s with heap:=h',toks:=t'}):wpAny (model prog w) A (pyNext (.ref it)) Q E s:=by
 obtain ⟨o,ho,hc,hd⟩:=id hit;have hi:i<items.size:=by
   have:=(Array.getElem?_eq_some_iff.mp hx).1;exact this
 have l63:=ZaT;unfold pyNext;refine wpAny_bind (wpAny_attempt (wpAny_callSpecial?_slot (name:=O "__next__") hit.typeIs next (wpAny_call_entry next hit.typeIs ZpF ?_ (ZpP _))));unfold Builtin.«reversed.__next__»;refine wpAny_bind (wpAny_of_eq (a:=(Value.ref it,[])) rfl ?_)
 try dsimp only
 refine wpAny_bind (wpAny_field ho hd (x:=.ref l) rfl (wpAny_bind (wpAny_field ho hd (x:=rawInt (i:Int)) rfl ?_)));show wpAny _ _ (if (i:Int)<0 then _ else _) _ _ s;rw [if_neg (by lia)];show wpAny _ _ (specialOf (.ref l) "__getitem__" >>= fun b=>_) _ _ s;refine wpAny_bind (wpAny_specialOf hl.typeIs slot_tuple_getitem.lookup ?_);show wpAny _ _ (mkInt (i:Int) >>= fun b=>_) _ _ s;refine wpAny_bind (wpAny_mkInt ?_);refine wpAny_bind (wpAny_attempt (getItem_tuple (s:={s with toks:=s.toks+1}) (j:=i) (x:=x) hl (by lia) (by lia) (seqIndex_of (by lia) (by lia)) hx ?_));show wpAny _ _ (field (.ref it) 1 >>= fun b=>_) _ _ _;refine wpAny_bind (wpAny_field ho hd (x:=rawInt (i:Int)) rfl ?_);show wpAny _ _ (setField (.ref it) 1 (rawInt ((i:Int) - 1)) >>= fun b=>_) _ _ _;refine wpAny_bind (wpAny_setField ho hd (by simp) ?_);refine wpAny_pure ⟨x,rfl,wpAny_pure (hQ _ _ ?_ (Heap.SameBut.update ..))⟩;exact ⟨_,Heap.get?_update_self _ ho (Obj.isFreed_of_fields (Obj.data_mapFields hd _)),(Obj.cls_mapFields ..).trans hc,by rw [Obj.data_mapFields hd]<;>simp⟩
theorem next_end(hh:A.handled=none)(hit:Is s.heap it l (-1))(hQ:∀ h',Heap.ExtBut it s.heap h'->Q none {s with heap:=h'}):wpAny (model prog w) A (pyNext (.ref it)) Q E s:=by
 obtain ⟨o,ho,hc,hd⟩:=id hit;unfold pyNext;refine wpAny_bind (wpAny_attempt (wpAny_callSpecial?_slot (name:=O "__next__") hit.typeIs next (wpAny_call_entry next hit.typeIs ZpF ?_ (ZpP _))));unfold Builtin.«reversed.__next__»;refine wpAny_bind (wpAny_of_eq (a:=(Value.ref it,[])) rfl ?_)
 try dsimp only
 refine wpAny_bind (wpAny_field ho hd (x:=.ref l) rfl (wpAny_bind (wpAny_field ho hd (x:=rawInt (-1)) rfl ?_)));show wpAny _ _ (if (-1:Int)<0 then _ else _) _ _ s;rw [if_pos (by decide)];refine wpAny_bind (wpAny_rule ?_);show wpAny _ _ ((setField (.ref it) 1 (rawInt (-1)) >>= fun _=>setField (.ref it) 0 .none) >>= fun b=>_) _ _ _;have e1:=Heap.get?_update_self (Obj.mapFields (·.setIfInBounds 1 (rawInt (-1)))) ho (Obj.isFreed_of_fields (Obj.data_mapFields hd _));refine wpAny_bind (wpAny_bind (wpAny_setField ho hd (by simp) (wpAny_setField e1 (Obj.data_mapFields hd _) (by simp) ?_)));refine wpAny_bind ?_;show wpAny _ _ (newExc (.type "StopIteration") [] >>= fun b=>_) _ _ _;refine wpAny_bind ?_;simp only [newExc,newTuple];refine wpAny_bind (wpAny_newObj_type ?_ (by size_fits));refine wpAny_bind (m:=firstArgMember _ _) (wpAny_of_eq (a:=Value.none) (by first|rfl|(simp only [firstArgMember]<;>rfl)) (wpAny_newObj_type ?_ (by size_fits)));simp only [raiseNew];refine wpAny_bind (wpAny_handled ?_);rw [show A.in1.handled=none from hh];refine wpAny_bind (wpAny_pure (wpAny_throw ?_));refine wpAny_bind (wpAny_isInstance (T := "StopIteration") (b:=true) ⟨_,Oj _ rfl,rfl⟩ isSubtype_stop (wpAny_pure (hQ _ ?_)));exact ((((Heap.ExtBut.refl _ _).trans (Heap.SameBut.update ..).extBut).trans (Heap.SameBut.update ..).extBut).push _).push _
theorem ZdA(hit:Is s.heap it l i)(h:Q (.ref it) s):wpAny (model prog w) A (pyIter (.ref it)) Q E s:=by
 refine wpAny_pyIter_slot hit.typeIs iter (wpAny_call_entry iter hit.typeIs ZtJ ?_ (ZtT _));exact wpAny_pure ⟨_,rfl, "reversed",_,hit.typeIs,next.lookup,h⟩
end
end Rv
noncomputable def Itv(K:PySem.W.Frag)(a:Addr)(n:Nat):It :=
 ⟨fun i H=>∃ xs x,SqT K H a xs/\xs.length=n/\xs.reverse[i]? = some x,fun i H x H'=>H'=H/\∀ xs,SqT K H a xs->xs.reverse[i]? = some x,fun i H=>∃ xs,SqT K H a xs/\xs.length=n/\n=i⟩
theorem Zk5{P:Program}{w:World}{K:PySem.W.Frag}{tg:Expr}(a it:Addr)(n:Nat):Turn P w K tg (Itv K a n) [it] it (fun i h=>i<=n/\Rv.Is h it a ((n:Int) - 1 - i)) where
 mem:=by simp
 obj:=fun i h st b hb=>by
   have e:b=it:=by simpa using hb
   subst e;obtain ⟨_,o,e,c,d⟩:=st;exact ⟨o,e,fun v z=>by rw [d] at z;cases z⟩
 keep:=fun i h h' st k=>⟨st.1,st.2.at fun o e=>k it (by simp) o e⟩
 item:=by
   intro X hP hw hK hc i pins s Z H E I hf st hg;subst hP hw hK;obtain ⟨hin,st⟩:=st;obtain ⟨xs,x,hq,hxn,hx⟩:=hg;obtain ⟨its,rv,p,hz⟩:=I.tuple hq;have hl:=rv.length;have hi:i<xs.length:=by
     have:=(Ob.mp hx).1;simpa using this
   have hx':xs[n - 1 - i]? = some x:=by
     rw [List.getElem?_reverse hi] at hx;rw [<- hxn];exact hx
   obtain ⟨u,hu,ru⟩:=rv.get hx';obtain ⟨f0,f1,f2,f3,f4,f5⟩:=hf it (by simp);have e1:(n:Int) - 1 - (i:Nat)=((n - 1 - i:Nat):Int):=by lia
   rw [e1] at st;refine Rv.next_item st p (by simp;lia) (x:=u) (by simpa using hu) fun h' t' st' sb=>?_;have I1:Inv X pins Z H {s with heap:=h',toks:=t'}:=I.turned (t':=t') (fun b o hb e=>(sb.2 b hb).trans e) f0 f1 f3 f4 f5;obtain ⟨o,e,c,d⟩:=id st';have e2:((n - 1 - i:Nat):Int) - 1=(n:Int) - 1 - ((i+1:Nat):Int):=by lia
   refine ⟨u,rfl,ZfB (s:={s with heap:=h',toks:=t'}) e c d (by decide) ⟨x,H,I1,ru,⟨rfl,fun ys hy=>by rw [I.tuple_inj hy hq];exact hx⟩,⟨by lia,by rw [<- e2];exact st'⟩,fun b hb=>(hf b hb).1⟩⟩
 done:=by
   intro X hP hw hK hc i pins s Z H E I hf st hg;subst hP hw hK;obtain ⟨xs,hq,hxn,hx⟩:=hg;obtain ⟨f0,f1,f2,f3,f4,f5⟩:=hf it (by simp);have st1:=st.2;rw [show (n:Int) - 1 - (i:Nat)=-1 by lia] at st1;exact Rv.next_end (I.ok.hd hc) st1 fun h' eb=>⟨rfl,I.turned (t':=s.toks) (fun b o hb e=>eb b o hb e) f0 f1 f3 f4 f5⟩
 self:=fun _ _ _ _ _ st h=>Rv.ZdA st.2 h
end L2
end
section
set_option tactic.hygienic false
namespace L2
open PySem PySem.Spec PyProof.Rows
theorem Z5:∀ {vs:List Value}{ss:List Str},StrsAre vs ss->Zh (ss.map V.str) vs
 | _,_,.nil=>.nil
 | _,_,.cons y t h=>.cons ⟨t,rfl⟩ (Z5 h)
theorem Zfo:∀ {ss:List Str}{vs:List Value},Zh (ss.map V.str) vs->StrsAre vs ss
 | [],vs,h=>by cases h;exact .nil
 | s::ss,vs,h=>by
   rw [Op] at h;cases h with
   | cons h1 h2 =>
     obtain ⟨t,rfl⟩:=h1;exact .cons s t (Zfo h2)
section
variable {prog:Program}{w:World}{A:Around}{E:Value->Shared->Prop}{s:Shared}
theorem Zia
   (hcol:∀ R:List Value->Shared->Prop,(∀ (h':Heap) (tk:Nat) (vs:List Value),s.heap.objs.size<=h'.objs.size->(∀ b o,s.heap.get? b=some o->h'.get? b=some o)->StrsAre vs ss->R vs {s with heap:=h',toks:=tk})->wpAny (model prog w) A.in1 (collect (.ref r)) R E s)
   (h64:ss.length<64)
   (h:∀ (D:Addr) (h':Heap) (tk:Nat) (out:List Value) (ss':List Str) (n:Nat),(∀ b o,s.heap.get? b=some o->h'.get? b=some o)->s.heap.objs.size<=D->h'.get? D=some {cls:=.type "list",data:=.seq out.toArray n}->StrsAre out ss'->ss'.Perm ss->sortedS ss'=true ->
     Q (.ref D) {s with heap:=h',toks:=tk}):wpAny (model prog w) A (call (.builtin "sorted") [.ref r]) Q E s:=by
 refine Calls.call_function_entry kind_sorted plain_sorted entry_sorted (args_sorted1 _) ?_;unfold Builtin.«sorted»;refine wpAny_bind (m:=checkCount "sorted" 1 1 _) (wpAny_pure (wpAny_bind (hcol _ fun h' tk vs hsz hk hS=>?_)));have hlen:vs.length=ss.length:=by
   have:=(Z5 hS).length;simpa using this.symm
 have hz:vs.length<=sizeLine:=by rw [sizeLine_eq];lia
 refine wpAny_bind (wpAny_newList ?_ hz);have hoL:(h'.push (seqObj "list" vs.toArray 0)).get? h'.objs.size=some (seqObj "list" vs.toArray 0):=Oj _ rfl;refine wpAny_bind (wpAny_holding (wpAny_call_entry slot_list_sort ⟨_,hoL,rfl⟩ entry_list_sort (list_sort_treeK strKind_oneLt hoL hS.keysOf (fun v₁ v₂ rest e=>keyKind_strs (by rw [<- e];exact hS)) (by lia) fun st' a1 a2=>⟨_,rfl,?_⟩) (args_list_sort _)));refine wpAny_pure ⟨_,rfl,?_⟩;obtain ⟨ss',h1,h2,h3⟩:=sorted_out_str hS a1 a2;obtain ⟨e,he⟩:=sortedHeap_at (out:=(arrOf st').map (·.2)) hoL;have e2:((arrOf st').map (·.2))=((arrOf st').map (·.2)).toList.toArray:=Array.toArray_toList.symm;refine h h'.objs.size _ tk ((arrOf st').map (·.2)).toList ss' e (fun b o q=>?_) hsz (by rw [<- e2];exact he) h1 h2 h3;have q':=hk b o q;have hlt:=Heap.lt_size q';rw [sortedHeap_old (Ou hlt) (by rw [size_push'];exact Nat.lt_succ_of_lt hlt)];exact Od _ q'
theorem ZhE(K:PySem.W.KdlSrc prog w T r d n P OK)(hh:A.handled=none)(hok:OK s.heap)(hn:n<=sizeLine)
   (h:∀ (h':Heap) (tk:Nat) (acc:Array Value),s.heap.objs.size<=h'.objs.size->(∀ b o,s.heap.get? b=some o->h'.get? b=some o)->ItemsOf P acc n->R acc.toList {s with heap:=h',toks:=tk}) :
   wpAny (model prog w) A (collect (.ref r)) R E s:=by
 have lt:=K.there _ hok;unfold collect;refine wpAny_bind (wpAny_runValue (codeAny_builtin entry_proto_collect' ?_));rw [Around.under_plainId PySem.F.plain_proto_collect _];show wpAny _ A.in1 (newList [] >>= fun x=>again (.builtin "list.__iadd__" ⟨[x,.ref r],[]⟩)) _ _ s;refine wpAny_bind (wpAny_newObj_type (wpAny_pure ⟨plainId_quiet PySem.F.plain_list_iadd _,codeAny_builtin entry_list_iadd' ?_⟩));rw [Around.under_plainId PySem.F.plain_list_iadd _];have e0:(s.heap.push {cls:=.type "list",data:=.seq ([]:List Value).toArray}).get? s.heap.objs.size=some {cls:=.type "list",data:=.seq #[]}:=Oj _ rfl;show wpAny _ A.in1 (Builtin.List.listExtendWith (.ref s.heap.objs.size) (.ref r) (.ref s.heap.objs.size)) _ _ _;have key:=PySem.W.kdl_extend (A:=A) (s:={s with heap:=s.heap.push {cls:=.type "list",data:=.seq ([]:List Value).toArray}})
   (R:=fun (q:Result) (s':Shared)=>∃ (h':Heap) (tk:Nat) (acc:Array Value) (c:Nat),q=.ok (.ret (.ref s.heap.objs.size))/\s'={s with heap:=h',toks:=tk}/\(∀ b o,s.heap.get? b=some o->h'.get? b=some o)/\h'.get? s.heap.objs.size=some {cls:=.type "list",dict:=none,data:=.seq acc c,slots:=#[]}/\ItemsOf P acc n)
   K hh (K.keep _ _ hok fun b _ o e=>Od _ e) s.heap.objs.size (Nat.ne_of_gt lt.1) (Nat.ne_of_gt lt.2) (.ref s.heap.objs.size) 0 e0 (fun h' tk acc c hk hS hacc=>⟨h',tk,acc,c,rfl,rfl,fun b o e=>hk b o (Ou (Heap.lt_size e)) (Od _ e),hS,hacc⟩) hn
 refine wpAny_mono key (fun fin s' x=>?_) fun e s' x=>?_
 . cases fin with
   | done f =>
     obtain ⟨h',tk,acc,c,e,rfl,hk,hS,hacc⟩:=x;cases e;exact wpAny_bind (wpAny_load hS (wpAny_pure (h h' tk acc (Nat.le_of_lt (Heap.lt_size hS)) hk hacc)))
   | again c₁ =>
     refine ⟨x.1,codeAny_mono x.2 fun q s₂ y=>?_⟩;obtain ⟨h',tk,acc,c,rfl,rfl,hk,hS,hacc⟩:=y;exact wpAny_bind (wpAny_load hS (wpAny_pure (h h' tk acc (Nat.le_of_lt (Heap.lt_size hS)) hk hacc)))
 . obtain ⟨_,_,_,_,z,_⟩:=x;cases z
end
theorem ZcQ:∀ {xs:List α}{ys:List β},Paired R xs ys->∀ {i:Nat}{x:α},xs[i]? = some x->∃ y,ys[i]? = some y/\R x y
 | _,_,.nil,i,x,e=>by simp at e
 | _,_,.cons h r,0,x,e=>by cases e;exact ⟨_,rfl,h⟩
 | _,_,.cons h r,i+1,x,e=>by
   obtain ⟨y,h1,h2⟩:=ZcQ r (i:=i) (x:=x) (by simpa using e);exact ⟨y,by simpa using h1,h2⟩
theorem ZcP:∀ (ss:List Str) (vs:List Value),vs.length=ss.length->(∀ (j:Nat) (v:Value),vs[j]? = some v->∃ x,ss[j]? = some x/\(Zz P w).is (Sum.inr x) v=true)->StrsAre vs ss
 | [],[],_,_=>.nil
 | s::ss,v::vs,hl,h=>by
   obtain ⟨x,e,hx⟩:=h 0 v rfl;cases e;obtain ⟨t,rfl⟩:=Value.isStrOf_shape (x:=s) (v:=v) hx;exact .cons s t (ZcP ss vs (by simpa using hl) fun j u hu=>h (j+1) u (by simpa using hu))
section
variable {X:Cx}
noncomputable def Zlu(P:Program)(w:World)(K:PySem.W.Frag):List V->Hp->VK->Prop:=fun xs H Q=>∃ a kvs ss,xs=[.ref a]/\Dk P w K H a kvs/\kvs.map (·.1)=ss.map Sum.inr/\ss.length<64/\∀ p ss',H p=none->ss'.Perm ss->sortedS ss'=true->Q (.ref p) (upd H p (.lst (ss'.map V.str)))
theorem Zgo (hc:X.A.handled=none):Zaa X (.builtin "sorted") (Zlu X.prog X.w X.K):=by
 intro pins s Z H xs us Q I r h;obtain ⟨a,kvs,ss,rfl,hd,hks,h64,q⟩:=h;obtain ⟨u,rfl,ru⟩:=vals1 r;cases ru;obtain ⟨z,hm,vs,rel,dd⟩:=I.dk hd;obtain ⟨ep,hat⟩:=dd.dictAt;have hl:vs.length=kvs.length:=(Paired.length rel).symm;have hl2:kvs.length=ss.length:=by
   have:=congrArg List.length hks;simpa using this
 have hkey:∀ (j:Nat) k x,vs[j]? = some (k,x)->∃ y,ss[j]? = some y/\k=Sum.inr y:=fun j k x e=>by
   have hj:j<vs.length:=(Ob.mp e).1;have h1:kvs[j]? = some kvs[j]:=Og (by lia);obtain ⟨u,hu,hu2⟩:=ZcQ rel h1;rw [e] at hu;cases hu;have h3:(kvs.map (·.1))[j]? = some kvs[j].1:=by rw [On,h1];rfl
   rw [hks,On] at h3;obtain ⟨y,hy,e3⟩:=Oo.mp h3;exact ⟨y,hy,hu2.1.symm.trans e3.symm⟩
 refine Zia (ss:=ss) (fun R hR=>ZhE (PySem.W.kdl_dict (knd:=Zz X.prog X.w) (kvs:=vs) (ep:=ep) hm) hc hat (by lia) fun h' tk acc hsz hk hacc=>?_) h64 fun D h' tk out ss' n hk hD ho hS hp hs=>?_
 . refine hR h' tk acc.toList hsz hk (ZcP (P:=X.prog) (w:=X.w) ss acc.toList (by rw [Array.length_toList,hacc.1];lia) fun j v hv=>?_);obtain ⟨k,x,e,hk2⟩:=hacc.2 j v (by rw [<- Array.getElem?_toList];exact hv);obtain ⟨y,hy,rfl⟩:=hkey j k x e;exact ⟨y,hy,hk2⟩
 . have hlen:ss'.length<=sizeLine:=by rw [hp.length_eq];lia
   refine ⟨.ref D,_,I.laid (a:=D) (o:=.lst (ss'.map V.str)) (t':=tk) hk hD ⟨by simpa using hlen,out,n,Z5 hS,ho⟩,rfl,q D ss' (I.hok.fresh hD) hp hs⟩
end
end L2
end
section
namespace L2
open PySem PySem.Spec PyProof.Rows
theorem Zcz:∀ {ns:List Int}{vs:List Value},Zh (ns.map V.int) vs->IntsAre vs ns
 | [],vs,h=>by cases h;exact .nil
 | s::ss,vs,h=>by
   rw [Op] at h;cases h with
   | cons h1 h2 =>
     obtain ⟨t,rfl⟩:=h1;exact .cons s t (Zcz h2)
noncomputable def Zdt(z:Str)(n:Nat):Str:=⟨(List.replicate n z.cps).foldl (·++·) #[]⟩
theorem ZeL(a:Array Nat):∀ (n:Nat) (i:Array Nat),((List.replicate n a).foldl (·++·) i).size=i.size+n * a.size
 | 0,i=>by simp
 | n+1,i=>by
   rw [List.replicate_succ,List.foldl_cons,ZeL a n (i++a),Array.size_append,Nat.succ_mul]
   lia
theorem Zc5(z:Str)(n:Nat):(Zdt z n).length=n * z.length:=by
 show ((List.replicate n z.cps).foldl (·++·) #[]).size=_;rw [ZeL];simp;rfl
section
variable {X:Cx}
theorem ZkR (hc:X.A.handled=none):Zaa X (.builtin "sum") (fun xs H Q=>∃ (a:Addr) (ns:List Int),xs=[.ref a]/\SqL X.K H a (ns.map V.int)/\Q (.int ns.sum) H):=by
 intro pins s Z H xs us Q I r h;obtain ⟨a,ns,rfl,hq,q⟩:=h;obtain ⟨u,rfl,ru⟩:=vals1 r;cases ru;obtain ⟨its,rv,pl,hz⟩:=I.list hq;have hi:=Zcz rv;obtain ⟨ys,e⟩:=hi.allInts.items;refine sum_intListG (xs:=ys) hc (by rw [<- e];exact pl.isList) fun h' tk t' hk=>?_;refine ⟨.int ns.sum,H,I.kept (t':=tk) hk,⟨t',?_⟩,q⟩;have e2:=hi.numsOf;have e3:numsOf (intItems ys).toList=ns:=by rw [<- e];exact e2
 rw [nums_intItems] at e3;rw [preSum_eq,List.take_of_length_le (by simp),e3]
theorem Zn7:OpR X (binaryOp .Mult) (fun x y H Q=>∃ z n,x=.str z/\y=.int n/\0<=n/\n<=1000/\z.length<=1000/\Q (.str (Zdt z n.toNat)) H):=by
 intro pins s Z H x y v u Q I rx ry h;obtain ⟨z,n,rfl,rfl,h0,h1,h2,q⟩:=h;obtain ⟨t,rfl⟩:=rx;obtain ⟨t2,rfl⟩:=ry;have hl:z.length * n.toNat<=1000000:=Nat.mul_le_mul h2 (by lia:n.toNat<=1000);have hs:(1000000:Nat)<=sizeLine:=by decide
 refine PySem.P.mul_str (by rw [decide_eq_false (by lia:¬ n < -(2 ^ 63:Int)),decide_eq_false (by lia:¬ n ≥ 2 ^ 63)]<;>rfl) (fun _ _=>?_) (fun _ _=>?_) ?_
 . have h3:1<=n:=by lia
   have h4:(9223372036854775807:Int) / n ≥ 1000:=by
     have:1000<=9223372036854775807 / n:=(Int.le_ediv_iff_mul_le (by lia)).mpr (by lia);exact this
   show ¬ ((z.length:Int) > (2 ^ 63 - 1) / n);rw [show (2 ^ 63 - 1:Int)=9223372036854775807 by decide]
   lia
 . unfold Builtin.Str.tooLong;exact decide_eq_false (by lia)
 . by_cases hn:n<1
   . rw [if_pos hn];refine ⟨by decide,.str _,H,I.tok _,⟨_,rfl⟩,?_⟩;rw [show n.toNat=0 by lia] at q;exact q
   . rw [if_neg hn];by_cases h5:(n==1 || z.length==0)=true
     . rw [if_pos h5];refine ⟨.str _,H,I,⟨_,rfl⟩,?_⟩;have e:Zdt z n.toNat=z:=by
         rw [Bool.or_eq_true] at h5;rcases h5 with h5|h5
         . have e1:n.toNat=1:=by have:=eq_of_beq h5;lia
           rw [e1];unfold Zdt;simp
         . have e1:z.length=0:=eq_of_beq h5;have e2:(Zdt z n.toNat).length=0:=by rw [Zc5,e1];simp
           have f:∀ y:Str,y.length=0->y=⟨#[]⟩:=fun y hy=>by
             cases y with|mk c=>rw [show c=#[] from Array.eq_empty_of_size_eq_zero hy]
           exact (f _ e2).trans (f z e1).symm
       rw [e] at q;exact q
     . rw [if_neg h5];refine ⟨?_,.str _,H,I.tok _,⟨_,rfl⟩,q⟩;show (Zdt z n.toNat).length<=sizeLine;rw [Zc5,Nat.mul_comm]
       lia
end
end L2
end
section
namespace L2
open PySem PySem.Spec PyProof.Rows
section
variable {X:Cx}
theorem Zf7(hi:i.natAbs<2 ^ 2000)(hj:j.natAbs<2 ^ 2000):IntMulOk i j:=by
 have bits:∀ k:Int,k.natAbs<2 ^ 2000->Builtin.Int.intBits k<=2000:=fun k hk=>by
   unfold Builtin.Int.intBits;split
   . lia
   . rename_i h;have h0:k.natAbs≠0:=by simpa using h
     have:=(Nat.log2_lt h0).mpr hk
     lia
 unfold IntMulOk;have h1:=bits i hi;have h2:=bits j hj;have h3:Builtin.Int.intTooBig (Builtin.Int.intBits i+Builtin.Int.intBits j:Nat)=false:=by
   unfold Builtin.Int.intTooBig;rw [decide_eq_false_iff_not];have:(bitsLine:Nat)=134217728:=by decide
   rw [this]
   lia
 intro q;simp only [Oa] at q;have q2:=q.2;rw [show ((Builtin.Int.intBits i:Int)+(Builtin.Int.intBits j:Int))=((Builtin.Int.intBits i+Builtin.Int.intBits j:Nat):Int) by simp] at q2;rw [h3] at q2;cases q2
theorem Zkv:OpR X (binaryOp .Mult) (rI (fun i j=>i.natAbs<2 ^ 2000/\j.natAbs<2 ^ 2000) fun i j=>.int (i * j)):=opI fun _ _ _ _ _ _ _ hc q=>mul_int q (Zf7 hc.1 hc.2)
noncomputable def ZsL(K:PySem.W.Frag):R2:=fun x y H Q=>∃ a b ys,x=.ref a/\y=.ref b/\SqT K H a []/\SqT K H b ys/\Q (.ref b) H
theorem Zoa:OpR X (binaryOp .Add) (ZsL X.K):=by
 intro pins s Z H x y v u Q I rx ry h;obtain ⟨a,b,ys,rfl,rfl,ha,hb,q⟩:=h;cases rx;cases ry;obtain ⟨its,r1,ht,_⟩:=I.tuple ha;obtain ⟨its2,r2,hb,_⟩:=I.tuple hb;cases r1;obtain ⟨⟨cls,dd,data,sl⟩,ho,hc,n,hd⟩:=id ht;obtain ⟨⟨cls2,dd2,data2,sl2⟩,ho2,hc2,n2,hd2⟩:=id hb;simp only at hc hd hc2 hd2;subst hc hd hc2 hd2;exact concat_meets ⟨_,ho,rfl⟩ ⟨_,ho2,rfl⟩ noFill_tuple_add seq_tuple_add PySem.F.slot_tuple_add PySem.F.entry_tuple_add (PySem.F.args_tuple_add_2 _ _)
     (tuple_addW0 a b _ _ n n2 dd dd2 sl sl2 (by simp)) ⟨ho,ho2,⟨.ref b,H,I,rfl,q⟩⟩
end
end L2
namespace HT
open PySem PyProof.Rows
section
variable {prog:Program}{w:World}{A:Around}{E:Value->Shared->Prop}{s:Shared}
theorem Zcy{t sl:Addr}{items:Array Value}{lo hi:Option Int}{Q:Value->Shared->Prop}(ht:IsTup s.heap t items)(hs:s.heap.IsSliceOf sl vl vu .none)(pl:IsPart vl lo)(pu:IsPart vu hi)
   (hw:sIx items.size 0 lo=0/\sIx items.size items.size hi=items.size) (h:Q (.ref t) s):wpAny (model prog w) A (getItem (.ref t) (.ref sl)) Q E s:=by
 obtain ⟨os,hos,hcs,hds⟩:=id hs;have hTs:s.TypeIs (.ref sl) "slice" := ⟨os,hos,hcs⟩
 unfold getItem
 try with_reducible refine wpAny_holding ?_
 first|refine wpAny_bind (wpAny_pure ?_)|skip
 refine wpAny_bind (wpAny_sequenceKey ht.typeIs (by decide) ?_);refine wpAny_bind (wpAny_callSpecial?_slot (name:=O "__getitem__") ht.typeIs PyProof.Rows.slot_tuple_getitem
   (wpAny_call_entry PyProof.Rows.slot_tuple_getitem ht.typeIs entry_tuple_getitem ?_ (args_tuple_getitem _ _)))
 show wpAny _ _ (Builtin.Tuple.tupleItemsOf (.ref t) >>= _) _ _ s;refine wpAny_bind (tupleItemsOf_ ht ?_);refine wpAny_bind (wpAny_typeOf hTs ?_);rw [if_pos (by decide)];refine wpAny_bind (Zby hs pl pu ?_);have hyes:(((sIx items.size 0 lo:Nat):Int)==0&&(1:Int)==1&&(sIx items.size items.size hi - sIx items.size 0 lo)==items.size)=true:=by
   rw [hw.1,hw.2];simp
 show wpAny _ _ (if (((sIx items.size 0 lo:Nat):Int)==0&&(1:Int)==1&&(sIx items.size items.size hi - sIx items.size 0 lo)==items.size)=true then _ else _) _ _ s;rw [if_pos hyes];unfold Builtin.Tuple.tupleIsExact;refine wpAny_bind (wpAny_bind (wpAny_typeOf ht.typeIs (wpAny_pure ?_)));rw [if_pos (by decide)];exact wpAny_bind (wpAny_rule (wpAny_pure ⟨_,rfl,wpAny_pure h⟩))
end
end HT
namespace L2
open PySem PySem.Spec PyProof.Rows
section
variable {X:Cx}
noncomputable def Zuy(K:PySem.W.Frag):V->Option Int->Option Int->Hp->VK->Prop:=fun x lo hi H Q=>∃ a xs,x=.ref a/\SqT K H a xs /\
 (HT.sIx xs.length 0 lo=0/\HT.sIx xs.length xs.length hi=xs.length)/\Q (.ref a) H
theorem Zlf:SlR X (Zuy X.K):=by
 intro pins s Z H x v vl vu lo hi sl Q I rx hs pl pu h;obtain ⟨a,xs,rfl,hx,hw,q⟩:=h;cases rx;obtain ⟨its,r,ht,hz⟩:=I.tuple hx;have hlen:its.toArray.size=xs.length:=by rw [Of];exact r.length.symm
 refine ⟨"tuple",_,PyProof.Rows.slot_tuple_getitem.lookup,ht.typeIs,?_⟩;exact HT.Zcy ht hs pl pu (by rw [hlen];exact hw) ⟨.ref a,H,I,rfl,q⟩
end
end L2
end
section
set_option tactic.hygienic false
namespace L2
open PySem PySem.Spec PyProof.Rows
noncomputable def Ztg:List Int->Int->Int
 | [],d=>d
 | x::r,_=>r.foldl (fun m y=>if y > m then y else m) x
end L2
end
section
namespace L2
open PySem PySem.Spec PyProof PyProof.Rows PySem.AutoSeq1
set_option maxRecDepth 8000 in
theorem ZiK(l:Addr)(items:Array Value)(n:Nat)(b:Addr)(items2:Array Value)(n2:Nat)(od:Option Addr)(sl:Array (Option Value))(hs0:¬(!items.isEmpty&&Builtin.List.listTooLong (items.size+items2.size))=true)(hs1:items.size<=sizeLine)(hs2:items.size+items2.size<=sizeLine+1) :
   Meets (Builtin.«list.extend» ⟨[.ref l,.ref b],[]⟩) (fun _ R s=>s.heap.get? l=some {cls:=.type "list",dict:=none,data:=.seq items n,slots:=#[]}/\s.heap.get? b=some {cls:=.type "tuple",dict:=od,data:=.seq items2 n2,slots:=sl}/\R (.ok (.ret Value.none)) {s with heap:=s.heap.update l (Obj.mapSeq fun x=>x++items2),toks:=s.toks}) :=
 .of_wp fun prog w A R s h=>by
   obtain ⟨hp,g,d,tk,os⟩:=s;obtain ⟨hl,hb,h⟩:=h;have f1:=idx_int;have f2:=AutoSeq1.sub_tuple_tuple;have f3:=AutoSeq1.sub_list_list;have f4:=AutoSeq1.sub_tuple_list;have f5:=AutoSeq1.sub_list_tuple;have hz':(items++items2).size<=sizeLine+1:=by rw [Array.size_append];exact hs2
   wp_walk using (wpAny_updateSeq hl rfl (hz:=hs1) (_hz':=hz')),wpAny_loadPart' hl,wpAny_loadPart' hb;exact ⟨_,rfl,h⟩
section
variable {X:Cx}
noncomputable def Zlw(K:PySem.W.Frag):V->List V->Hp->VK->Prop:=fun x vs H Q=>∃ l b xs zs,x=.ref l/\vs=[.ref b]/\H l=some (.lst xs)/\SqT K H b zs/\xs.length+zs.length<=sizeLine/\Q .non (upd H l (.lst (xs++zs)))
theorem Zir:MtM X "list.extend" (Zlw X.K):=by
 intro pins s Z H x vs v us Q I rx rv h;obtain ⟨l,b,xs,zs,rfl,rfl,hH,hB,hz,q⟩:=h;cases rx;obtain ⟨u,rfl,ru⟩:=rv.one;cases ru;obtain ⟨z,its,n,r,hl,e⟩:=I.lstM hH;obtain ⟨its2,r2,⟨o,e2,oc,n2,od⟩,z2⟩:=I.tuple hB;obtain ⟨cls,dc,dat,sl⟩:=o;simp only at oc od;subst oc;subst od;have hl2:=r2.length;have hsz:its.toArray.size+its2.toArray.size<=sizeLine:=by rw [Of,Of];lia
 have hlong:¬ (!its.toArray.isEmpty&&Builtin.List.listTooLong (its.toArray.size+its2.toArray.size))=true:=by
   rw [Zg7 hsz,Bool.and_false];exact Ow
 refine call_meets F.slot_list_extend ⟨_,e,rfl⟩ F.entry_list_extend (F.args_list_extend_2 _ _)
   (ZiK l its.toArray n b its2.toArray n2 dc sl hlong (by rw [Of];lia) (by lia)) ⟨e,e2,?_⟩
 refine ⟨.non,_,I.lset (its':=its++its2) hH e (by simp) (r.append r2) ?_,rfl,q⟩;rw [OA]
 lia
end
end L2
end
section
namespace L2
open PySem PySem.Spec PyProof.Rows
noncomputable def ZrY(K:PySem.W.Frag)(a:Addr)(n:Nat):It :=
 ⟨fun i H=>∃ xs x,SqL K H a xs/\xs.length=n/\xs.reverse[i]? = some x,fun i H x H'=>H'=H/\∀ xs,SqL K H a xs->xs.reverse[i]? = some x,fun i H=>∃ xs,SqL K H a xs/\xs.length=n/\n=i⟩
theorem Zkb{P:Program}{w:World}{K:PySem.W.Frag}{tg:Expr}(a it:Addr)(n:Nat):Turn P w K tg (ZrY K a n) [it] it (fun i h=>i<=n/\h.IsRevIter it a ((n:Int) - 1 - i)) where
 mem:=by simp
 obj:=fun i h st b hb=>by
   have e:b=it:=by simpa using hb
   subst e;obtain ⟨_,o,e,c,d⟩:=st;exact ⟨o,e,fun v z=>by rw [d] at z;cases z⟩
 keep:=fun i h h' st k=>⟨st.1,st.2.at fun o e=>k it (by simp) o e⟩
 item:=by
   intro X hP hw hK hc i pins s Z H E I hf st hg;subst hP hw hK;obtain ⟨hin,st⟩:=st;obtain ⟨xs,x,hq,hxn,hx⟩:=hg;obtain ⟨its,rv,p,hz⟩:=I.list hq;have hl:=rv.length;have hi:i<xs.length:=by
     have:=(Ob.mp hx).1;simpa using this
   have hx':xs[n - 1 - i]? = some x:=by
     rw [List.getElem?_reverse hi] at hx;rw [<- hxn];exact hx
   obtain ⟨u,hu,ru⟩:=rv.get hx';obtain ⟨f0,f1,f2,f3,f4,f5⟩:=hf it (by simp);have e1:(n:Int) - 1 - (i:Nat)=((n - 1 - i:Nat):Int):=by lia
   rw [e1] at st;refine wpAny_pyNext_rev_item st p.isList (x:=u) (by simpa using hu) fun h' st' sb=>?_;have I1:Inv X pins Z H {s with heap:=h'}:=I.turned (t':=s.toks) (fun b o hb e=>(sb.2 b hb).trans e) f0 f1 f3 f4 f5;obtain ⟨o,e,c,d⟩:=id st';have e2:((n - 1 - i:Nat):Int) - 1=(n:Int) - 1 - ((i+1:Nat):Int):=by lia
   exact ⟨u,rfl,ZfB (s:={s with heap:=h'}) e c d (by decide) ⟨x,H,I1,ru,⟨rfl,fun ys hy=>by rw [I.list_inj hy hq];exact hx⟩,⟨by lia,by rw [<- e2];exact st'⟩,fun b hb=>(hf b hb).1⟩⟩
 done:=by
   intro X hP hw hK hc i pins s Z H E I hf st hg;subst hP hw hK;obtain ⟨xs,hq,hxn,hx⟩:=hg;obtain ⟨f0,f1,f2,f3,f4,f5⟩:=hf it (by simp);have st1:=st.2;rw [show (n:Int) - 1 - (i:Nat)=-1 by lia] at st1;exact wpAny_pyNext_rev_end (I.ok.hd hc) st1 fun h' eb=>⟨rfl,I.turned (t':=s.toks) (fun b o hb e=>eb b o hb e) f0 f1 f3 f4 f5⟩
 self:=fun _ _ _ _ _ st h=>wpAny_pyIter_revIter st.2 h
noncomputable def Ztw(K:PySem.W.Frag)(ta:TA):TI:=fun Z H R=>ta Z H fun vs H1=>∃ a xs,vs=[.ref a]/\((SqT K H1 a xs/\R (Itv K a xs.length) H1)\/(SqL K H1 a xs/\R (ZrY K a xs.length) H1))
theorem ZnV {X:Cx}{tg l:Expr}{ta:TA}{p pos:Pos} (hg:Gl X "reversed") (hm:X.mg "reversed" = none) (ha:PA X [l] ta) (hs:starEach [l] X.env=[(false,eval l X.env)]:=by rfl) :
   PI X tg (.Call (.Name "reversed" p) [l] [] pos) (Ztw X.K ta):=by
 intro pins s Z H R I h;refine Call_ (Zbt I hg hm boot_reversed (PyProof.Rows.callWith_type1 (thn (ha pos pins s Z H _ I h) fun us s1 ⟨vs,H1,I1,r1,q1⟩=>?_) hs rfl));obtain ⟨a,xs,rfl,q⟩:=q1;obtain ⟨u,rfl,ru⟩:=vals1 r1;obtain rfl:u=Value.ref a:=ru;rcases q with ⟨hq,q⟩|⟨hq,q⟩
 . obtain ⟨its,rv,pl,hz⟩:=I1.tuple hq;have hl:=rv.length;refine Rv.call pl (by simp;lia) ?_;have e1:((its.toArray.size:Nat):Int) - 1=(xs.length:Int) - 1 - ((0:Nat):Int):=by simp;lia
   have st:Rv.Is (s1.heap.push (Rv.obj a (((its.toArray.size:Nat):Int) - 1))) s1.heap.objs.size a ((xs.length:Int) - 1 - ((0:Nat):Int)):=⟨_,Oj _ rfl,rfl,by rw [<- e1];rfl⟩
   refine Rv.ZdA st ?_;refine ⟨s1.heap.objs.size,[s1.heap.objs.size],_,_,H1,rfl,I1.kept (t':=s1.toks+1+1) fun b o e=>Od _ e,Zk5 a _ xs.length,⟨Nat.zero_le _,st⟩,fun b hb=>?_,q⟩;have e:b=s1.heap.objs.size:=by simpa using hb
   subst e;exact I1.fpOk (Oq _) (I1.hok.fresh (Oq _))
 . obtain ⟨its,rv,pl,hz⟩:=I1.list hq;have hl:=rv.length;refine call_reversed_list pl.isList ?_;have e1:((its.toArray.size:Nat):Int) - 1=(xs.length:Int) - 1 - ((0:Nat):Int):=by simp;lia
   have st:(s1.heap.push (revObj a (((its.toArray.size:Nat):Int) - 1))).IsRevIter s1.heap.objs.size a ((xs.length:Int) - 1 - ((0:Nat):Int)):=⟨_,Oj _ rfl,rfl,by rw [<- e1];rfl⟩
   refine wpAny_pyIter_revIter st ?_;refine ⟨s1.heap.objs.size,[s1.heap.objs.size],_,_,H1,rfl,I1.kept (t':=s1.toks) fun b o e=>Od _ e,Zkb a _ xs.length,⟨Nat.zero_le _,st⟩,fun b hb=>?_,q⟩;have e:b=s1.heap.objs.size:=by simpa using hb
   subst e;exact I1.fpOk (Oq _) (I1.hok.fresh (Oq _))
end L2
end
section
set_option tactic.hygienic false
namespace L2
open PySem PySem.Spec PyProof.Rows
namespace Rv
theorem Zrn:Slot "reversed" "__length_hint__" "reversed.__length_hint__" :=
 .of (owner := "reversed") (n := "__length_hint__") (by rw [typeLookup_type,builtinLookup_eq_fast]<;>kernel_rfl) (by decide +kernel) (by decide +kernel) (by decide +kernel) (by first|exact .inl (by decide +kernel)|exact .inr (by decide +kernel)) (by rw [isSubtype_type]<;>kernel_rfl)
theorem ZtK:entryFor table "reversed.__length_hint__" = some Builtin.«reversed.__length_hint__»:=entryFor_of_tree (by kernel_rfl)
theorem ZtU (a:Value):argsOk "reversed.__length_hint__" ⟨[a],[]⟩:=by
 unfold argsOk;rw [signature?_of (id := "reversed.__length_hint__") (n:=['_','_','t','n','i','h','_','h','t','g','n','e','l','_','_']) (o:=['d','e','s','r','e','v','e','r']) (by kernel_rfl) own];kernel_rfl
theorem Zs8:typeLookup (.type "reversed") "__len__" = pure none:=by rw [typeLookup_type,builtinLookup_eq_fast]<;>kernel_rfl
section
variable {prog:Program}{w:World}{A:Around}{E:Value->Shared->Prop}{s:Shared}
theorem walks(hh:A.handled=none)(I l:Addr)(hne:l≠I)(items:Array Value)(hz:items.size<=sizeLine) :
   Walks prog w A I [I,l] [I] items.size (fun i v=>items[items.size - 1 - i]? = some v) (fun i h=>i<=items.size/\Is h I l ((items.size:Int) - 1 - (i:Int))/\IsTup h l items) where
 sub:=fun b hb=>by simp at hb;simp [hb]
 frame:=fun _ _ _ x hk=>⟨x.1,x.2.1.at fun o e=>hk I (by simp) o e,let ⟨o,e,r⟩:=x.2.2;⟨o,hk l (by simp) o e,r⟩⟩
 item:=fun i s Q E hi x hQ=>by
   have hit:=x.2.1;rw [show (items.size:Int) - 1 - (i:Int)=((items.size - 1 - i:Nat):Int) by lia] at hit;have hx:items[items.size - 1 - i]? = some (items[items.size - 1 - i]'(by lia)):=Array.getElem?_eq_getElem (by lia);refine next_item hit x.2.2 hz hx fun h' t' hit' hs'=>?_;rw [show ((items.size - 1 - i:Nat):Int) - 1=(items.size:Int) - 1 - ((i+1:Nat):Int) by lia] at hit';exact hQ _ h' t' hx ⟨hi,hit',let ⟨o,e,r⟩:=x.2.2;⟨o,(hs'.2 l hne).trans e,r⟩⟩ fun b o hb eo=>hs'.extBut b o (fun h=>hb (by simp [h])) eo
 done:=fun s Q E x hQ=>by
   have hit:=x.2.1;rw [show (items.size:Int) - 1 - (items.size:Int)=-1 by lia] at hit;exact next_end hh hit fun h' he'=>hQ h' s.toks fun b o hb eo=>he' b o (fun h=>hb (by simp [h])) eo
 self:=fun _ _ _ _ x hQ=>ZdA x.2.1 hQ
theorem ZoG(hit:Is s.heap it l ((items.size:Int) - 1))(hl:IsTup s.heap l items)(hz:items.size<=sizeLine)
   (hQ:∀ u tk,s.toks<=tk->Q (.int (items.size:Int) u) {s with toks:=tk}):wpAny (model prog w) A (PySem.call (.builtin "reversed.__length_hint__") [.ref it]) Q E s:=by
 have hfit:(items.size:Int)<2 ^ 63:=by have:=ZaT;lia
 obtain ⟨o,ho,hc,hd⟩:=id hit;refine wpAny_call_entry Zrn hit.typeIs ZtK ?_ (ZtU _);unfold Builtin.«reversed.__length_hint__»;refine wpAny_bind (wpAny_of_eq (a:=Value.ref it) rfl ?_);refine wpAny_bind (wpAny_field ho hd (x:=.ref l) rfl ?_);rw [if_neg (by simp)];refine wpAny_bind (len_tuple hl hfit ?_);refine wpAny_bind (m:=asInt? (.int _ _)) (wpAny_pure ?_);dsimp only;refine wpAny_bind (wpAny_field ho hd (x:=rawInt ((items.size:Int) - 1)) rfl ?_);show wpAny _ _ (if (items.size:Int)<(items.size:Int) - 1+1 then _ else _) _ _ _;rw [if_neg (by lia),show (items.size:Int) - 1+1=items.size by lia];unfold retInt;refine wpAny_bind (wpAny_mkInt ?_);exact wpAny_pure ⟨_,rfl,hQ _ _ (by simp only;lia)⟩
theorem Zrm:typeLookup (.type "reversed") "__length_hint__" = pure (some (.builtin "reversed.__length_hint__")):=Zrn.lookup
theorem collects(hh:A.handled=none)(hit:Is s.heap I l ((items.size:Int) - 1))(hl:IsTup s.heap l items)(hne:l≠I)(hz:items.size<=sizeLine)(h0:0<items.size)
   (hQ:∀ s' acc,Moved [I] (fun a b=>b=a) s s'->ItemsOf (fun i v=>items[items.size - 1 - i]? = some v) acc items.size->Q acc.toList s'):wpAny (model prog w) A (collect (.ref I)) Q E s:=by
 have W:=(walks (prog:=prog) (w:=w) (A:=A.in1) hh I l hne items hz).toS;have hst:0<=items.size/\Is s.heap I l ((items.size:Int) - 1 - ((0:Nat):Int))/\IsTup s.heap l items:=⟨Nat.zero_le _,by simpa using hit,hl⟩
 have hfp:∀ b∈[I,l],b<s.heap.objs.size:=fun b hb=>by
   rcases O2.mp hb with rfl|hb
   . obtain ⟨o,ho,_⟩:=hit;exact Heap.lt_size ho
   . rw [Ox.mp hb];obtain ⟨o,ho,_⟩:=hl;exact Heap.lt_size ho
 have hSf:s.heap.objs.size ∉ [I,l]:=fun hm=>absurd (hfp _ hm) (Nat.lt_irrefl _);have hSI:s.heap.objs.size≠I:=fun e=>hSf (by rw [e];simp);unfold collect;refine wpAny_bind (wpAny_runValue ?_);refine codeAny_builtin F.entry_proto_collect ?_;rw [Around.under_plainId F.plain_proto_collect _];show wpAny _ A.in1 (newList [] >>= fun k=>again (.builtin "list.__iadd__" ⟨[k,.ref I],[]⟩)) _ _ s;refine wpAny_bind (wpAny_newObj_type (wpAny_pure ⟨plainId_quiet F.plain_list_iadd _,?_⟩));refine codeAny_builtin F.entry_list_iadd ?_;rw [Around.under_plainId F.plain_list_iadd _];generalize hob:({cls:=.type "list",data:=.seq ([]:List Value).toArray}:Obj)=ob;have hst1:=W.frame 0 s (s.heap.push ob) s.toks hst (Oq _) fun b _ o e=>Od _ e;have hS1:(s.heap.push ob).get? s.heap.objs.size=some ob:=Oj _ (by rw [<- hob];rfl);have e1:Builtin.List.listSameRef (.ref s.heap.objs.size) (.ref I)=false:=by simp [Builtin.List.listSameRef,hSI]
 have hT:Shared.TypeIs {s with heap:=s.heap.push ob} (.ref I) "reversed" := hst1.2.1.typeIs;show wpAny _ A.in1 (Builtin.List.listExtendWith (.ref s.heap.objs.size) (.ref I) (.ref s.heap.objs.size)) _ _ _;unfold Builtin.List.listExtendWith;refine wpAny_bind (wpAny_typeOf hT ?_);rw [if_neg (by rw [e1];decide)];refine wpAny_bind (W.self 0 _ _ _ hst1 (wpAny_bind (wpAny_holding ?_)));unfold Builtin.List.listLengthHint;refine wpAny_bind (wpAny_specialOf hT Zs8 ?_);show wpAny _ A.in1 (specialOf (Value.ref I) (O "__length_hint__") >>= _) _ _ _;refine wpAny_bind (wpAny_specialOf hT Zrm ?_);have hsp:splitId "reversed.__length_hint__" = some ("reversed", "__length_hint__"):=by decide +kernel
 dsimp only;rw [hsp];dsimp only;refine wpAny_bind (wpAny_isInstance (b:=true) hT Zjb ?_);rw [if_neg (by decide),if_neg (by decide +kernel)];refine wpAny_bind (wpAny_rule (wpAny_bind (wpAny_of_eq (Zrn.bind _) ?_)));dsimp only;refine wpAny_bind (wpAny_attempt (ZoG (by simpa using hst1.2.1) hst1.2.2 hz fun u tk htk=>?_));dsimp only;have ea:asInt? (Value.int (items.size:Int) u)=pure (some (items.size:Int)):=rfl;rw [ea];clear ea;generalize hk:(items.size:Int)=kk;refine wpAny_bind ?_;refine wpAny_pure ?_;dsimp only;have l1:Builtin.List.listFitsIndex kk=true:=by
   have:=ZaT;unfold Builtin.List.listFitsIndex;rw [Oa,decide_eq_true_iff,decide_eq_true_iff]
   lia
 have l2:Builtin.List.listTooLong kk.toNat=false:=by
   unfold Builtin.List.listTooLong;rw [decide_eq_false_iff_not]
   lia
 rw [if_neg (by rw [l1];decide),if_neg (by lia),if_neg (by rw [l2];decide)];refine wpAny_pure ?_;rw [if_pos (by rw [Bool.or_eq_true];left;rw [bne_iff_ne];lia)];subst hob;refine wpAny_bind (wpAny_rule (wpAny_bind ?_));show wpAny _ A.in1 (updateSeq s.heap.objs.size (·.push .none) >>= fun _=>updateSeq s.heap.objs.size (·.pop)) _ _ _;refine wpAny_bind (wpAny_updateSeq hS1 rfl ?_);have hS2:=Heap.get?_update_self (Obj.mapSeq (·.push Value.none)) hS1 rfl;refine wpAny_updateSeq hS2 rfl ?_;have hS3:=Heap.get?_update_self (Obj.mapSeq (·.pop)) hS2 rfl;generalize hob:({cls:=.type "list",data:=.seq ([]:List Value).toArray}:Obj)=ob at *;have oth:∀ b o,b≠s.heap.objs.size->(s.heap.push ob).get? b=some o->(((s.heap.push ob).update s.heap.objs.size (Obj.mapSeq (·.push Value.none))).update s.heap.objs.size (Obj.mapSeq (·.pop))).get? b=some o :=
   fun b o hb e=>(Heap.get?_update_other _ _ (Ne.symm hb)).trans ((Heap.get?_update_other _ _ (Ne.symm hb)).trans e)
 have hst2:=W.frame 0 ({s with heap:=s.heap.push ob}:Shared) _ tk hst1 htk fun b hb o e=>oth b o (fun h=>hSf (h ▸ hb)) e;obtain ⟨c,hS4⟩:∃ c,(((s.heap.push ob).update s.heap.objs.size (Obj.mapSeq (·.push Value.none))).update s.heap.objs.size (Obj.mapSeq (·.pop))).get? s.heap.objs.size=some {cls:=.type "list",dict:=none,data:=.seq #[] c,slots:=#[]}:=by
   subst hob;exact ⟨_,hS3⟩
 refine wpAny_pure ⟨plainId_quiet F.plain_extend_loop _,?_⟩;refine codeAny_extend_loopS W hz _ hSf _ items.size 0 _ #[] _ rfl (Nat.zero_le _) hst2 hS4 (ItemsOf.nil _) fun s' acc' c' hm hS' hacc=>?_;show wpAny _ A (load s.heap.objs.size >>= _) _ _ s';refine wpAny_bind (wpAny_load hS' (wpAny_pure (hQ s' acc' ?_ hacc)));refine Moved.drop_new (o:=ob) (tk:=tk) (Moved.trans W.gtrans ?_ hm) htk;exact ⟨fun b o hb e=>oth b o (fun h=>hb (h ▸ Oi)) e,rfl,rfl,rfl,Oq _⟩
theorem ZpX(hh:A.handled=none)(hit:Is s.heap I l ((items.size:Int) - 1))(hl:IsTup s.heap l items)(hne:l≠I)(hz:items.size<=sizeLine)(h0:0<items.size)
   (h:∀ s' acc,Moved [I] (fun a b=>b=a) s s'->ItemsOf (fun i v=>items[items.size - 1 - i]? = some v) acc items.size->Q (.ref s'.heap.objs.size) {s' with heap:=s'.heap.push {cls:=.type "tuple",data:=.seq acc}}) :
   codeAny (model prog w) A (.call (.builtin "tuple.__new__") ⟨[.type "tuple",.ref I],[]⟩) (wants Q E) s:=by
 refine codeAny_of_tree ?_;show wpAny _ A.in1 (checkBuiltinCall "tuple.__new__" ⟨[.type "tuple",.ref I],[]⟩ >>= fun _=>again (.builtin "tuple.__new__" ⟨[.type "tuple",.ref I],[]⟩)) _ _ s;refine wpAny_bind (wpAny_of_eq (F.newCall_tuple_1 _) (wpAny_pure ⟨plainId_quiet F.plain_tuple_new _,?_⟩));refine codeAny_builtin F.entry_tuple_new ?_;rw [Around.under_plainId F.plain_tuple_new _];have hsub:=sub_tuple_self;have hinit:=init_tuple_lookup;have hmh:=madeHere_tuple;have hTI:=hit.typeIs
 wp_walk using wpAny_typeOf hTI,collects (A:=A.in1) hh hit hl hne hz h0
 intro s' acc hm hacc;show wpAny _ _ (Builtin.Tuple.tupleExact acc.toList.toArray >>= fun v=>ret v) _ _ _;have e:acc.toList.toArray=acc:=by simp
 rw [e];unfold Builtin.Tuple.tupleExact;refine wpAny_bind (wpAny_newObj_type (wpAny_pure (h s' acc hm hacc)) (by show acc.size<=sizeLine;rw [hacc.1];exact hz))
theorem Znk(hh:A.handled=none)(hit:Is s.heap I l ((items.size:Int) - 1))(hl:IsTup s.heap l items)(hne:l≠I)(hz:items.size<=sizeLine)(h0:0<items.size)
   (h:∀ s' acc,Moved [I] (fun a b=>b=a) s s'->ItemsOf (fun i v=>items[items.size - 1 - i]? = some v) acc items.size->Q (.ref s'.heap.objs.size) {s' with heap:=s'.heap.push {cls:=.type "tuple",data:=.seq acc}}) :
   wpAny (model prog w) A (PySem.call (.type "tuple") [.ref I]) Q E s:=by
 refine callType_codes (Q₁:=fun obj s1=>s1.TypeIs obj "tuple" /\ Q obj s1) F.called_tuple (F.typeCall_tuple_1 _) F.entry_object_init (ZpX hh hit hl hne hz h0 fun s' acc hm hacc=>⟨⟨_,Oj _ rfl,rfl⟩,h s' acc hm hacc⟩) fun obj s1 h1=>?_;exact ⟨h1.1,F.args_object_init_2 obj _,object_init_meets F.called_tuple.init.lookup F.called_tuple.made (by decide) prog w A.in1 _ s1 ⟨h1.1,rfl,h1.2⟩⟩
end
end Rv
noncomputable def Znr(K:PySem.W.Frag)(ta:TA):TE:=fun Z H Q=>ta Z H fun vs H1=>∃ a xs,vs=[.ref a]/\SqT K H1 a xs/\xs≠[]/\∀ p,H1 p=none->Q (.ref p) (upd H1 p (.tup xs.reverse))
theorem Zks (hc:X.calm=true) (hgT:Gl X "tuple") (hmT:X.mg "tuple" = none) (hgR:Gl X "reversed") (hmR:X.mg "reversed" = none) (ha:PA X [l] ta)
   (hs:starEach [l] X.env=[(false,eval l X.env)]:=by rfl):PE X (.Call (.Name "tuple" p) [.Call (.Name "reversed" p2) [l] [] pos2] [] pos) (Znr X.K ta):=by
 intro pins s Z H Q I h;refine Call_ (Zbt I hgT hmT boot_tuple (PyProof.Rows.callWith_type1 ?_ rfl rfl));show wpAny _ _ (spliced ((false,eval (.Call (.Name "reversed" p2) [l] [] pos2) X.env)::[])) _ _ s;refine Calls.spliced_cons ?_;refine Call_ (Zbt I hgR hmR boot_reversed (PyProof.Rows.callWith_type1 (thn (ha pos2 pins s Z H _ I h) fun us s1 ⟨vs,H1,I1,r1,q1⟩=>?_) hs rfl));obtain ⟨a,xs,rfl,hq,hx0,q⟩:=q1;obtain ⟨u,rfl,ru⟩:=vals1 r1;obtain rfl:u=Value.ref a:=ru;obtain ⟨its,rv,pl,hz⟩:=I1.tuple hq;have hln:=rv.length;have hpos:0<its.toArray.size:=by
   cases xs with
   | nil=>exact absurd rfl hx0
   | cons x r=>simp at hln ⊢;lia
 have hzz:its.toArray.size<=sizeLine:=by simp;lia
 refine Rv.call pl hzz (Calls.spliced_nil ?_);have hlt:a<s1.heap.objs.size:=by obtain ⟨o,ho,_⟩:=pl;exact Heap.lt_size ho
 refine Rv.Znk (I.ok.hd hc) (l:=a) (items:=its.toArray) ⟨_,Oj _ rfl,rfl,rfl⟩ (pl.push _) (Ou hlt) hzz hpos fun s' acc hm hacc=>?_;obtain ⟨hk,hg,hd,ho,ht⟩:=hm;have kp:∀ b o,s1.heap.get? b=some o->s'.heap.get? b=some o:=fun b o e=>hk b o (fun hb=>by
   rw [Ox.mp hb] at e;exact absurd (Heap.lt_size e) (Nat.lt_irrefl _)) (Od _ e)
 have es:s'={s1 with heap:=s'.heap,toks:=s'.toks}:=by
   obtain ⟨a1,a2,a3,a4,a5⟩:=s';simp only at hg hd ho;simp only [hg,hd,ho]
 have ea:acc.toList=its.reverse:=by
   apply List.ext_getElem?;intro j;rcases Nat.lt_or_ge j its.length with hj|hj
   . have hj':j<acc.size:=by rw [hacc.1];simpa using hj
     have e1:=hacc.2 j acc[j] (Array.getElem?_eq_getElem hj');rw [List.getElem?_reverse hj,Array.getElem?_toList,Array.getElem?_eq_getElem hj',<- e1];simp
   . rw [List.getElem?_eq_none (by have:=hacc.1;simp at this ⊢;lia),List.getElem?_eq_none (by simpa using hj)]
 have I2:Inv X pins Z H1 s':=by
   rw [es];exact I1.kept (t':=s'.toks) kp
 have ev:acc=its.reverse.toArray:=by rw [<- ea]
 have rr:Zh xs.reverse its.reverse:=rv.reverse;have I3:Inv X pins Z (upd H1 s'.heap.objs.size (.tup xs.reverse)) {s' with heap:=s'.heap.push {cls:=.type "tuple",data:=.seq acc}}:=by
   rw [ev];exact I2.laid (t':=s'.toks) (fun b o e=>Od _ e) (Oq _) (show ZO X.prog X.w _ _ _ (.tup xs.reverse) from ⟨by simpa using hz,its.reverse,rr,ZaH.fresh _ _⟩)
 exact ⟨.ref s'.heap.objs.size,_,I3,rfl,q _ (I2.hok.fresh (Oq _))⟩
end L2
end
section
namespace L2
open PySem PySem.Spec PyProof.Rows
namespace Tx
noncomputable def place(x:Str):List Str->Option Nat
 | []=>none
 | y::r=>if y=x then some 0 else (place x r).map (·+1)
theorem Zev:∀ {ys:List Str}{j:Nat},place x ys=some j->ys[j]? = some x/\∀ m,m<j->∀ y,ys[m]? = some y->y≠x
 | [],j,h=>by cases h
 | y::r,j,h=>by
   unfold place at h;by_cases e:y=x
   . rw [if_pos e] at h;cases h;exact ⟨by simp [e],fun m hm=>absurd hm (Nat.not_lt_zero _)⟩
   . rw [if_neg e] at h;obtain ⟨k,hk,rfl⟩:=Oo.mp h;obtain ⟨h1,h2⟩:=Zev hk;refine ⟨by simpa using h1,fun m hm z hz=>?_⟩;cases m with
     | zero=>simp at hz;rw [<- hz];exact e
     | succ m=>exact h2 m (by lia) z (by simpa using hz)
section
variable {prog:Program}{w:World}{A:Around}{E:Value->Shared->Prop}{s:Shared}
theorem ZiQ(hl:IsTup s.heap t items)(hn:items.size=ys.length)(hi:∀ (i:Nat) (y:Str),ys[i]? = some y->∃ t,items[i]? = some (Value.str y t))(hj:place x ys=some j)
   (hQ:∀ u tk,Q (.int (j:Int) u) {s with toks:=tk}):wpAny (model prog w) A (PySem.call (.builtin "tuple.index") [.ref t,.str x tx]) Q E s:=by
 obtain ⟨o,ho,hc,n,hd⟩:=id hl;refine wpAny_call_entry F.slot_tuple_index hl.typeIs F.entry_tuple_index ?_ (F.args_tuple_index_2 _ _);unfold Builtin.«tuple.index»;refine wpAny_bind (wpAny_of_eq (a:=(Value.ref t,[Value.str x tx])) rfl ?_);dsimp only;unfold Builtin.Tuple.tupleItemsOf;refine wpAny_bind (wpAny_bind (wpAny_seqItems ho hd (wpAny_pure ?_)))
 try dsimp only
 refine wpAny_bind (wpAny_pure ?_);refine wpAny_bind (wpAny_pure ?_);rw [Std.Legacy.Range.forIn_eq_forIn_range'];obtain ⟨p1,p2⟩:=Zev hj;have hjl:j<ys.length:=(Ob.mp p1).1;have e0:List.range' [:min items.size items.size].start [:min items.size items.size].size [:min items.size items.size].step=List.range' 0 (items.size - 0):=by
   show List.range' 0 ((min items.size items.size - 0+1 - 1) / 1) 1=_;simp
 rw [e0];refine wpAny_bind (wpAny_forIn_list _ (fun l b s'=>∃ i,l=List.range' i (items.size - i)/\b=(none,())/\s'=s/\i<=j) _ ?_ ?_ _ _ ⟨0,rfl,rfl,rfl,Nat.zero_le _⟩)
 . rintro i rest b s' ⟨k,hk,rfl,rfl,hkj⟩;have hks:k<items.size:=by lia
   rw [show items.size - k=(items.size - (k+1))+1 by lia,List.range'_succ] at hk;obtain ⟨rfl,rfl⟩:=List.cons.inj hk;obtain ⟨y,hy⟩:∃ y,ys[i]? = some y:=⟨ys[i]'(by lia),Og (by lia)⟩
   obtain ⟨ty,ht⟩:=hi i y hy;rw [ht];dsimp only;refine wpAny_bind (eqBool_str ?_);by_cases e:i=j
   . subst e;rw [p1] at hy;cases hy;rw [if_pos (by simp)];unfold retInt;refine wpAny_bind (wpAny_bind (wpAny_mkInt (wpAny_pure (wpAny_pure ?_))));exact wpAny_pure ⟨_,rfl,hQ _ _⟩
   . rw [if_neg (by have:=p2 i (by lia) y hy;simpa using this)];exact wpAny_pure ⟨i+1,rfl,rfl,rfl,by lia⟩
 . rintro b s' ⟨k,hk,rfl,rfl,hkj⟩;have:=congrArg List.length hk;simp at this
   lia
end
end Tx
noncomputable def Zig(K:PySem.W.Frag):V->List V->Hp->VK->Prop:=fun x vs H Q=>∃ a ys y j,x=.ref a/\vs=[.str y]/\SqT K H a (ys.map .str)/\Tx.place y ys=some j/\Q (.int (j:Int)) H
theorem Zl7:MtR X "tuple.index" (Zig X.K):=by
 intro pins s Z H x vs v us Q I rx rv h;obtain ⟨a,ys,y,j,rfl,rfl,hq,hp,q⟩:=h;cases rx;obtain ⟨u,rfl,ru⟩:=rv.one;obtain ⟨t,rfl⟩:=ru;obtain ⟨its,rs,pl,hz⟩:=I.tuple hq;have hl:=rs.length;refine Tx.ZiQ pl (by simpa using hl.symm) (fun i z hi=>?_) hp fun u tk=>?_
 . obtain ⟨u,hu,ru⟩:=rs.get (i:=i) (x:=.str z) (by simp [hi]);obtain ⟨t2,rfl⟩:=ru;exact ⟨t2,by simpa using hu⟩
 . exact ⟨.int j,H,I.kept (h':=s.heap) (t':=tk) (fun b o e=>e),⟨u,rfl⟩,q⟩
end L2
namespace L2
open PySem PySem.Spec PyProof.Rows
noncomputable def Zbx (K:PySem.W.Frag):Bool:=K.all fun p=>!decide (p.2.cls=.type "tuple") || p.2.dict.isNone
theorem Zpb {K:PySem.W.Frag} (h:Zbx K=true) (e:K.lookup a=some o) (hc:o.cls=.type "tuple"):o.dict=none:=by
 have hm:∃ b,(b,o)∈K:=by
   induction K with
   | nil=>cases e
   | cons p r ih =>
     rw [OF] at e;split at e
     . cases e;exact ⟨p.1,Oi⟩
     . obtain ⟨b,hb⟩:=ih (by unfold Zbx at h ⊢;rw [List.all_cons,Oa] at h;exact h.2) e;exact ⟨b,Oh _ hb⟩
 obtain ⟨b,hb⟩:=hm;have:=OC.mp h _ hb;simp only [hc,decide_true,Bool.not_true,Bool.false_or] at this;simpa using this
noncomputable def Zud(K:PySem.W.Frag)(to:TE)(t:TA):TE:=fun Z H Q=>to Z H fun x H1=>(∃ a ys,x=.ref a/\SqT K H1 a ys)/\t Z H1 fun xs H2=>Zig K x xs H2 Q
theorem Zqu{X:Cx}(hK:Zbx X.K=true)(ho:PE X o to)(ha:PA X [e] t)
   (hbase:attributeBase o "index" X.env (eval o X.env)=eval o X.env)
   (hfew:((backTo cpos (starEach [e] X.env)).all (fun x=>!x.1)&&(backToKw cpos (keywordEach [] X.env)).all (fun x=>x.1.isSome)&&decide ([e].length+([]:List Keyword).length+(if ([]:List Keyword).isEmpty then 0 else 1)<30))=true)
   (hline:(apos.endLine==cpos.line)=true) (hs:starEach [e] X.env=[(false,eval e X.env)]) :
   PE X (.Call (.Attribute o "index" apos) [e] [] cpos) (Zud X.K to t):=by
 intro pins s Z H Q I h;refine wpAny_Call_method_late hbase hfew hline rfl (thn (ho pins s Z H _ I h) fun v s1 ⟨x,H1,I1,r1,ty,q1⟩=>?_);obtain ⟨a,ys,rfl,hq⟩:=ty;cases r1;have ht:∃ ob,s1.heap.get? a=some ob/\ob.cls=.type "tuple" /\ ob.dict=none:=by
   rcases hq with hq|⟨ob,its,n,hk,hc,hs,hz,r⟩
   . obtain ⟨z,its,r,ob,e1,e2,e3,_⟩:=hq.ok I1.hok;exact ⟨ob,e1,e2,e3⟩
   . exact ⟨ob,I1.kIn a ob hk,hc,Zpb hK hk hc⟩
 obtain ⟨ob,e1,e2,e3⟩:=ht;refine ⟨"tuple", "tuple.index",F.plainAttrs_tuple,F.slot_tuple_index,F.type_tuple_index,⟨ob,e1,e2⟩,fun b hb=>by cases hb;exact ⟨ob,e1,e3⟩,?_⟩;have hA:=ha cpos pins s1 Z H1 _ I1 q1;rw [hs] at hA ⊢;refine Calls.callWith_builtin rfl (Calls.evalArgs_plain ?_);exact thn hA fun us s2 ⟨vs,H2,I2,r2,q2⟩=>Zl7 pins s2 Z H2 (.ref a) vs (.ref a) us Q I2 rfl r2 q2
end L2
end
section
namespace L2
open PySem PySem.Spec PyProof.Rows
section
variable {X:Cx}{pins:List (Addr×Obj)}{Z:St}{H:Hp}{s:Shared}
theorem Inv.freeze(I:Inv X pins Z H s)(e:H a=some (.dK kvs))(ho:s.heap.get? a=some o):Inv X pins Z (upd H a (.frz o (.dK kvs))) s:=by
 have ne:∀ b,(∀ kvs,H b≠some (.dK kvs))->b≠a:=fun b q z=>q kvs (by rw [z];exact e);refine I.un (t':=s.toks) (h':=s.heap) ⟨fun b u q n _ _=>q,fun b u q n _ _=>⟨u.slots,q⟩,fun b u q n _=>?_,fun b u q _=>⟨u,q⟩,fun b xs q=>?_,fun b u v q=>?_,fun b ps q=>⟨#[],?_⟩⟩ ?_
 . rw [Ze (ne b fun k z=>by rw [n] at z;cases z)];exact n
 . rw [Ze (ne b fun k z=>by rw [q] at z;cases z)];exact q
 . rw [Ze (ne b fun k z=>by rw [q] at z;cases z)];exact q
 . rw [Ze (ne b fun k z=>by rw [q] at z;cases z),q];simp
 . have old:=I.hok a _ e;exact I.hok.write (x:=a) (e:=a) (by rw [e];trivial) (.inl rfl) (fun b u _ q=>q) ⟨o,ho⟩ ⟨ho,old⟩
end
theorem ZoA(h:ZeE k u=true):RelV (kV k) u:=by
 rcases ZE h with ⟨i,t,rfl,rfl⟩|⟨x,t,rfl,rfl⟩
 . exact ⟨t,rfl⟩
 . exact ⟨t,rfl⟩
theorem ZjB:∀ {kvs:List (Key×V)}{vs:List (Key×Value)},KV kvs vs->kvs.map (·.1)=vs.map (·.1)
 | _,_,.nil=>rfl
 | _,_,.cons h t=>by rw [Op,Op,ZjB t,h.1]
noncomputable def Itd(a:Addr)(o:Obj)(kvs:List (Key×V)):It :=
 ⟨fun i H=>H a=some (.frz o (.dK kvs))/\i<kvs.length,fun i H x H'=>H'=H/\∃ k v,kvs[i]? = some (k,v)/\x=kV k,fun i H=>H a=some (.frz o (.dK kvs))/\kvs.length<=i⟩
theorem Znj{P:Program}{w:World}{K:PySem.W.Frag}{tg:Expr}(a it:Addr)(o:Obj)(kvs:List (Key×V))(es:Array DictEntry)(ep:Nat)(hd:o.data=.dict es ep):Turn P w K tg (Itd a o kvs) [it] it (fun i h=>h.IsKeyIter it a i kvs.length ep) where
 mem:=by simp
 obj:=fun i h st b hb=>by
   have e:b=it:=by simpa using hb
   subst e;obtain ⟨o,e,c,d⟩:=st;exact ⟨o,e,fun v z=>by rw [d] at z;cases z⟩
 keep:=fun i h h' st k=>st.at fun o e=>k it (by simp) o e
 item:=by
   intro X hP hw hK hc i pins s Z H E I hf st hg;subst hP hw hK;obtain ⟨ea,hi⟩:=hg;obtain ⟨g1,hz,hsm,vs,rv,o2,es2,ep2,g2,x1,x2,x3,x4,x5⟩:=I.hok a _ ea;rw [g1] at g2;cases g2;rw [hd] at x2;cases x2;have hl:=rv.length;have hi2:i<vs.length:=by lia
   obtain ⟨f0,f1,f2,f3,f4,f5⟩:=hf it (by simp);have hkv:(kvs[i]'hi).1=(vs[i]'hi2).1:=by
     have q:=congrArg (fun l=>l[i]?) (ZjB rv);simp only [On,Og hi,Og hi2,Option.map_some] at q;exact Option.some.inj q
   refine wpAny_pyNext_dict_item (knd:=Zz X.prog X.w) (kvs:=vs) (k:=(vs[i]'hi2).1) (v:=(vs[i]'hi2).2) (by rw [<- hl];exact st) ⟨o,es,g1,x1,hd,x3,x4,x5⟩ (by simp [hi2]) fun key h' hkey hit' hs'=>?_;have I1:Inv X pins Z H {s with heap:=h'}:=I.turned (t':=s.toks) (fun b o hb e=>(hs'.2 b hb).trans e) f0 f1 f3 f4 f5;obtain ⟨oi,e,c,d⟩:=id hit';exact ⟨key,rfl,ZfB (s:={s with heap:=h'}) e c d (by decide) ⟨kV (kvs[i]'hi).1,H,I1,by rw [hkv];exact ZoA hkey,⟨rfl,(kvs[i]'hi).1,(kvs[i]'hi).2,by simp [hi],rfl⟩,by rw [hl];exact hit',fun b hb=>(hf b hb).1⟩⟩
 done:=by
   intro X hP hw hK hc i pins s Z H E I hf st hg;subst hP hw hK;obtain ⟨ea,hi⟩:=hg;obtain ⟨g1,hz,hsm,vs,rv,o2,es2,ep2,g2,x1,x2,x3,x4,x5⟩:=I.hok a _ ea;rw [g1] at g2;cases g2;rw [hd] at x2;cases x2;have hl:=rv.length;obtain ⟨f0,f1,f2,f3,f4,f5⟩:=hf it (by simp);exact wpAny_pyNext_dict_end (knd:=Zz X.prog X.w) (kvs:=vs) (I.ok.hd hc) (by rw [<- hl];exact st) ⟨o,es,g1,x1,hd,x3,x4,x5⟩ (by simp;lia) fun h' eb=>⟨rfl,I.turned (t':=s.toks) (fun b o hb e=>eb b o hb e) f0 f1 f3 f4 f5⟩
 self:=fun _ _ _ _ _ st h=>wpAny_pyIter_keyiter st h
noncomputable def iDk(tl:TE):TI:=fun Z H R=>tl Z H fun x H1=>∃ a kvs,x=.ref a/\((H1 a=some (.dK kvs)/\∀ o,R (Itd a o kvs) (upd H1 a (.frz o (.dK kvs))))\/∃ o,H1 a=some (.frz o (.dK kvs))/\R (Itd a o kvs) H1)
theorem ZsR{X:Cx}{tg l:Expr}{tl:TE}(hl:PE X l tl):PI X tg l (iDk tl):=by
 intro pins s Z H R I h;refine thn (hl pins s Z H _ I h) fun v s1 ⟨x,H1,I1,r1,q1⟩=>?_;obtain ⟨a,kvs,rfl,q⟩:=q1;cases r1;have main:∀ (o:Obj) (H2:Hp),Inv X pins Z H2 s1->H2 a=some (.frz o (.dK kvs))->R (Itd a o kvs) H2->wpAny (model X.prog X.w) X.A (pyIter (.ref a)) (PIE X pins Z tg R) X.xe s1:=by
   intro o H2 I2 ea hR;obtain ⟨g1,hz,hsm,vs,rv,o2,es,ep,g2,x1,x2,x3,x4,x5⟩:=I2.hok a _ ea;rw [g1] at g2;cases g2;refine wpAny_pyIter_dict (knd:=Zz X.prog X.w) hsm ⟨o,es,g1,x1,x2,x3,x4,x5⟩ ?_;refine ⟨s1.heap.objs.size,[s1.heap.objs.size],_,_,H2,rfl,I2.kept (t':=s1.toks) fun b o e=>Od _ e,Znj a _ o kvs es ep x2,⟨_,Oj _ rfl,rfl,by rw [rv.length];rfl⟩,fun b hb=>?_,hR⟩;have e:b=s1.heap.objs.size:=by simpa using hb
   subst e;exact I2.fpOk (Oq _) (I2.hok.fresh (Oq _))
 rcases q with ⟨ea,hR⟩|⟨o,ea,hR⟩
 . obtain ⟨hz,hsm,vs,rv,o,es,ep,g2,r⟩:=I1.hok a _ ea;exact main o _ (I1.freeze ea g2) Zd (hR o)
 . exact main o _ I1 ea hR
end L2
end
section
namespace L2
open PySem PySem.Spec PyProof.Rows
section
variable {prog:Program}{w:World}{A:Around}{E:Value->Shared->Prop}{s:Shared}
theorem Tx.call_lindex(hl:PlainL s.heap l items)(hn:items.size=ys.length)(hs:ys.length<=sizeLine)(hi:∀ (i:Nat) (y:Str),ys[i]? = some y->∃ t,items[i]? = some (Value.str y t))(hj:place x ys=some j)
   (hQ:∀ u tk,Q (.int (j:Int) u) {s with toks:=tk}):wpAny (model prog w) A (PySem.call (.builtin "list.index") [.ref l,.str x tx]) Q E s:=by
 obtain ⟨⟨cls,dd,data,sl⟩,n,ho,hc,hd0,hd⟩:=hl;simp only at hc hd hd0;subst hc hd;obtain ⟨p1,p2⟩:=Zev hj;have hjl:j<ys.length:=(Ob.mp p1).1;rw [sizeLine_eq] at hs;let e:Value->Bool:=fun v=>match v with|.str y _=>y==x|_=>false
 have at':∀ (i:Nat) (h:i<items.size),∃ y t,ys[i]? = some y/\items[i]=Value.str y t:=fun i h=>by
   obtain ⟨y,hy⟩:∃ y,ys[i]? = some y:=⟨ys[i]'(by lia),Og (by lia)⟩
   obtain ⟨t,ht⟩:=hi i y hy;rw [Array.getElem?_eq_getElem h] at ht;exact ⟨y,t,hy,Option.some.inj ht⟩
 refine call_meets PySem.F.slot_list_index ⟨_,ho,rfl⟩ PySem.F.entry_list_index (PySem.F.args_list_index_2 _ _) (SeqAt.list_indexAt l items n dd sl (.str x tx) e j (by lia) (by lia) ?_ ?_) ⟨ho,fun y hy=>?_,hQ _ _⟩
 . obtain ⟨y,t,h1,h2⟩:=at' j (by lia);rw [p1] at h1;cases h1;rw [h2];show (x==x)=true;simp
 . intro m hm hlt;obtain ⟨y,t,h1,h2⟩:=at' m hm;rw [h2];show (y==x)=false;have:=p2 m hlt y h1;simpa using this
 . obtain ⟨i,h,rfl⟩:=Array.mem_iff_getElem.mp hy;obtain ⟨y,t,h1,h2⟩:=at' i h;rw [h2];exact fun prog w E Q hq=>eqBool_str hq
end
noncomputable def ZfX(K:PySem.W.Frag):V->List V->Hp->VK->Prop:=fun x vs H Q=>∃ a ys y j,x=.ref a/\vs=[.str y]/\SqL K H a (ys.map .str)/\Tx.place y ys=some j/\Q (.int (j:Int)) H
theorem ZkB:MtR X "list.index" (ZfX X.K):=by
 intro pins s Z H x vs v us Q I rx rv h;obtain ⟨a,ys,y,j,rfl,rfl,hq,hp,q⟩:=h;cases rx;obtain ⟨u,rfl,ru⟩:=rv.one;obtain ⟨t,rfl⟩:=ru;obtain ⟨its,rs,pl,hz⟩:=I.list hq;have hl:=rs.length;refine Tx.call_lindex pl (by simpa using hl.symm) (by simpa using hz) (fun i z hi=>?_) hp fun u tk=>?_
 . obtain ⟨u,hu,ru⟩:=rs.get (i:=i) (x:=.str z) (by simp [hi]);obtain ⟨t2,rfl⟩:=ru;exact ⟨t2,by simpa using hu⟩
 . exact ⟨.int j,H,I.kept (h':=s.heap) (t':=tk) (fun b o e=>e),⟨u,rfl⟩,q⟩
noncomputable def Zuj(K:PySem.W.Frag)(to:TE)(t:TA):TE:=fun Z H Q=>to Z H fun x H1=>(∃ a ys,x=.ref a/\SqL K H1 a ys)/\t Z H1 fun xs H2=>ZfX K x xs H2 Q
theorem Zqz(ho:PE X o to)(ha:PA X [e] t)
   (hbase:attributeBase o "index" X.env (eval o X.env)=eval o X.env)
   (hfew:((backTo cpos (starEach [e] X.env)).all (fun x=>!x.1)&&(backToKw cpos (keywordEach [] X.env)).all (fun x=>x.1.isSome)&&decide ([e].length+([]:List Keyword).length+(if ([]:List Keyword).isEmpty then 0 else 1)<30))=true)
   (hline:(apos.endLine==cpos.line)=true) (hs:starEach [e] X.env=[(false,eval e X.env)]) :
   PE X (.Call (.Attribute o "index" apos) [e] [] cpos) (Zuj X.K to t):=by
 intro pins s Z H Q I h;refine wpAny_Call_method_late hbase hfew hline rfl (thn (ho pins s Z H _ I h) fun v s1 ⟨x,H1,I1,r1,ty,q1⟩=>?_);obtain ⟨a,ys,rfl,hq⟩:=ty;cases r1;obtain ⟨its,rs,⟨ob,n,e1,e2,e3,_⟩,hz⟩:=I1.list hq;refine ⟨"list", "list.index",F.plainAttrs_list,F.slot_list_index,F.type_list_index,⟨ob,e1,e2⟩,fun b hb=>by cases hb;exact ⟨ob,e1,e3⟩,?_⟩;have hA:=ha cpos pins s1 Z H1 _ I1 q1;rw [hs] at hA ⊢;refine Calls.callWith_builtin rfl (Calls.evalArgs_plain ?_);exact thn hA fun us s2 ⟨vs,H2,I2,r2,q2⟩=>ZkB pins s2 Z H2 (.ref a) vs (.ref a) us Q I2 rfl r2 q2
end L2
end
section
namespace L2
open PySem PySem.Spec PyProof.Rows
noncomputable def Zur(d:PyData):Bool:=isDisplay d&&(PyData.showable d&&(PyData.intsShort 13 d&&(decide (PyData.weight d<=2 ^ 20)&&decide (PyData.depth d<=1000))))
end L2
end
section
namespace L2
open PySem PySem.Spec PyProof.Rows
structure XAs(K:PySem.W.Frag)(a b:Addr):Prop extends ExcN K a where
 sub:PySem.W.subIn K (.ref b) (.ref a)=some true
 at':ExcA K b
 one:PySem.W.kitOne K (.ref b) (.ref b)=some true
end L2
end
section
namespace L2
open PySem PySem.Spec PyProof.Rows
theorem Zlb(t:SetTable)(n:Nat):(t.orStandIn n).led=t.led/\(t.plain=false->(t.orStandIn n).plain=false):=by
 unfold SetTable.orStandIn;split
 . exact ⟨rfl,id⟩
 . exact ⟨rfl,fun _=>rfl⟩
theorem Zq5(t:SetTable)(es:Array (Int×Value))(h:Int)(x:Value):(layNew t es h x).2.1.led=t.led/\(t.plain=false->(layNew t es h x).2.1.plain=false):=by
 unfold layNew;split
 . exact Zlb _ _
 . exact ⟨rfl,fun _=>rfl⟩
theorem Zow{m f mv:Nat}{l p:Bool}{hs:Array Int}{t:SetTable}{o:Array Nat}(e:SetTable.laid m f mv l p hs=some (t,o)):t.led=l/\t.plain=p:=by
 unfold SetTable.laid at e;obtain ⟨x,_,e2⟩:=Option.bind_eq_some_iff.mp e;cases e2;exact ⟨rfl,rfl⟩
theorem Zll(t:SetTable)(es:Array (Int×Value))(n:Nat):(relayAll t es n).2.1.led=t.led/\(t.plain=false->(relayAll t es n).2.1.plain=false):=by
 unfold relayAll;split
 . rename_i t' o e;obtain ⟨h1,h2⟩:=Zow e;dsimp only;split
   . exact ⟨h1,fun q=>h2.trans q⟩
   . exact ⟨rfl,fun _=>rfl⟩
 . exact ⟨rfl,fun _=>rfl⟩
section
variable {prog:Program}{w:World}{A:Around}{E:Value->Shared->Prop}{s:Shared}{a:Addr}{S_:Str->Bool}{n:Nat}
structure XSet(prog:Program)(w:World)(led:Bool)(h:Heap)(a:Addr)(es:Array (Int×Value))(ep:Nat)(t:SetTable):Prop where
 at':∃ o,h.get? a=some o/\o.ExactSet/\o.data=.set es ep t
 el:ElemsOf (PySem.strKind prog w) es.toList
 sz:es.size<scanBound
 fit:t.fits es.size=true
 ld:t.led=led
 pl:es.size=0\/t.plain=false
theorem XSet.store{led:Bool}{es:Array (Int×Value)}{ep:Nat}{t:SetTable}(T:XSet prog w led s.heap a es ep t){es':Array (Int×Value)}{t':SetTable}{Q:Unit->Shared->Prop}(el:ElemsOf (PySem.strKind prog w) es'.toList)(sz:es'.size<scanBound)(fit:t'.fits es'.size=true)(ld:t'.led=led)(pl:t'.plain=false)
   (h:∀ h',Heap.SameBut a s.heap h'->XSet prog w led h' a es' (ep+1) t'->Q () {s with heap:=h'}):wpAny (model prog w) A (storeSet a es' t') Q E s:=by
 obtain ⟨o,ho,hex,hd⟩:=T.at';refine wpAny_storeSet_of ho hd (h _ (Heap.SameBut.update ..) ⟨⟨{o with data:=.set es' (ep+1) t'},?_,hex,rfl⟩,el,sz,fit,ld,.inr pl⟩) (fits_of_scanBound sz);have:=Heap.get?_update_self (Obj.putSet es' t') ho (by rw [putSet_of es' t' hd];rfl);rw [putSet_of es' t' hd] at this;exact this
theorem XSet.add{led:Bool}{es:Array (Int×Value)}{ep:Nat}{t:SetTable}(T:XSet prog w led s.heap a es ep t){x:Str}{v:Value}{Q:Bool->Shared->Prop}(hk:(PySem.strKind prog w).is x v=true)(hs:v.scannable=true)(hv:plainKind v=false)(room:es.size+1<scanBound)
   (h1:es.toList.findIdx? (fun e=>(PySem.strKind prog w).is x e.2)≠none->Q false s)
   (h2:es.toList.findIdx? (fun e=>(PySem.strKind prog w).is x e.2)=none->∀ h' es' ep' t',Heap.SameBut a s.heap h'->XSet prog w led h' a es' ep' t'->es'.toList.Perm (es.toList++[((PySem.strKind prog w).hash x,v)])->Q true {s with heap:=h'}) :
   wpAny (model prog w) A (setAddHashed a v ((PySem.strKind prog w).hash x)) Q E s:=by
 obtain ⟨o,ho,hex,hd⟩:=T.at';unfold setAddHashed setAddHashedIn;refine wpAny_holding (wpAny_bind (wpAny_setState_of ho hd T.fit ?_));dsimp only;rw [byScan_of hs T.sz T.el,if_pos rfl];unfold setAddByScan;refine wpAny_bind (wpAny_bind (wpAny_rule (wpAny_bind (wpAny_setScan_of hk ho hd T.fit T.el ?_))));cases hr:es.toList.findIdx? (fun e=>(PySem.strKind prog w).is x e.2) with
 | some j=>exact wpAny_pure (wpAny_pure (h1 (by rw [hr];exact nofun)))
 | none =>
   have gw:∀ (b:Bool) {s1:Shared}{Q':Unit->Shared->Prop},Q' () s1->wpAny (model prog w) A (match b with|true=>rule "set.scan.the-table-gave-way" | false=>pure ()) Q' E s1:=fun b s1 Q' q=>by
     cases b
     . exact wpAny_pure q
     . exact wpAny_rule q
   have pm:=layNew_perm t es ((PySem.strKind prog w).hash x) v;have ft:=layNew_fits t es ((PySem.strKind prog w).hash x) v;obtain ⟨l1,l2⟩:=Zq5 t es ((PySem.strKind prog w).hash x) v;dsimp only;generalize layNew t es ((PySem.strKind prog w).hash x) v=L at pm ft l1 l2 ⊢;obtain ⟨es1,t1,wd,gv⟩:=L;dsimp only at pm ft l1 l2 ⊢;rw [Array.toList_push] at pm;have el1:ElemsOf (PySem.strKind prog w) es1.toList:=(T.el.push hk hs).perm pm;have z1:es1.size=es.size+1:=by rw [<- Array.length_toList,pm.length_eq,OA,Array.length_toList];rfl
   refine wpAny_bind (gw _ ?_);have fin:∀ t2:SetTable,t2.fits es1.size=true->t2.led=led->t2.plain=false->wpAny (model prog w) A (do
       storeSet a es1 t2
       if (!wd&&t2.tooFull)=true then do
           (match (relayAll t2 es1 (SetTable.grown es1.size)).2.2 with|true=>rule "set.scan.the-table-gave-way" | false=>pure ())
           storeSet a (relayAll t2 es1 (SetTable.grown es1.size)).1 (relayAll t2 es1 (SetTable.grown es1.size)).2.1
           pure (some true)
         else pure (some true)) (fun r s'=>wpAny (model prog w) A (match r with|some added=>pure added|none=>setAddHashedIn a v ((PySem.strKind prog w).hash x) 99999) Q E s') E s:=by
     intro t2 f2 d2 p2;refine wpAny_bind (T.store el1 (by rw [z1];exact room) f2 d2 p2 fun h' sb T1=>?_);split
     . have pm2:=relayAll_perm t2 es1 (SetTable.grown es1.size);have ft2:=relayAll_fits t2 es1 (SetTable.grown es1.size);obtain ⟨r1,r2⟩:=Zll t2 es1 (SetTable.grown es1.size);generalize relayAll t2 es1 (SetTable.grown es1.size)=R at pm2 ft2 r1 r2 ⊢;obtain ⟨es2,t3,gv2⟩:=R;dsimp only at pm2 ft2 r1 r2 ⊢;have z2:es2.size=es1.size:=by rw [<- Array.length_toList,pm2.length_eq,Array.length_toList]
       refine wpAny_bind (gw _ (wpAny_bind (T1.store (el1.perm pm2) (by rw [z2,z1];exact room) ft2 (r1.trans d2) (r2 p2) fun h'' sb2 T2=>wpAny_pure (wpAny_pure ?_))));exact h2 hr h'' _ _ _ (sb.trans sb2) T2 (pm2.trans pm)
     . exact wpAny_pure (wpAny_pure (h2 hr h' _ _ _ sb T1 pm))
   split
   . rw [hashByValue_scannable 8 hs,hv];exact wpAny_bind (wpAny_pure (fin _ (SetTable.fits_plain_off ft) (l1.trans T.ld) rfl))
   . rename_i hp;exact wpAny_bind (wpAny_pure (fin _ ft (l1.trans T.ld) (by simpa using hp)))
end
end L2
end
section
namespace L2
open PySem PySem.Spec PyProof.Rows
noncomputable def txt:Value->Str
 | .str x _=>x
 | _=>O ""
noncomputable def kst(es:Array (Int×Value)):List Str:=es.toList.map fun e=>txt e.2
section
variable {prog:Program}{w:World}{A:Around}{E:Value->Shared->Prop}{s:Shared}{a:Addr}{led:Bool}{es:Array (Int×Value)}{ep:Nat}{t:SetTable}
theorem XSet.str(T:XSet prog w led h a es ep t)(e:Int×Value)(he:e∈es.toList):∃ u,e.2=.str (txt e.2) u:=by
 obtain ⟨⟨k,hk,_⟩,_⟩:=T.el e he;obtain ⟨u,q⟩:=Value.isStrOf_shape hk;exact ⟨u,by rw [q];rfl⟩
theorem XSet.find(T:XSet prog w led h a es ep t)(x:Str):es.toList.findIdx? (fun e=>(PySem.strKind prog w).is x e.2)=none↔x ∉ kst es:=by
 rw [List.findIdx?_eq_none_iff];constructor
 . intro h hx;obtain ⟨e,he,rfl⟩:=List.mem_map.mp hx;obtain ⟨u,q⟩:=T.str e he;have:=h e he;rw [q] at this;exact absurd this (by show (txt e.2==txt e.2)≠false;simp)
 . intro h e he;obtain ⟨u,q⟩:=T.str e he;rw [q];show (txt e.2==x)=false;exact beq_eq_false_iff_ne.mpr fun z=>h (by rw [<- z];exact List.mem_map.mpr ⟨e,he,rfl⟩)
noncomputable def Zdq(prog:Program)(w:World)(led:Bool)(h:Heap)(a:Addr)(ss:List Str):Prop:=∃ es ep t,XSet prog w led h a es ep t/\(kst es).Nodup/\(∀ x,x∈kst es↔x∈ss)/\es.size<=ss.length
theorem Zdq.at{h':Heap}(k:Zdq prog w led h a ss)(e:∀ o,h.get? a=some o->h'.get? a=some o):Zdq prog w led h' a ss:=by
 obtain ⟨es,ep,t,T,r⟩:=k;obtain ⟨o,ho,hx⟩:=T.at';exact ⟨es,ep,t,⟨⟨o,e o ho,hx⟩,T.el,T.sz,T.fit,T.ld,T.pl⟩,r⟩
theorem Zdq.add{x:Str}{u:Nat}{Q:Bool->Shared->Prop}(k:Zdq prog w led s.heap a ss)(hl:ss.length+1<scanBound)(h:∀ b h',Heap.SameBut a s.heap h'->Zdq prog w led h' a (ss++[x])->Q b {s with heap:=h'}):wpAny (model prog w) A (setAddHashed a (.str x u) ((PySem.strKind prog w).hash x)) Q E s:=by
 obtain ⟨es,ep,t,T,nd,mm,sz⟩:=k;refine T.add (x:=x) (by show (x==x)=true;simp) rfl rfl (by lia) (fun q=>?_) fun q h' es' ep' t' sb T' pm=>h _ h' sb ⟨es',ep',t',T',?_,?_,?_⟩
 . have q1:x∈kst es:=Classical.byContradiction fun z=>q ((T.find x).mpr z);have e:s={s with heap:=s.heap}:=by cases s;rfl
   rw [e];refine h _ _ (Heap.SameBut.refl a s.heap) ⟨es,ep,t,T,nd,fun y=>?_,by rw [OA];lia⟩;rw [mm y,OD,Ox];exact ⟨.inl,fun z=>z.elim id fun z=>by rw [z];exact (mm x).mp q1⟩
 . have p2:(kst es').Perm (kst es++[x]):=by have:=pm.map (fun e=>txt e.2);rwa [List.map_append] at this
   refine p2.nodup_iff.mpr (List.nodup_append.mpr ⟨nd,by simp,fun y hy z hz=>?_⟩);rw [Ox.mp hz];exact fun e=>(T.find x).mp q (e ▸ hy)
 . intro y;have p2:(kst es').Perm (kst es++[x]):=by have:=pm.map (fun e=>txt e.2);rwa [List.map_append] at this
   rw [p2.mem_iff,OD,OD,mm y]
 . have:=pm.length_eq;rw [OA,Array.length_toList,Array.length_toList] at this;rw [OA];simp at this ⊢
   lia
theorem Zmc{R:Result->Shared->Prop}{I:Addr}{fp wr:List Addr}{G:Array GenState->Array GenState->Prop}{n:Nat}{Pv:Nat->Value->Prop}{St:Nat->Shared->Prop}(W:WalksS prog w A.in1 I fp wr G n Pv St)(S_:Addr)(hS:S_ ∉ fp)(ss:List Str)(hn:n=ss.length)(hv:∀ i v,Pv i v->∃ x u,ss[i]? = some x/\v=.str x u)(hb:n+1<scanBound) :
   ∀ (k i:Nat) (s:Shared),n - i=k->i<=n->St i s->Zdq prog w led s.heap S_ (ss.take i)->(∀ s',Moved (S_::wr) G s s'->Zdq prog w led s'.heap S_ ss->R (.ok (.ret .none)) s') ->
     codeAny (model prog w) A (.builtin "set.update.loop" ⟨[.ref S_,.ref I],[]⟩) R s:=by
 have hw:S_ ∉ wr:=fun h=>hS (W.sub _ h);have up:∀ b∈wr,b∈S_::wr:=fun b hb=>Oh _ hb;intro k;induction k with
 | zero =>
   intro i s hk hi st ks hR;obtain rfl:i=n:=by lia
   refine codeAny_builtin F.entry_set_update_loop ?_;rw [Around.under_plainId F.plain_set_update_loop _];show wpAny _ A.in1 (pyNext (.ref I) >>= _) _ _ s;refine wpAny_bind (W.done s _ _ st fun s' m=>?_);show wpAny _ A.in1 (ret Value.none) _ _ s';refine wpAny_pure (hR s' (m.mono up) ?_);rw [hn,List.take_length] at ks;exact ks.at fun o e=>m.heap S_ o hw e
 | succ k ih =>
   intro i s hk hi st ks hR;have hlt:i<n:=by lia
   refine codeAny_builtin F.entry_set_update_loop ?_;rw [Around.under_plainId F.plain_set_update_loop _];show wpAny _ A.in1 (pyNext (.ref I) >>= _) _ _ s;refine wpAny_bind (W.item i s _ _ hlt st fun v s' hP st' m=>?_);obtain ⟨x,u,hx,rfl⟩:=hv i v hP;have ks':Zdq prog w led s'.heap S_ (ss.take i):=ks.at fun o e=>m.heap S_ o hw e;show wpAny _ A.in1 (holding [Value.str x u] (setAdd S_ (.str x u)) >>= _) _ _ s';refine wpAny_bind (wpAny_holding ?_);unfold setAdd;refine wpAny_holding (wpAny_bind ((PySem.strKind prog w).pyHash (k:=x) (by show (x==x)=true;simp) ?_));refine Zdq.add (s:={s' with toks:=s'.toks+1}) ks' (by rw [List.length_take];lia) fun b h' sb ks2=>?_;have e2:ss.take i++[x]=ss.take (i+1):=by rw [List.take_add_one,hx];rfl
   rw [e2] at ks2;refine wpAny_pure ⟨plainId_quiet F.plain_set_update_loop _,ih (i+1) _ (by lia) hlt (W.frame _ s' _ _ st' (Nat.le_succ _) fun b hb o e=>?_) ks2 fun s'' m'' k''=>?_⟩
   . rw [sb.2 b (fun h:b=S_=>hS (by rw [<- h];exact hb))];exact e
   . refine hR s'' (Moved.trans W.gtrans ((m.mono up).then_heap (Nat.le_succ _) fun b o hb e=>?_) m'') k'';rw [sb.2 b (fun h:b=S_=>hb (by rw [h];exact Oi))];exact e
end
end L2
end
section
namespace L2
open PySem PySem.Spec PyProof.Rows
section
variable {prog:Program}{w:World}{A:Around}{E:Value->Shared->Prop}{s:Shared}
noncomputable abbrev Zaw (w:World):Bool:=!(w.params.followText "set-order")
noncomputable abbrev Zfe (w:World):Obj:={cls:=.type "set",dict:=none,data:=.set #[] 0 (.fresh 0 0 (Zaw w))}
theorem Znv(v:Value){Q₁:Value->Shared->Prop}(h:Q₁ (.ref s.heap.objs.size) {s with heap:=s.heap.push (Zfe w)}) :
   codeAny (model prog w) A (.call (.builtin "set.__new__") ⟨[.type "set",v],[]⟩) (wants Q₁ E) s:=by
 refine codeAny_call_builtin F.plain_set_new F.entry_set_new (wpAny_of_eq (F.newCall_set_1 v) ?_);unfold Builtin.«set.__new__» Builtin.Frozenset.newClass;have hsub:=sub_set_self;obtain ⟨hp,g,d,tk,os⟩:=s;dsimp only
 wp_walk
 refine wpAny_askSetting (wpAny_pure ?_);dsimp only;simp only [newObj];refine wpAny_bind (wpAny_alloc (wpAny_pure ?_));exact wpAny_pure h
theorem ZoK:Zdq prog w (Zaw w) (s.heap.push (Zfe w)) s.heap.objs.size [] :=
 ⟨#[],0,_,⟨⟨_,Oj _ rfl,⟨rfl,rfl,rfl⟩,rfl⟩,(fun e he=>by cases he),by decide,rfl,rfl,.inl rfl⟩,(by simp [kst]),(fun x=>by simp [kst]),Oq _⟩
set_option maxHeartbeats 3200000 in
theorem Zlh{l:Addr}{its:Array Value}{ss:List Str}{Q:Value->Shared->Prop}(hh:A.handled=none)(hl:s.heap.IsList l its)(hs:StrsAre its.toList ss)(hb:ss.length+1<scanBound)
   (h:∀ (h':Heap) (tk:Nat),Zdq prog w (Zaw w) h' s.heap.objs.size ss->(∀ b o,s.heap.get? b=some o->h'.get? b=some o)->Q .none {s with heap:=h',toks:=tk}) :
   codeAny (model prog w) A (.call (.builtin "set.__init__") ⟨[.ref s.heap.objs.size,.ref l],[]⟩) (wants Q E) {s with heap:=s.heap.push (Zfe w)}:=by
 have g0:(s.heap.push (Zfe w)).get? s.heap.objs.size=some (Zfe w):=Oj _ rfl;refine codeAny_call_builtin F.called_set.init.plain F.entry_set_init (check_set_init_1 ⟨_,g0,rfl⟩ ?_);obtain ⟨ol,hol,hcl,nl,hdl⟩:=hl;have lt:l<s.heap.objs.size:=Heap.lt_size hol;have hl1:(s.heap.push (Zfe w)).IsList l its:=⟨_,Od _ hol,hcl,nl,hdl⟩
 obtain ⟨c1,d1,dt1,sl1⟩:=ol;simp only at hcl hdl;subst hcl hdl;have hol':(s.heap.push (Zfe w)).get? l=some {cls:=.type "list",dict:=d1,data:=.seq its nl,slots:=sl1}:=Od _ hol;have q1:=F.sub_list_set;have q2:=F.sub_list_frozenset;have q3:(Value.type "list" == Value.type "dict")=false:=by decide
 unfold Builtin.«set.__init__» noKeywords Builtin.Frozenset.updateFrom;generalize hPI:pyIter=PI
 wp_walk
 subst hPI;refine wpAny_pyIter_list hl1 (wpAny_bind (wpAny_runValue ?_));have ne:l≠(s.heap.push (Zfe w)).objs.size:=by rw [Heap.size_push];exact Ou (Nat.lt_succ_of_lt lt)
 have hz:its.size=ss.length:=by
   have:=(Z5 hs).length;simpa using this.symm
 refine Zmc ((Walks.list (by simp [hh]) _ l ne its).toS) s.heap.objs.size (by
     rw [Heap.size_push];simp only [O2,List.not_mem_nil,or_false,not_or];exact ⟨Ou (OH _),Nat.ne_of_gt lt⟩) ss hz (fun i v hv=>?_) (by rw [hz];exact hb) (its.size - 0) 0 _ rfl (Nat.zero_le _) ⟨⟨_,Oj _ rfl,rfl,rfl⟩,hl1.push _⟩ (ZoK.at fun o e=>Od _ e) fun s' m k=>?_
 . have hv':its.toList[i]? = some v:=by rw [Array.getElem?_toList];exact hv
   have vs:=Z5 hs;have hi:i<ss.length:=by have:=(Ob.mp hv').1;simp at this;lia
   obtain ⟨u,hu,ru⟩:=vs.get (i:=i) (x:=V.str ss[i]) (by rw [On,Og hi];rfl);rw [hv'] at hu;cases hu;obtain ⟨t,rfl⟩:=ru;exact ⟨ss[i],t,Og hi,rfl⟩
 . rw [Moved.eq_with m];refine wpAny_pure (wpAny_pure (h _ _ k fun b o e=>?_));have b1:b<s.heap.objs.size:=Heap.lt_size e;refine m.heap b o ?_ (Od _ (Od _ e));simp only [O2,List.not_mem_nil,or_false,not_or];exact ⟨Ou b1,by rw [Heap.size_push];exact Ou (Nat.lt_succ_of_lt b1)⟩
set_option maxHeartbeats 3200000 in
theorem ZmN{l:Addr}{its:Array Value}{ss:List Str}{Q:Value->Shared->Prop}(hh:A.handled=none)(hl:s.heap.IsList l its)(hs:StrsAre its.toList ss)(hb:ss.length+1<scanBound)
   (h:∀ (h':Heap) (tk:Nat),Zdq prog w (Zaw w) h' s.heap.objs.size ss->(∀ b o,s.heap.get? b=some o->h'.get? b=some o)->Q (.ref s.heap.objs.size) {s with heap:=h',toks:=tk}) :
   wpAny (model prog w) A (call (.type "set") [.ref l]) Q E s:=by
 obtain ⟨c,tl,m1⟩:=F.called_set.mro;have m2:=F.called_set.made;have m3:=F.called_set.sub;have m4:=F.called_set.notType;have m5:=F.called_set.canCreate;have m6:=F.typeCall_set_1 (.ref l);refine wpAny_call (codeAny_of_tree ?_);show wpAny _ _ (callAny (.type "set") _) _ _ _;refine wpAny_pure ⟨Code.quiet_builtin _ (by decide +kernel),codeAny_builtin F.entry_type_call ?_⟩;rw [Around.under_plain (weight_type_call_type "set" [.ref l] []) rfl]
 repeat (any_goals (first|assumption|wp_step))
 refine codeAny_mono (Znv (.ref l) (E:=E) (Q₁:=fun o s1=>o=.ref s.heap.objs.size/\s1={s with heap:=s.heap.push (Zfe w)}) ⟨rfl,rfl⟩) fun r s1 hr=>?_;cases r with
 | error e=>exact hr
 | ok fl =>
   cases fl with
   | ret o =>
     obtain ⟨rfl,rfl⟩:=hr;have ty:Shared.TypeIs {s with heap:=s.heap.push (Zfe w)} (.ref s.heap.objs.size) "set" := ⟨_,Oj _ rfl,rfl⟩
     have m7:=F.called_set.init.lookup;have m8:=F.called_set.init.bind (.ref s.heap.objs.size)
     repeat (any_goals (first|assumption|wp_step))
     refine codeAny_mono (Zlh (Q:=fun r s2=>r=.none/\∃ h' tk,s2={s with heap:=h',toks:=tk}/\Zdq prog w (Zaw w) h' s.heap.objs.size ss/\∀ b o,s.heap.get? b=some o->h'.get? b=some o) (E:=E) (by simp [hh]) hl hs hb fun h' tk k kp=>⟨rfl,h',tk,rfl,k,kp⟩) fun r2 s2 hr2=>?_;cases r2 with
     | error e=>exact hr2
     | ok fl2 =>
       cases fl2 with
       | ret r =>
         obtain ⟨rfl,h',tk,rfl,k,kp⟩:=hr2
         repeat (any_goals (first|assumption|wp_step))
         exact h _ _ k kp
       | _=>exact hr2.elim
   | _=>exact hr.elim
end
end L2
end
section
namespace L2
open PySem PySem.Spec PyProof.Rows
theorem Zgk{α:Type}:∀ {xs:List α}{i:Nat} (hi:i<xs.length),(xs[i]::xs.eraseIdx i).Perm xs
 | x::xs,0,_=>List.Perm.refl _
 | x::xs,i+1,hi=>by
   have h:i<xs.length:=Nat.lt_of_succ_lt_succ hi;exact (List.Perm.swap x xs[i] _).trans ((Zgk h).cons x)
section
variable {prog:Program}{w:World}{A:Around}{E:Value->Shared->Prop}{s:Shared}
theorem Zfc{src:Source}{n:Nat}{Q:Nat->Shared->Prop}(hn:0<n)(h:∀ i d,i<n->Q i {s with drawn:=d}):wpAny (model prog w) A (choose src n) Q E s:=fun Γ p hΓ=>by
 show Sem.wp (model prog w) Γ (.choose src n .pure) _ _ p s;rw [Sem.wp_choose];exact ⟨Nat.ne_of_gt hn,h _ _ (Nat.mod_lt _ hn)⟩
theorem Zhw{α:Type}:∀ (n:Nat) (xs:List α) {Q:List α->Shared->Prop}{s:Shared},xs.length=n->(∀ ys d,ys.Perm xs->Q ys {s with drawn:=d})->wpAny (model prog w) A (drawOrder n xs) Q E s
 | 0,[],Q,s,_,h=>wpAny_pure (by have:=h [] s.drawn (List.Perm.refl _);cases s;exact this)
 | n+1,x::xs,Q,s,e,h=>by
   show wpAny _ _ (choose .order (x::xs).length >>= _) _ _ _;refine wpAny_bind (Zfc (by simp) fun i d hi=>?_);rw [Og hi];refine wpAny_bind (Zhw n ((x::xs).eraseIdx i) (by rw [List.length_eraseIdx,if_pos hi];simp at e ⊢;lia) fun ys d2 pm=>wpAny_pure (h _ d2 ?_));exact (List.Perm.cons _ pm).trans (Zgk hi)
end
theorem Zdw{α:Type}(next:Nat->Nat)(xs:Array α):(pickOrder next xs).toList.Perm xs.toList:=by
 have go:∀ (fuel k:Nat) (left:List α) (out:Array α),left.length=fuel->(pickOrder.go next fuel k left out).toList.Perm (out.toList++left):=by
   intro fuel;induction fuel with
   | zero =>
     intro k left out e;rw [List.eq_nil_of_length_eq_zero e,List.append_nil];exact List.Perm.refl _
   | succ n ih =>
     intro k left out e;have hi:next k % left.length<left.length:=Nat.mod_lt _ (by lia)
     unfold pickOrder.go;rw [Og hi];refine (ih (k+1) _ _ (by rw [List.length_eraseIdx,if_pos hi];lia)).trans ?_;rw [Array.toList_push,Oz];exact List.Perm.append_left _ (Zgk hi)
 have:=go xs.size 0 xs.toList #[] (by simp);unfold pickOrder;simpa using this
end L2
end
section
namespace L2
open PySem PySem.Spec PyProof.Rows
theorem ZeZ:entryFor table "set.__iter__" = some Builtin.«frozenset.__iter__» :=
 entryFor_alias (id' := "frozenset.__iter__") (by kernel_rfl) (by first|rfl|decide +kernel|(unfold String.splitOn;simp +decide [String.splitOnAux])) (by decide +kernel) (by kernel_rfl)
theorem ZS:Slot "set_iterator" "__next__" "set_iterator.__next__" :=
 .of (owner := "set_iterator") (n := "__next__") (by rw [typeLookup_type,builtinLookup_eq_fast];kernel_rfl) (by decide +kernel) (by decide +kernel) (by decide +kernel)
   (by first|exact .inl (by decide +kernel)|exact .inr (by decide +kernel)) (by rw [isSubtype_type];kernel_rfl)
theorem ZcJ:entryFor table "set_iterator.__next__" = some Builtin.«set_iterator.__next__»:=entryFor_of_tree (by kernel_rfl)
theorem Zg3:Manifest.owners.lookup (String.ofList ['r','o','t','a','r','e','t','i','_','t','e','s'].reverse)=some Manifest.sig_set_iterator:=by kernel_rfl
theorem Zdn (a:Value):argsOk "set_iterator.__next__" ⟨[a],[]⟩:=by
 unfold argsOk;rw [signature?_of (id := "set_iterator.__next__") (n:=['_','_','t','x','e','n','_','_']) (o:=['r','o','t','a','r','e','t','i','_','t','e','s']) (by kernel_rfl) Zg3];kernel_rfl
section
variable {prog:Program}{w:World}{A:Around}{E:Value->Shared->Prop}{s:Shared}{a:Addr}{es:Array (Int×Value)}{ep:Nat}{t:SetTable}
noncomputable def SI (h:Heap) (it:Addr) (first:Value) (i:Nat) (a:Addr) (n ep:Nat):Prop:=h.get? it=some {cls:=.type "set_iterator",data:=.fields #[first,rawInt i,.ref a,rawInt n,rawInt ep]}
theorem Zmm{Q:Value->Shared->Prop}(T:XSet prog w (Zaw w) s.heap a es ep t)
   (h1:es.size<=1\/w.params.followText "set-order" = true->∀ h',SI h' s.heap.objs.size (rawInt 0) 0 a es.size ep->(∀ b o,s.heap.get? b=some o->h'.get? b=some o)->Q (.ref s.heap.objs.size) {s with heap:=h'})
   (h2:1<es.size->w.params.followText "set-order" = false->∀ h' d (ps:List Nat),ps.Perm (List.range es.size)->h'.get? s.heap.objs.size=some {cls:=.type "tuple",data:=.seq (ps.map fun (i:Nat)=>rawInt i).toArray}->SI h' (s.heap.objs.size+1) (.ref s.heap.objs.size) 0 a es.size ep->(∀ b o,s.heap.get? b=some o->h'.get? b=some o)->Q (.ref (s.heap.objs.size+1)) {s with heap:=h',drawn:=d}) :
   wpAny (model prog w) A (pyIter (.ref a)) Q E s:=by
 obtain ⟨o,ho,hex,hd⟩:=T.at';have ty:s.TypeIs (.ref a) "set" := ⟨o,ho,hex.1⟩
 refine wpAny_pyIter_slot ty F.slot_set_iter (wpAny_call_entry F.slot_set_iter ty ZeZ ?_ (F.args_set_iter_1 _));have st:∀ {E':Value->Shared->Prop}{h':Heap}{d:Drawn}{Q':(Array (Int×Value)×Nat×SetTable)->Shared->Prop},(∀ b o,s.heap.get? b=some o->h'.get? b=some o)->Q' (es,ep,t) {s with heap:=h',drawn:=d}->wpAny (model prog w) A.in1 (setState a) Q' E' {s with heap:=h',drawn:=d}:=fun kp h=>wpAny_setState_of (kp _ _ ho) hd T.fit h;have st0:∀ {E':Value->Shared->Prop}{Q':(Array (Int×Value)×Nat×SetTable)->Shared->Prop},Q' (es,ep,t) s->wpAny (model prog w) A.in1 (setState a) Q' E' s:=fun h=>wpAny_setState_of ho hd T.fit h;unfold Builtin.«frozenset.__iter__»;refine wpAny_bind (m:=Builtin.Frozenset.slot0 "__iter__" ⟨[.ref a],[]⟩) (wpAny_pure ?_);refine wpAny_bind (m:=Builtin.Frozenset.sizeOf a) (wpAny_bind (m:=setEntries a) (wpAny_bind (m:=setState a) (st0 (wpAny_pure (wpAny_pure ?_)))));refine wpAny_bind (m:=setDrawn a) (wpAny_bind (m:=setState a) (st0 (wpAny_bind (m:=setsByText) (wpAny_bind (m:=ask) (wpAny_askSetting (wpAny_pure (wpAny_pure ?_)))))));have fin:∀ {h':Heap}{d:Drawn}{first:Value},(∀ b o,s.heap.get? b=some o->h'.get? b=some o)->(∀ h'',SI h'' h'.objs.size first 0 a es.size ep->(∀ b o,h'.get? b=some o->h''.get? b=some o)->Q (.ref h'.objs.size) {s with heap:=h'',drawn:=d}) ->
     wpAny (model prog w) A.in1 (setEpoch a >>= fun e=>newFields "set_iterator" [first,rawInt 0,Value.ref a,rawInt (es.size:Nat),rawInt (e:Nat)] >>= fun o=>ret o) (fun f s'=>∃ v,f=Fin.done (.ret v)/\(∃ T' r,s'.TypeIs v T'/\typeLookup (.type T') (O "__next__")=pure (some r)/\Q v s')) E {s with heap:=h',drawn:=d}:=fun {h' d first} kp q=>by
   refine wpAny_bind (m:=setEpoch a) (wpAny_bind (m:=setState a) (st kp (wpAny_pure (wpAny_bind (wpAny_newObj_type ?_)))));have g:(h'.push {cls:=.type "set_iterator",data:=.fields #[first,rawInt 0,.ref a,rawInt (es.size:Nat),rawInt (ep:Nat)]}).get? h'.objs.size=some _:=Oj _ rfl;exact wpAny_pure ⟨_,rfl, "set_iterator",_,⟨_,g,rfl⟩,ZS.lookup,q _ g fun b o e=>Od _ e⟩
 split
 . rename_i hc;obtain ⟨c1,c2⟩:=Bool.and_eq_true_iff.mp hc;have c2:(!t.plain&&decide (es.size > 1))=true:=c2;have c3:1<es.size:=of_decide_eq_true (Bool.and_eq_true_iff.mp c2).2;refine wpAny_bind (Zhw es.size (List.range es.size) (by simp) fun ps d pm=>wpAny_bind (wpAny_newTuple ?_ (by rw [List.length_map,pm.length_eq,List.length_range];exact fits_of_scanBound T.sz)));have e1:(s.heap.push {cls:=.type "tuple",data:=.seq (ps.map fun (i:Nat)=>rawInt i).toArray}).objs.size=s.heap.objs.size+1:=Heap.size_push ..;refine fin (fun b o e=>Od _ e) fun h'' si kp=>?_;rw [e1] at si ⊢;have c4:(!w.params.followText "set-order")=true:=c1;exact h2 c3 (by simpa using c4) h'' d ps pm (kp _ _ (Oj _ rfl)) si fun b o e=>kp b o (Od _ e)
 . rename_i hc;have k:es.size<=1\/w.params.followText "set-order" = true:=by
     by_cases b:w.params.followText "set-order" = true
     . exact .inr b
     . refine .inl (Nat.le_of_not_lt fun z=>hc ?_);have p:t.plain=false:=T.pl.resolve_left (by lia);refine Bool.and_eq_true_iff.mpr ⟨(show (!w.params.followText "set-order")=true by simpa using b),?_⟩;show (!t.plain&&decide (es.size > 1))=true;rw [p];simpa using z
   have e0:s={s with heap:=s.heap,drawn:=s.drawn}:=by cases s;rfl
   refine wpAny_bind (wpAny_pure ?_);have:=fin (h':=s.heap) (d:=s.drawn) (first:=rawInt 0) (fun b o e=>e) fun h'' si kp=>by
     have:=h1 k h'' si kp;exact this
   exact this
end
end L2
end
section
namespace L2
open PySem PySem.Spec PyProof.Rows
section
variable {prog:Program}{w:World}{A:Around}{E:Value->Shared->Prop}{s:Shared}{a it tp:Addr}{es:Array (Int×Value)}{ep i pl:Nat}{ps:List Nat}{v:Value}{hx:Int}{t:SetTable}
theorem ZgS {A':Around}{X:Type}{Q:X->Shared->Prop} (hh:A'.handled=none) (q:∀ h' e,(∀ b o,s.heap.get? b=some o->h'.get? b=some o)->(∃ o,h'.get? e=some o/\o.cls=.type "StopIteration")->E (.ref e) {s with heap:=h'}):wpAny (model prog w) A' (newExc (.type "StopIteration") [] >>= fun e=>(raiseNew e:Sem X)) Q E s:=by
 refine wpAny_bind ?_;simp only [newExc,newTuple];refine wpAny_bind (wpAny_newObj_type ?_ (by size_fits));refine wpAny_bind (m:=firstArgMember _ _) (wpAny_of_eq (a:=Value.none) (by first|rfl|(simp only [firstArgMember]<;>rfl)) (wpAny_newObj_type ?_ (by size_fits)));simp only [raiseNew];refine wpAny_bind (wpAny_handled ?_);rw [hh];exact wpAny_bind (wpAny_pure (wpAny_throw (q _ _ (fun b o e=>Od _ (Od _ e)) ⟨_,Oj _ rfl,rfl⟩)))
theorem ZiR {Q:Value->Shared->Prop} (T:XSet prog w (Zaw w) s.heap a es ep t) (si:SI s.heap it (.ref tp) i a es.size ep) (ht:s.heap.get? tp=some {cls:=.type "tuple",data:=.seq (ps.map fun (i:Nat)=>rawInt i).toArray})
   (hi:ps[i]? = some pl) (hv:es[pl]? = some (hx,v)) (q:∀ h',SI h' it (.ref tp) (i+1) a es.size ep->Heap.SameBut it s.heap h'->Q v {s with heap:=h'}) :
   wpAny (model prog w) A (Builtin.«set_iterator.__next__» ⟨[.ref it],[]⟩) (fun f s'=>∃ v,f=.done (.ret v)/\Q v s') E s:=by
 obtain ⟨o,ho,hex,hd⟩:=T.at';have st0:∀ {E':Value->Shared->Prop}{Q':(Array (Int×Value)×Nat×SetTable)->Shared->Prop},Q' (es,ep,t) s->wpAny (model prog w) A (setState a) Q' E' s:=fun h=>wpAny_setState_of ho hd T.fit h;unfold Builtin.«set_iterator.__next__»;refine wpAny_bind (m:=slotArgs "__next__" 0 ⟨[.ref it],[]⟩) (wpAny_pure ?_);refine wpAny_bind (m:=fieldsOf (.ref it)) (wpAny_bind (wpAny_load si (wpAny_pure ?_)));show wpAny _ _ (setEntries a >>= _) _ _ _;refine wpAny_bind (wpAny_bind (m:=setState a) (st0 (wpAny_pure ?_)));rw [if_neg (by simp)];show wpAny _ _ (seqItems? (.ref tp) >>= _) _ _ _;refine wpAny_bind (wpAny_seqItems ht rfl ?_);have e1:(ps.map fun (i:Nat)=>rawInt i).toArray[((i:Int)).toNat]? = some (rawInt pl):=by simp [hi]
 dsimp only;rw [e1];show wpAny _ _ (setNextDrawn a pl ep >>= _) _ _ _;unfold setNextDrawn;refine wpAny_bind (wpAny_bind (m:=setState a) (st0 ?_));dsimp only;rw [if_neg (by simp),hv];refine wpAny_pure (wpAny_bind (wpAny_setField_rec si (by simp) fun h1 y1 s1=>wpAny_pure ⟨_,rfl,q h1 y1 s1⟩))
theorem ZkN {Q:Fin->Shared->Prop} (hh:A.handled=none) (T:XSet prog w (Zaw w) s.heap a es ep t) (si:SI s.heap it (.ref tp) i a es.size ep) (ht:s.heap.get? tp=some {cls:=.type "tuple",data:=.seq (ps.map fun (i:Nat)=>rawInt i).toArray})
   (hi:ps[i]? = none) (q:∀ h' e,(∀ b o,b≠it->s.heap.get? b=some o->h'.get? b=some o)->(∃ o,h'.get? e=some o/\o.cls=.type "StopIteration")->E (.ref e) {s with heap:=h'}) :
   wpAny (model prog w) A (Builtin.«set_iterator.__next__» ⟨[.ref it],[]⟩) Q E s:=by
 obtain ⟨o,ho,hex,hd⟩:=T.at';have st0:∀ {E':Value->Shared->Prop}{Q':(Array (Int×Value)×Nat×SetTable)->Shared->Prop},Q' (es,ep,t) s->wpAny (model prog w) A (setState a) Q' E' s:=fun h=>wpAny_setState_of ho hd T.fit h;unfold Builtin.«set_iterator.__next__»;refine wpAny_bind (m:=slotArgs "__next__" 0 ⟨[.ref it],[]⟩) (wpAny_pure ?_);refine wpAny_bind (m:=fieldsOf (.ref it)) (wpAny_bind (wpAny_load si (wpAny_pure ?_)));show wpAny _ _ (setEntries a >>= _) _ _ _;refine wpAny_bind (wpAny_bind (m:=setState a) (st0 (wpAny_pure ?_)));rw [if_neg (by simp)];show wpAny _ _ (seqItems? (.ref tp) >>= _) _ _ _;refine wpAny_bind (wpAny_seqItems ht rfl ?_);have e1:(ps.map fun (i:Nat)=>rawInt i).toArray[((i:Int)).toNat]? = none:=by simpa using hi
 dsimp only;rw [e1];refine wpAny_bind (wpAny_setField_rec si (by simp) fun h1 y1 s1=>wpAny_bind (wpAny_setField_rec y1 (by simp) fun h2 y2 s2=>?_));exact ZgS hh fun h' e kp he=>q h' e (fun b o nb eb=>kp b o (s2.extBut _ _ nb (s1.extBut _ _ nb eb))) he
end
end L2
end
section
namespace L2
open PySem PySem.Spec PyProof.Rows
section
variable {prog:Program}{w:World}{A:Around}{E:Value->Shared->Prop}{s:Shared}{a it tp:Addr}{es:Array (Int×Value)}{ep i pl sl:Nat}{ps:List Nat}{v:Value}{hx:Int}{t:SetTable}
theorem XSet.state(T:XSet prog w led s.heap a es ep t){E':Value->Shared->Prop}{Q':(Array (Int×Value)×Nat×SetTable)->Shared->Prop}(h:Q' (es,ep,t) s):wpAny (model prog w) A (setState a) Q' E' s:=by
 obtain ⟨o,ho,hex,hd⟩:=T.at';exact wpAny_setState_of ho hd T.fit h
theorem Zgu {E':Value->Shared->Prop}{Q':Bool->Shared->Prop} (h:Q' (w.params.followText "set-order") s):wpAny (model prog w) A setsByText Q' E' s:=wpAny_bind (m:=ask) (wpAny_askSetting (wpAny_pure h))
theorem Zfx {Q:Option (Value×Nat)->Shared->Prop} (T:XSet prog w led s.heap a es ep t) (b:w.params.followText "set-order" = true) (h:Q (((pickOrder (w.params.setOrder a ep) es)[i]?).map fun e=>(e.2,sl)) s):wpAny (model prog w) A (setNext a sl i ep) Q E s:=by
 unfold setNext;refine wpAny_bind (m:=setState a) (T.state ?_);dsimp only;refine wpAny_bind (m:=setsByText) (Zgu ?_);rw [if_pos b,if_neg (by simp)];refine wpAny_bind (m:=setWalk a) ?_;unfold setWalk;refine wpAny_bind (m:=setState a) (T.state ?_);dsimp only;refine wpAny_bind (m:=setsByText) (Zgu ?_);rw [if_pos b];exact wpAny_bind (m:=ask) (wpAny_askSetting (wpAny_pure (wpAny_pure h)))
theorem Zfy {Q:Option (Value×Nat)->Shared->Prop} (T:XSet prog w (Zaw w) s.heap a es ep t) (b:w.params.followText "set-order" = false) (z:es.size<=1) (h:Q (match es[SetTable.below t.place sl]?,t.place[SetTable.below t.place sl]? with
   | some (_,x),some j=>some (x,j+1)
   | _,_=>none) s):wpAny (model prog w) A (setNext a sl i ep) Q E s:=by
 unfold setNext;refine wpAny_bind (m:=setState a) (T.state ?_);dsimp only;refine wpAny_bind (m:=setsByText) (Zgu ?_);rw [if_neg (by rw [b];exact Ow)];have l:t.led=true:=by rw [T.ld,Zaw,b];rfl
 split
 . rename_i hc;have hc:(!t.plain&&decide (es.size > 1))=true:=hc;exact absurd (of_decide_eq_true (Bool.and_eq_true_iff.mp hc).2) (by lia)
 . refine wpAny_bind (wpAny_of_eq (a:=()) ?_ (wpAny_pure h));show (if (!t.led&&!es.isEmpty)=true then _ else pure ())=pure ();rw [l];rfl
theorem ZhK{sl':Nat}{Q:Value->Shared->Prop}(T:XSet prog w led s.heap a es ep t)(si:SI s.heap it (rawInt sl) i a es.size ep)(nx:∀ {Q':Option (Value×Nat)->Shared->Prop},Q' (some (v,sl')) s->wpAny (model prog w) A (setNext a sl i ep) Q' E s)
   (q:∀ h',SI h' it (rawInt sl') (i+1) a es.size ep->Heap.SameBut it s.heap h'->Q v {s with heap:=h'}):wpAny (model prog w) A (Builtin.«set_iterator.__next__» ⟨[.ref it],[]⟩) (fun f s'=>∃ v,f=.done (.ret v)/\Q v s') E s:=by
 unfold Builtin.«set_iterator.__next__»;refine wpAny_bind (m:=slotArgs "__next__" 0 ⟨[.ref it],[]⟩) (wpAny_pure ?_);refine wpAny_bind (m:=fieldsOf (.ref it)) (wpAny_bind (wpAny_load si (wpAny_pure ?_)));show wpAny _ _ (setEntries a >>= _) _ _ _;refine wpAny_bind (wpAny_bind (m:=setState a) (T.state (wpAny_pure ?_)));rw [if_neg (by simp)];show wpAny _ _ (setNext a sl i ep >>= _) _ _ _;refine wpAny_bind (nx ?_);refine wpAny_bind (wpAny_setField_rec si (by simp) fun h1 y1 s1=>wpAny_bind (wpAny_setField_rec y1 (by simp) fun h2 y2 s2=>wpAny_pure ⟨_,rfl,q h2 y2 (s1.trans s2)⟩))
theorem ZjN{Q:Fin->Shared->Prop}(hh:A.handled=none)(T:XSet prog w led s.heap a es ep t)(si:SI s.heap it (rawInt sl) i a es.size ep)(nx:∀ {Q':Option (Value×Nat)->Shared->Prop},Q' none s->wpAny (model prog w) A (setNext a sl i ep) Q' E s)
   (q:∀ h' e,(∀ b o,b≠it->s.heap.get? b=some o->h'.get? b=some o)->(∃ o,h'.get? e=some o/\o.cls=.type "StopIteration")->E (.ref e) {s with heap:=h'}):wpAny (model prog w) A (Builtin.«set_iterator.__next__» ⟨[.ref it],[]⟩) Q E s:=by
 unfold Builtin.«set_iterator.__next__»;refine wpAny_bind (m:=slotArgs "__next__" 0 ⟨[.ref it],[]⟩) (wpAny_pure ?_);refine wpAny_bind (m:=fieldsOf (.ref it)) (wpAny_bind (wpAny_load si (wpAny_pure ?_)));show wpAny _ _ (setEntries a >>= _) _ _ _;refine wpAny_bind (wpAny_bind (m:=setState a) (T.state (wpAny_pure ?_)));rw [if_neg (by simp)];show wpAny _ _ (setNext a sl i ep >>= _) _ _ _;refine wpAny_bind (nx (wpAny_bind (wpAny_setField_rec si (by simp) fun h1 y1 s1=>?_)));exact ZgS hh fun h' e kp he=>q h' e (fun b o nb eb=>kp b o (s1.extBut _ _ nb eb)) he
theorem SI.ty (si:SI s.heap it first i a n ep):s.TypeIs (.ref it) "set_iterator" := ⟨_,si,rfl⟩
theorem Zf0 {R:Value->Shared->Prop}{Q:Option Value->Shared->Prop} (ty:s.TypeIs (.ref it) "set_iterator") (b:∀ {Q':Value->Shared->Prop}{E':Value->Shared->Prop},(∀ v s',R v s'->Q' v s')->wpAny (model prog w) A.in1 (Builtin.«set_iterator.__next__» ⟨[.ref it],[]⟩) (fun f s'=>∃ v,f=.done (.ret v)/\Q' v s') E' s) (q:∀ v s',R v s'->Q (some v) s') :
   wpAny (model prog w) A (pyNext (.ref it)) Q E s:=by
 unfold pyNext;exact wpAny_bind (wpAny_attempt (wpAny_callSpecial?_slot (name:=O "__next__") ty ZS (wpAny_call_entry ZS ty ZcJ (b fun v s' r=>wpAny_pure (q v s' r)) (Zdn _))))
theorem ZfY {R:Heap->Prop}{Q:Option Value->Shared->Prop} (ty:s.TypeIs (.ref it) "set_iterator") (b:∀ {Q':Fin->Shared->Prop}{E':Value->Shared->Prop},(∀ h' e,R h'->(∃ o,h'.get? e=some o/\o.cls=.type "StopIteration")->E' (.ref e) {s with heap:=h'})->wpAny (model prog w) A.in1 (Builtin.«set_iterator.__next__» ⟨[.ref it],[]⟩) Q' E' s) (q:∀ h',R h'->Q none {s with heap:=h'}) :
   wpAny (model prog w) A (pyNext (.ref it)) Q E s:=by
 unfold pyNext;refine wpAny_bind (wpAny_attempt (wpAny_callSpecial?_slot (name:=O "__next__") ty ZS (wpAny_call_entry ZS ty ZcJ (b fun h' e r he=>?_) (Zdn _))));obtain ⟨o,h1,h2⟩:=he;exact wpAny_bind (wpAny_isInstance (T := "StopIteration") (b:=true) ⟨o,h1,h2⟩ isSubtype_stop (wpAny_pure (q _ r)))
end
end L2
end
section
namespace L2
open PySem PySem.Spec PyProof.Rows
theorem Zc3:Slot "set_iterator" "__iter__" "set_iterator.__iter__" :=
 .of (owner := "set_iterator") (n := "__iter__") (by rw [typeLookup_type,builtinLookup_eq_fast];kernel_rfl) (by decide +kernel) (by decide +kernel) (by decide +kernel)
   (by first|exact .inl (by decide +kernel)|exact .inr (by decide +kernel)) (by rw [isSubtype_type];kernel_rfl)
theorem Zfi:entryFor table "set_iterator.__iter__" = some Builtin.«dict_keyiterator.__iter__» :=
 entryFor_alias (id' := "dict_keyiterator.__iter__") (by kernel_rfl) (by first|rfl|decide +kernel|(unfold String.splitOn;simp +decide [String.splitOnAux])) (by decide +kernel) (by kernel_rfl)
theorem ZgK (a:Value):argsOk "set_iterator.__iter__" ⟨[a],[]⟩:=by
 unfold argsOk;rw [signature?_of (id := "set_iterator.__iter__") (n:=['_','_','r','e','t','i','_','_']) (o:=['r','o','t','a','r','e','t','i','_','t','e','s']) (by kernel_rfl) Zg3];kernel_rfl
section
variable {prog:Program}{w:World}{A:Around}{E:Value->Shared->Prop}{s:Shared}{a it tp:Addr}{es:Array (Int×Value)}{ep i pl sl:Nat}{ps:List Nat}{v:Value}{hx:Int}{t:SetTable}{led:Bool}
theorem XSet.keep{h h':Heap}(T:XSet prog w led h a es ep t)(e:∀ o,h.get? a=some o->h'.get? a=some o):XSet prog w led h' a es ep t:=by
 obtain ⟨o,ho,hx⟩:=T.at';exact ⟨⟨o,e o ho,hx⟩,T.el,T.sz,T.fit,T.ld,T.pl⟩
theorem SI.self{first:Value}{n:Nat}{Q:Value->Shared->Prop}(si:SI s.heap it first i a n ep)(h:Q (.ref it) s):wpAny (model prog w) A (pyIter (.ref it)) Q E s:=by
 refine wpAny_pyIter_slot si.ty Zc3 (wpAny_call_entry Zc3 si.ty Zfi ?_ (ZgK _));show wpAny _ _ (ret (.ref it)) _ _ s;exact wpAny_pure ⟨_,rfl, "set_iterator",_,si.ty,ZS.lookup,h⟩
noncomputable def Tx2(out:List Str)(i:Nat)(v:Value):Prop:=∃ x u,out[i]? = some x/\v=.str x u
noncomputable def tx1 (es:Array (Int×Value)) (p:Nat):Str:=((es[p]?).map fun e=>txt e.2).getD (O "")
theorem Zni:(List.range es.size).map (tx1 es)=kst es:=by
 apply List.ext_getElem
 . simp [kst]
 . intro i h1 h2;simp at h1;simp [tx1,kst,h1]
theorem XSet.text{h:Heap}(T:XSet prog w led h a es ep t)(hp:pl<es.size):∃ x u,tx1 es pl=x/\es[pl].2=.str x u:=by
 obtain ⟨u,q⟩:=T.str es[pl] (by rw [<- Array.getElem_toList];exact List.getElem_mem _);exact ⟨_,u,by simp [tx1,hp],q⟩
theorem ZgN(hh:A.handled=none)(pm:ps.Perm (List.range es.size))(n1:tp≠it)(n2:a≠it) :
   Walks prog w A it [it,tp,a] [it] es.size (Tx2 (ps.map (tx1 es))) (fun i h=>SI h it (.ref tp) i a es.size ep/\h.get? tp=some {cls:=.type "tuple",data:=.seq (ps.map fun (i:Nat)=>rawInt i).toArray}/\XSet prog w (Zaw w) h a es ep t) where
 sub:=fun b hb=>by simp at hb ⊢;exact .inl hb
 frame:=fun i h h' ⟨si,ht,T⟩ k=>⟨k it (by simp) _ si,k tp (by simp) _ ht,T.keep fun o e=>k a (by simp) o e⟩
 item:=fun i s Q E hi ⟨si,ht,T⟩ q=>by
   have hl:ps.length=es.size:=by rw [pm.length_eq,List.length_range]
   have e1:ps[i]? = some ps[i]:=Og (by lia);have hp:ps[i]<es.size:=List.mem_range.mp (pm.mem_iff.mp (List.getElem_mem (by lia)));obtain ⟨x,u,q1,q2⟩:=T.text hp;refine Zf0 (R:=fun v s'=>v=es[ps[i]].2/\∃ h',s'={s with heap:=h'}/\SI h' it (.ref tp) (i+1) a es.size ep/\Heap.SameBut it s.heap h') si.ty (fun r=>ZiR T si ht e1 (Array.getElem?_eq_getElem hp) fun h' y sb=>r _ _ ⟨rfl,h',rfl,y,sb⟩) fun v s' ⟨e,h',e',y,sb⟩=>?_;subst e e';exact q _ h' s.toks ⟨x,u,by rw [On,e1,<- q1];rfl,q2⟩ ⟨y,sb.extBut _ _ n1 ht,T.keep fun o e=>sb.extBut _ _ n2 e⟩ fun b o hb e=>sb.extBut _ _ (by simpa using hb) e
 done:=fun s Q E ⟨si,ht,T⟩ q=>by
   have hl:ps.length=es.size:=by rw [pm.length_eq,List.length_range]
   exact ZfY (R:=fun h'=>∀ b o,b≠it->s.heap.get? b=some o->h'.get? b=some o) si.ty (fun r=>ZkN (by simp [hh]) T si ht (List.getElem?_eq_none (by lia)) fun h' e kp he=>r h' e kp he) fun h' kp=>q h' s.toks fun b o hb e=>kp b o (by simpa using hb) e
 self:=fun i s Q E ⟨si,_,_⟩ q=>si.self q
theorem Zh4 (hh:A.handled=none) (b:w.params.followText "set-order" = true) (n2:a≠it) :
   Walks prog w A it [it,a] [it] es.size (Tx2 (kst (pickOrder (w.params.setOrder a ep) es))) (fun i h=>SI h it (rawInt (0:Nat)) i a es.size ep/\XSet prog w (Zaw w) h a es ep t) where
 sub:=fun b hb=>by simp at hb ⊢;exact .inl hb
 frame:=fun i h h' ⟨si,T⟩ k=>⟨k it (by simp) _ si,T.keep fun o e=>k a (by simp) o e⟩
 item:=fun i s Q E hi ⟨si,T⟩ q=>by
   have pm:=Zdw (w.params.setOrder a ep) es;have hl:(pickOrder (w.params.setOrder a ep) es).size=es.size:=by have:=pm.length_eq;simpa using this
   have hp:i<(pickOrder (w.params.setOrder a ep) es).size:=by lia
   have nx:∀ {A':Around}{E':Value->Shared->Prop}{Q':Option (Value×Nat)->Shared->Prop},Q' (some (((pickOrder (w.params.setOrder a ep) es)[i]'hp).2,0)) s->wpAny (model prog w) A' (setNext a 0 i ep) Q' E' s:=fun h=>Zfx T b (by rw [Array.getElem?_eq_getElem hp];exact h);have mem:(pickOrder (w.params.setOrder a ep) es)[i]'hp∈es.toList:=pm.mem_iff.mp (by rw [<- Array.getElem_toList];exact List.getElem_mem _);obtain ⟨u,q2⟩:=T.str _ mem;refine Zf0 (R:=fun v s'=>v=((pickOrder (w.params.setOrder a ep) es)[i]'hp).2/\∃ h',s'={s with heap:=h'}/\SI h' it (rawInt (0:Nat)) (i+1) a es.size ep/\Heap.SameBut it s.heap h') si.ty (fun r=>ZhK T si nx fun h' y sb=>r _ _ ⟨rfl,h',rfl,y,sb⟩) fun v s' ⟨e,h',e',y,sb⟩=>?_;subst e e';exact q _ h' s.toks ⟨_,u,by simp [kst,hp],q2⟩ ⟨y,T.keep fun o e=>sb.extBut _ _ n2 e⟩ fun b o hb e=>sb.extBut _ _ (by simpa using hb) e
 done:=fun s Q E ⟨si,T⟩ q=>by
   have pm:=Zdw (w.params.setOrder a ep) es;have hl:(pickOrder (w.params.setOrder a ep) es).size=es.size:=by have:=pm.length_eq;simpa using this
   exact ZfY (R:=fun h'=>∀ b o,b≠it->s.heap.get? b=some o->h'.get? b=some o) si.ty (fun r=>ZjN (by simp [hh]) T si (fun h=>Zfx T b (by rw [Array.getElem?_eq_none (by lia)];exact h)) fun h' e kp he=>r h' e kp he) fun h' kp=>q h' s.toks fun b o hb e=>kp b o (by simpa using hb) e
 self:=fun i s Q E ⟨si,_⟩ q=>si.self q
end
end L2
end
section
namespace L2
open PySem PySem.Spec PyProof.Rows
theorem Zpa(p:Nat):SetTable.below #[p] 0=0:=by simp [SetTable.below,SetTable.below.go]
theorem Zo9(p:Nat):SetTable.below #[p] (p+1)=1:=by simp [SetTable.below,SetTable.below.go]
theorem Zio{α:Type}{xs:Array α}(h:xs.size=1):∃ x,xs=#[x]:=by
 refine ⟨xs[0],?_⟩;apply Array.ext
 . simp [h]
 . intro i h1 h2;have:i=0:=by lia
   subst this;rfl
section
variable {prog:Program}{w:World}{A:Around}{E:Value->Shared->Prop}{s:Shared}{a it tp:Addr}{es:Array (Int×Value)}{ep i pl sl:Nat}{ps:List Nat}{v:Value}{hx:Int}{t:SetTable}{led:Bool}
theorem XSet.place{h:Heap}(T:XSet prog w led h a es ep t):t.place.size=es.size:=by
 have:=T.fit;unfold SetTable.fits at this;exact eq_of_beq (Bool.and_eq_true_iff.mp this).1
theorem Zh5 (hh:A.handled=none) (b:w.params.followText "set-order" = false) (z:es.size<=1) (n2:a≠it) :
   Walks prog w A it [it,a] [it] es.size (Tx2 (kst es)) (fun i h=>(∃ sl:Nat,SI h it (rawInt sl) i a es.size ep/\(i=0->sl=0)/\∀ j,i=1->t.place=#[j]->sl=j+1)/\XSet prog w (Zaw w) h a es ep t) where
 sub:=fun b hb=>by simp at hb ⊢;exact .inl hb
 frame:=fun i h h' ⟨⟨sl,si,r⟩,T⟩ k=>⟨⟨sl,k it (by simp) _ si,r⟩,T.keep fun o e=>k a (by simp) o e⟩
 item:=fun i s Q E hi ⟨⟨sl,si,r,_⟩,T⟩ q=>by
   obtain rfl:i=0:=by lia
   obtain rfl:=r rfl;obtain ⟨e,he⟩:=Zio (show es.size=1 by lia);obtain ⟨p,hp⟩:=Zio (show t.place.size=1 by rw [T.place];lia);have nx:∀ {A':Around}{E':Value->Shared->Prop}{Q':Option (Value×Nat)->Shared->Prop},Q' (some (e.2,p+1)) s->wpAny (model prog w) A' (setNext a 0 0 ep) Q' E' s:=fun h=>Zfy T b z (by rw [hp,Zpa,he];exact h);obtain ⟨u,q2⟩:=T.str e (by rw [he];simp);refine Zf0 (R:=fun v s'=>v=e.2/\∃ h',s'={s with heap:=h'}/\SI h' it (rawInt (p+1:Nat)) (0+1) a es.size ep/\Heap.SameBut it s.heap h') si.ty (fun r=>ZhK T si nx fun h' y sb=>r _ _ ⟨rfl,h',rfl,y,sb⟩) fun v s' ⟨e1,h',e',y,sb⟩=>?_;subst e1 e';exact q _ h' s.toks ⟨_,u,by simp [kst,he],q2⟩ ⟨⟨p+1,y,fun z=>by lia,fun j _ hj=>by rw [hp] at hj;simp at hj;lia⟩,T.keep fun o e=>sb.extBut _ _ n2 e⟩ fun b o hb e=>sb.extBut _ _ (by simpa using hb) e
 done:=fun s Q E ⟨⟨sl,si,r0,r1⟩,T⟩ q=>by
   have nx:∀ {A':Around}{E':Value->Shared->Prop}{Q':Option (Value×Nat)->Shared->Prop},Q' none s->wpAny (model prog w) A' (setNext a sl es.size ep) Q' E' s:=fun h=>Zfy T b z (by
     rcases (by lia:es.size=0\/es.size=1) with k|k
     . rw [Array.getElem?_eq_none (by lia)];exact h
     . obtain ⟨p,hp⟩:=Zio (show t.place.size=1 by rw [T.place];exact k);rw [r1 p k hp,hp,Zo9,Array.getElem?_eq_none (by lia)];exact h)
   exact ZfY (R:=fun h'=>∀ b o,b≠it->s.heap.get? b=some o->h'.get? b=some o) si.ty (fun r=>ZjN (by simp [hh]) T si nx fun h' e kp he=>r h' e kp he) fun h' kp=>q h' s.toks fun b o hb e=>kp b o (by simpa using hb) e
 self:=fun i s Q E ⟨⟨sl,si,_⟩,_⟩ q=>si.self q
theorem ZkZ{Q:Value->Shared->Prop}(hh:A.handled=none)(T:XSet prog w (Zaw w) s.heap a es ep t)
   (q:∀ h' d it fp out St,Walks prog w A it fp [it] es.size (Tx2 out) St->St 0 h'->out.Perm (kst es)->s.heap.objs.size<=it->(∀ b∈fp,b=a\/s.heap.objs.size<=b)->(∀ b o,s.heap.get? b=some o->h'.get? b=some o)->Q (.ref it) {s with heap:=h',drawn:=d}) :
   wpAny (model prog w) A (pyIter (.ref a)) Q E s:=by
 have la:a<s.heap.objs.size:=by obtain ⟨o,ho,_⟩:=T.at';exact Heap.lt_size ho
 refine Zmm T (fun k h' si kp=>?_) fun k b h' d ps pm ht si kp=>?_
 . have T':=T.keep fun o e=>kp a o e;have e0:({s with heap:=h'}:Shared)={s with heap:=h',drawn:=s.drawn}:=rfl;rw [e0];by_cases b:w.params.followText "set-order" = true
   . exact q h' s.drawn _ _ _ _ (Zh4 hh b (Ou la)) ⟨si,T'⟩ ((Zdw _ _).map _) (Oq _) (fun c hc=>by simp at hc;rcases hc with rfl|rfl;exact .inr (Oq _);exact .inl rfl) kp
   . exact q h' s.drawn _ _ _ _ (Zh5 hh (by simpa using b) (k.resolve_right b) (Ou la)) ⟨⟨0,si,fun _=>rfl,fun j z=>by cases z⟩,T'⟩ (List.Perm.refl _) (Oq _) (fun c hc=>by simp at hc;rcases hc with rfl|rfl;exact .inr (Oq _);exact .inl rfl) kp
 . have T':=T.keep fun o e=>kp a o e;exact q h' d _ _ _ _ (ZgN hh pm (Ou (OH _)) (by lia)) ⟨si,ht,T'⟩ (by rw [<- Zni];exact pm.map _) (Nat.le_succ _) (fun c hc=>by simp at hc;rcases hc with rfl|rfl|rfl;exact .inr (Nat.le_succ _);exact .inr (Oq _);exact .inl rfl) kp
end
end L2
end
section
namespace L2
open PySem PySem.Spec PyProof.Rows
section
variable {prog:Program}{w:World}{A:Around}{E:Value->Shared->Prop}{s:Shared}{a it tp:Addr}{es:Array (Int×Value)}{ep:Nat}{t:SetTable}{led:Bool}
theorem Zmq {Q:Bool->Shared->Prop} (hT:s.TypeIs (.ref a) "set") (h:Q false s):wpAny (model prog w) A (Builtin.List.listLengthHint (.ref a)) Q E s:=by
 unfold Builtin.List.listLengthHint;refine wpAny_bind (wpAny_specialOf hT PySem.F.slot_set_len.lookup ?_);generalize e:("set.__len__" : String)=k
 wp_delta
 rw [show splitId k=some ("set", "__len__") from by subst e;decide +kernel];subst e;refine wpAny_bind (wpAny_isInstance (T := "set") (b:=true) hT (by rw [isSubtype_type];kernel_rfl) (wpAny_ite_split (fun z=>absurd z (by decide)) fun _=>wpAny_ite_split (fun _=>?_) fun z=>absurd (by decide +kernel) z));exact wpAny_bind (wpAny_typeOf hT (wpAny_pure h))
theorem ZoN {R:Result->Shared->Prop} (hh:A.handled=none) (T:XSet prog w (Zaw w) s.heap a es ep t) {S_:Addr}{res:Value}{c0:Nat} (nS:S_≠a) (hS:s.heap.get? S_=some {cls:=.type "list",data:=.seq #[] c0})
   (q:∀ h' tk d acc c out,(∀ b o,b≠S_->s.heap.get? b=some o->h'.get? b=some o)->h'.get? S_=some {cls:=.type "list",dict:=none,data:=.seq acc c,slots:=#[]}->ItemsOf (Tx2 out) acc es.size->out.Perm (kst es)->R (.ok (.ret res)) {s with heap:=h',toks:=tk,drawn:=d}) :
   wpAny (model prog w) A.in1 (Builtin.List.listExtendWith (.ref S_) (.ref a) res)
     (fun fin s'=>match fin with|.done f=>R (.ok f) s'|.again c'=>c'.quiet=true/\codeAny (model prog w) A c' R s') (fun e s'=>R (.error e) s') s:=by
 have ty:∀ {h':Heap}{d:Drawn},(∀ b o,s.heap.get? b=some o->h'.get? b=some o)->Shared.TypeIs {s with heap:=h',drawn:=d} (.ref a) "set" := fun kp=>by
   obtain ⟨o,ho,hx,_⟩:=T.at';exact ⟨o,kp _ _ ho,hx.1⟩
 have lS:S_<s.heap.objs.size:=Heap.lt_size hS;unfold Builtin.List.listExtendWith;refine wpAny_bind (wpAny_typeOf (T := "set") (ty (h':=s.heap) (d:=s.drawn) fun _ _ e=>e) ?_);have h1:Builtin.List.listSameRef (.ref S_) (.ref a)=false:=by simp [Builtin.List.listSameRef,nS]
 simp only [h1,show (Value.type "set" == Value.type "list")=false by decide,show (Value.type "set" == Value.type "tuple")=false by decide,Bool.or_false,OG,if_false];refine wpAny_bind (ZkZ (by simp [hh]) T fun h' d it fp out St W st pm li hf kp=>?_);have nf:S_ ∉ fp:=fun z=>by rcases hf S_ z with e|e;exact nS e;lia
 have key:∀ (h:Heap) (c:Nat),St 0 h->(∀ b o,b≠S_->s.heap.get? b=some o->h.get? b=some o)->h.get? S_=some {cls:=.type "list",data:=.seq #[] c}->codeAny (model prog w) A (.builtin "list.extend.loop" ⟨[.ref S_,.ref it,res],[]⟩) R {s with heap:=h,drawn:=d}:=fun h c st k hS=>by
   refine codeAny_extend_loopS W.toS (fits_of_scanBound T.sz) S_ nf res es.size 0 _ #[] c rfl (Nat.zero_le _) st hS (ItemsOf.nil _) fun s' acc c' m hS' ha=>?_;rw [Moved.eq_with m];refine q s'.heap s'.toks d acc c' out (fun b o nb e=>m.heap b o (fun z=>?_) (k b o nb e)) hS' ha pm;rcases O2.mp z with z|z
   . exact nb z
   . have:=Heap.lt_size e;rw [Ox.mp z] at this;lia
 have hS1:=kp _ _ hS;refine wpAny_bind (wpAny_holding (Zmq (ty kp) ?_));refine wpAny_ite_split (fun _=>?_) (fun _=>wpAny_pure ⟨plainId_quiet PySem.F.plain_extend_loop _,key _ c0 st (fun b o _ e=>kp b o e) hS1⟩);refine wpAny_bind (wpAny_rule (wpAny_bind ?_));show wpAny _ _ (updateSeq S_ (·.push .none) >>= fun _=>updateSeq S_ (·.pop)) _ _ _;refine wpAny_bind (wpAny_updateSeq hS1 rfl ?_);have hS2:=Heap.get?_update_self (Obj.mapSeq (·.push Value.none)) hS1 rfl;refine wpAny_updateSeq (hz:=by seq_fits) hS2 rfl ?_;have hS3:=Heap.get?_update_self (Obj.mapSeq (·.pop)) hS2 rfl;have up:∀ b o,b≠S_->h'.get? b=some o->((h'.update S_ (Obj.mapSeq (·.push Value.none))).update S_ (Obj.mapSeq (·.pop))).get? b=some o:=fun b o nb e=>(Heap.get?_update_other _ _ (Ne.symm nb)).trans ((Heap.get?_update_other _ _ (Ne.symm nb)).trans e);exact wpAny_pure ⟨plainId_quiet PySem.F.plain_extend_loop _,key _ _ (W.frame 0 _ _ st fun b hb o e=>up b o (fun z=>nf (z ▸ hb)) e) (fun b o nb e=>up b o nb (kp b o e)) hS3⟩
end
end L2
end
section
namespace L2
open PySem PySem.Spec PyProof.Rows
theorem Zjc:∀ (out:List Str) (vs:List Value),vs.length=out.length->(∀ (j:Nat) (v:Value),vs[j]? = some v->Tx2 out j v)->StrsAre vs out
 | [],[],_,_=>.nil
 | x::out,v::vs,hl,h=>by
   obtain ⟨y,u,e,rfl⟩:=h 0 v rfl;cases e;exact .cons _ u (Zjc out vs (by simpa using hl) fun j u hu=>h (j+1) u (by simpa using hu))
section
variable {prog:Program}{w:World}{A:Around}{E:Value->Shared->Prop}{s:Shared}{a it tp:Addr}{es:Array (Int×Value)}{ep:Nat}{t:SetTable}{led:Bool}
theorem ZhF{R:List Value->Shared->Prop}(hh:A.handled=none)(T:XSet prog w (Zaw w) s.heap a es ep t)
   (h:∀ (h':Heap) (tk:Nat) (d:Drawn) (vs:List Value) (out:List Str),s.heap.objs.size<=h'.objs.size->(∀ b o,s.heap.get? b=some o->h'.get? b=some o)->StrsAre vs out->out.Perm (kst es)->R vs {s with heap:=h',toks:=tk,drawn:=d}) :
   wpAny (model prog w) A (collect (.ref a)) R E s:=by
 have la:a<s.heap.objs.size:=by obtain ⟨o,ho,_⟩:=T.at';exact Heap.lt_size ho
 unfold collect;refine wpAny_bind (wpAny_runValue (codeAny_builtin entry_proto_collect' ?_));rw [Around.under_plainId PySem.F.plain_proto_collect _];show wpAny _ A.in1 (newList [] >>= fun x=>again (.builtin "list.__iadd__" ⟨[x,.ref a],[]⟩)) _ _ s;refine wpAny_bind (wpAny_newObj_type (wpAny_pure ⟨plainId_quiet PySem.F.plain_list_iadd _,codeAny_builtin entry_list_iadd' ?_⟩));rw [Around.under_plainId PySem.F.plain_list_iadd _];have e0:(s.heap.push {cls:=.type "list",data:=.seq ([]:List Value).toArray}).get? s.heap.objs.size=some {cls:=.type "list",data:=.seq #[]}:=Oj _ rfl;show wpAny _ A.in1 (Builtin.List.listExtendWith (.ref s.heap.objs.size) (.ref a) (.ref s.heap.objs.size)) _ _ _;have key:=ZoN (A:=A) (s:={s with heap:=s.heap.push {cls:=.type "list",data:=.seq ([]:List Value).toArray}})
   (R:=fun (q:Result) (s':Shared)=>∃ (h':Heap) (tk:Nat) (d:Drawn) (acc:Array Value) (c:Nat) (out:List Str),q=.ok (.ret (.ref s.heap.objs.size))/\s'={s with heap:=h',toks:=tk,drawn:=d}/\(∀ b o,s.heap.get? b=some o->h'.get? b=some o)/\h'.get? s.heap.objs.size=some {cls:=.type "list",dict:=none,data:=.seq acc c,slots:=#[]}/\ItemsOf (Tx2 out) acc es.size/\out.Perm (kst es))
   hh (T.keep fun o e=>Od _ e) (S_:=s.heap.objs.size) (res:=.ref s.heap.objs.size) (Nat.ne_of_gt la) e0 fun h' tk d acc c out hk hS ha pm=>⟨h',tk,d,acc,c,out,rfl,rfl,fun b o e=>hk b o (Ou (Heap.lt_size e)) (Od _ e),hS,ha,pm⟩
 have last:∀ (h':Heap) (tk:Nat) (d:Drawn) (acc:Array Value) (c:Nat) (out:List Str),(∀ b o,s.heap.get? b=some o->h'.get? b=some o)->h'.get? s.heap.objs.size=some {cls:=.type "list",dict:=none,data:=.seq acc c,slots:=#[]}->ItemsOf (Tx2 out) acc es.size->out.Perm (kst es)->R acc.toList {s with heap:=h',toks:=tk,drawn:=d}:=fun h' tk d acc c out hk hS ha pm=>by
   refine h h' tk d acc.toList out (Nat.le_of_lt (Heap.lt_size hS)) hk (Zjc _ _ ?_ fun j v hv=>ha.2 j v (by rw [<- Array.getElem?_toList];exact hv)) pm;rw [Array.length_toList,ha.1,pm.length_eq];simp [kst]
 refine wpAny_mono key (fun fin s' x=>?_) fun e s' x=>?_
 . cases fin with
   | done f =>
     obtain ⟨h',tk,d,acc,c,out,e,rfl,hk,hS,ha,pm⟩:=x;cases e;exact wpAny_bind (wpAny_load hS (wpAny_pure (last h' tk d acc c out hk hS ha pm)))
   | again c₁ =>
     refine ⟨x.1,codeAny_mono x.2 fun q s₂ y=>?_⟩;obtain ⟨h',tk,d,acc,c,out,rfl,rfl,hk,hS,ha,pm⟩:=y;exact wpAny_bind (wpAny_load hS (wpAny_pure (last h' tk d acc c out hk hS ha pm)))
 . obtain ⟨_,_,_,_,_,_,z,_⟩:=x;cases z
theorem Zh9{Q:Value->Shared->Prop}(hh:A.handled=none)(T:XSet prog w (Zaw w) s.heap a es ep t)(h64:es.size<64)
   (h:∀ (D:Addr) (h':Heap) (tk:Nat) (d:Drawn) (out:List Value) (ss':List Str) (n:Nat),(∀ b o,s.heap.get? b=some o->h'.get? b=some o)->s.heap.objs.size<=D->h'.get? D=some {cls:=.type "list",data:=.seq out.toArray n}->StrsAre out ss'->ss'.Perm (kst es)->sortedS ss'=true ->
     Q (.ref D) {s with heap:=h',toks:=tk,drawn:=d}):wpAny (model prog w) A (call (.builtin "sorted") [.ref a]) Q E s:=by
 refine Calls.call_function_entry kind_sorted plain_sorted entry_sorted (args_sorted1 _) ?_;unfold Builtin.«sorted»;refine wpAny_bind (m:=checkCount "sorted" 1 1 _) (wpAny_pure (wpAny_bind (ZhF (by simp [hh]) T fun h' tk d vs out hsz hk hS pm=>?_)));have hlen:vs.length=es.size:=by
   have:=(Z5 hS).length;rw [List.length_map,pm.length_eq] at this;simpa [kst] using this.symm
 have hz:vs.length<=sizeLine:=by rw [sizeLine_eq];lia
 refine wpAny_bind (wpAny_newList ?_ hz);have hoL:(h'.push (seqObj "list" vs.toArray 0)).get? h'.objs.size=some (seqObj "list" vs.toArray 0):=Oj _ rfl;refine wpAny_bind (wpAny_holding (wpAny_call_entry slot_list_sort ⟨_,hoL,rfl⟩ entry_list_sort (list_sort_treeK strKind_oneLt hoL hS.keysOf (fun v₁ v₂ rest e=>keyKind_strs (by rw [<- e];exact hS)) (by lia) fun st' a1 a2=>⟨_,rfl,?_⟩) (args_list_sort _)));refine wpAny_pure ⟨_,rfl,?_⟩;obtain ⟨ss',h1,h2,h3⟩:=sorted_out_str hS a1 a2;obtain ⟨e,he⟩:=sortedHeap_at (out:=(arrOf st').map (·.2)) hoL;have e2:((arrOf st').map (·.2))=((arrOf st').map (·.2)).toList.toArray:=Array.toArray_toList.symm;refine h h'.objs.size _ tk d ((arrOf st').map (·.2)).toList ss' e (fun b o q=>?_) hsz (by rw [<- e2];exact he) h1 (h2.trans pm) h3;have q':=hk b o q;have hlt:=Heap.lt_size q';rw [sortedHeap_old (Ou hlt) (by rw [size_push'];exact Nat.lt_succ_of_lt hlt)];exact Od _ q'
end
end L2
end
section
namespace L2
open PySem PySem.Spec PyProof.Rows
section
variable {X:Cx}
theorem Inv.dr{pins:List (Addr×Obj)}{Z:St}{H:Hp}{s:Shared}(I:Inv X pins Z H s)(d:Drawn):Inv X pins Z H {s with drawn:=d} :=
 ⟨I.ok,I.os,I.bare,I.base,I.loc,I.cell,I.free,I.freeC,I.pin,I.hok,I.len⟩
noncomputable def Zp2(K:PySem.W.Frag)(te:TE):TE:=fun Z H Q=>te Z H fun x H1=>∃ (a:Addr) (ss:List Str),x=.ref a/\SqL K H1 a (ss.map V.str)/\ss.length+1<scanBound/\(∀ ks:List Str,ks.Nodup->(∀ x,x∈ks↔x∈ss)->ks.length<64) /\
 ∀ (p:Addr) (ss':List Str),H1 p=none->ss'.Nodup->(∀ x,x∈ss'↔x∈ss)->sortedS ss'=true->Q (.ref p) (upd H1 p (.lst (ss'.map V.str)))
theorem ZlK {e:Expr}{te:TE}{p p' q q':Pos} (hc:X.A.handled=none) (hg:Gl X "sorted") (hm:X.mg "sorted" = none) (hg':Gl X "set") (hm':X.mg "set" = none) (he:PE X e te) (hs:starEach [e] X.env=(false,eval e X.env)::starEach [] X.env) :
   PE X (.Call (.Name "sorted" p) [.Call (.Name "set" p') [e] [] q'] [] q) (Zp2 X.K te):=by
 intro pins s Z H Q I h;refine wpAny_Call_Name_kw (Zbt I hg hm (by decide +kernel:bootBuiltins "sorted" = some (.builtin "sorted")) ?_);refine PyProof.Rows.callWith_builtin1 (rest:=[]) ?_;show wpAny _ _ (spliced ((false,eval (.Call (.Name "set" p') [e] [] q') X.env)::backTo q (starEach [] X.env))) _ _ s;refine Calls.spliced_cons ?_;refine wpAny_Call_Name_kw (Zbt I hg' hm' (by decide +kernel:bootBuiltins "set" = some (.type "set")) ?_);refine PyProof.Rows.callWith_type1 (rest:=[]) ?_ hs rfl;rw [hs];show wpAny _ _ (spliced ((false,eval e X.env)::backTo q' (starEach [] X.env))) _ _ s;refine Calls.spliced_cons (thn (he pins s Z H _ I h) fun u s1 ⟨x,H1,I1,r1,q1⟩=>Calls.spliced_nil ?_);obtain ⟨a,ss,e0,hq,hb,h64,q2⟩:=q1;subst e0;obtain rfl:u=Value.ref a:=r1;obtain ⟨its,rv,pl,hz⟩:=I1.list hq;refine ZmN hc pl.isList (Zfo rv) hb fun h' tk k kp=>Calls.spliced_nil ?_;obtain ⟨es,ep,t,T,nd,mm,sz⟩:=k;have z64:es.size<64:=by have:=h64 (kst es) nd mm;simpa [kst] using this
 refine Zh9 (s:={s1 with heap:=h',toks:=tk}) hc T z64 fun D h'' tk' d out ss' n kp' lD hD st pm srt=>?_;have hlen:ss'.length<=sizeLine:=by rw [pm.length_eq];simp [kst];exact fits_of_scanBound T.sz
 have I2:=(I1.kept (t':=tk) kp).laid (a:=D) (o:=.lst (ss'.map V.str)) (t':=tk') kp' lD (show ZO X.prog X.w _ h'' _ (.lst (ss'.map V.str)) from ⟨by simpa using hlen,out,n,Z5 st,hD⟩);exact ⟨.ref D,_,I2.dr d,rfl,q2 D ss' ((I1.kept (t':=tk) kp).hok.fresh lD) (pm.nodup_iff.mpr nd) (fun x=>by rw [pm.mem_iff,mm]) srt⟩
end
end L2
end
section
namespace L2
open PySem PySem.Spec PyProof.Rows
section
variable {X:Cx}
noncomputable def Zqf(P:Program)(w:World)(K:PySem.W.Frag):List V->Hp->VK->Prop:=fun xs H Q=>∃ a kvs,∃ ss:List Str,xs=[.ref a]/\Dk P w K H a kvs/\kvs.map (·.1)=ss.map Sum.inr/\∀ p,H p=none->Q (.ref p) (upd H p (.lst (ss.map V.str)))
theorem ZiP (hc:X.A.handled=none):Zaa X (.type "list") (Zqf X.prog X.w X.K):=by
 intro pins s Z H xs us Q I r h;obtain ⟨a,kvs,ss,rfl,hd,hks,q⟩:=h;obtain ⟨u,rfl,ru⟩:=vals1 r;cases ru;obtain ⟨z,hm,vs,rel,dd⟩:=I.dk hd;obtain ⟨ep,hat⟩:=dd.dictAt;have hl:vs.length=kvs.length:=(Paired.length rel).symm;have hl2:kvs.length=ss.length:=by
   have:=congrArg List.length hks;simpa using this
 have hkey:∀ (j:Nat) k x,vs[j]? = some (k,x)->∃ y,ss[j]? = some y/\k=Sum.inr y:=fun j k x e=>by
   have hj:j<vs.length:=(Ob.mp e).1;have h1:kvs[j]? = some kvs[j]:=Og (by lia);obtain ⟨u,hu,hu2⟩:=ZcQ rel h1;rw [e] at hu;cases hu;have h3:(kvs.map (·.1))[j]? = some kvs[j].1:=by rw [On,h1];rfl
   rw [hks,On] at h3;obtain ⟨y,hy,e3⟩:=Oo.mp h3;exact ⟨y,hy,hu2.1.symm.trans e3.symm⟩
 refine PySem.W.kdl_call (PySem.W.kdl_dict (knd:=Zz X.prog X.w) (kvs:=vs) (ep:=ep) hm) hc hat (by lia) fun h' tk acc c hk ho hacc=>?_;have hS:=ZcP (P:=X.prog) (w:=X.w) ss acc.toList (by rw [Array.length_toList,hacc.1];lia) fun j v hv=>by
   obtain ⟨k,x,e,hk2⟩:=hacc.2 j v (by rw [<- Array.getElem?_toList];exact hv);obtain ⟨y,hy,rfl⟩:=hkey j k x e;exact ⟨y,hy,hk2⟩
 exact ⟨.ref s.heap.objs.size,_,I.laid (a:=s.heap.objs.size) (o:=.lst (ss.map V.str)) (t':=tk) hk (Oq _) ⟨by simp;lia,acc.toList,c,Z5 hS,by rw [Array.toArray_toList];exact ho⟩,rfl,q _ (I.hok.fresh (Oq _))⟩
noncomputable def ZuD(P:Program)(w:World)(K:PySem.W.Frag):V->V->Hp->VK->Prop:=fun x y H Q=>∃ a b ka kb,x=.ref a/\y=.ref b/\Dk P w K H a ka/\Dk P w K H b kb/\ka.length=kb.length/\(∀ k v,(k,v)∈ka->∃ v' d,Zcw kb k=some v'/\Dp K H v d/\Dp K H v' d/\d.depth<=60/\PyData.eqv d d=true)/\Q (.bl false) H
theorem hits(I:Inv X pins Z H s)(hu:X.A.in1.units+64<cLine){kb:List (Key×V)}{vb:List (Key×Value)}(rb:KV kb vb):∀ {ka:List (Key×V)}{va:List (Key×Value)},KV ka va->(∀ k v,(k,v)∈ka->∃ v' d,Zcw kb k=some v'/\Dp X.K H v d/\Dp X.K H v' d/\d.depth<=60/\PyData.eqv d d=true)->PySem.W.KeqHits X.A.in1 s vb va true
 | _,_,.nil,_=>.nil
 | (k,v)::ka,(k',u)::va,.cons h r,hv=>by
   obtain ⟨v',d,h1,h2,h3,h4,h5⟩:=hv k v (.head _);have ih:=hits I hu rb r fun k v m=>hv k v (.tail _ m);obtain ⟨e1,e2⟩:=h;cases e1;have rv:=rb.val k;rw [h1] at rv;cases hy:valueAt vb k with
   | none=>rw [hy] at rv;exact rv.elim
   | some y =>
     rw [hy] at rv;obtain ⟨as,q1⟩:=I.reads h2 e2;obtain ⟨bs,q2⟩:=I.reads h3 rv;have sh:SeqAt.shaped d=true:=by
       unfold SeqAt.shaped;rw [Oa];exact ⟨h2.lay,decide_eq_true (by lia)⟩
     have e:=PySem.W.keq_at q1 q2 sh sh hu;rw [h5] at e;exact PySem.W.KeqHits.hit (e:=true) (b:=true) hy e ih
theorem Zs3(hu:X.A.in1.units+64<cLine)(hu':X.A.units<cLine):OpR X (compareOp .NotEq) (ZuD X.prog X.w X.K):=by
 intro pins s Z H x y v u Q I rx ry h;obtain ⟨a,b,ka,kb,rfl,rfl,da,db,hl,hv,q⟩:=h;cases rx;cases ry;obtain ⟨z,hm,va,ra,dda⟩:=I.dk da;obtain ⟨z',hm',vb,rb,ddb⟩:=I.dk db;refine PySem.W.keq_ne hm hm' dda ddb hu' (fun _=>hits I hu rb ra hv) ⟨.bl false,H,I,?_,q⟩;have:va.length=vb.length:=by rw [<- ra.length,<- rb.length];exact hl
 simp [this];rfl
end
end L2
end
section
set_option tactic.hygienic false
namespace IV
open PySem PySem.Spec PyProof.Rows L2
inductive D where
 | non|bl (b:Bool)|int (i:Int)|str (x:Str)|tup (xs:List D)|ref (i:Nat)|ty (n:String)
 | ro (xs:List D)|kd (x:Str)
inductive DO where
 | lst (xs:List D)|dic (kvs:List (Key×D))|ins (C:Str) (fs:List (Str×D))
 | fdic (kvs:List (Key×D))
noncomputable abbrev Hd:=List DO
inductive R(α:Type) where
 | bad|ok (a:α) (h:Hd)|exc (c:Str) (h:Hd)
noncomputable def R.bind(r:R α)(k:α->Hd->R β):R β:=match r with
 | .bad=>.bad
 | .ok a h=>k a h
 | .exc c h=>.exc c h
theorem R.bind_ok:(R.ok a h).bind k=k a h:=rfl
theorem R.bind_bad:(R.bad:R α).bind k=.bad:=rfl
noncomputable def R.ofO(o:Option α)(h:Hd):R α:=match o with
 | some a=>.ok a h
 | none=>.bad
theorem R.ofO_some:R.ofO (some a) h=.ok a h:=rfl
noncomputable abbrev Ev:=List (Option D)
inductive Bf where
 | len|isi|int|tup|lst|sum|all|srt|mx|sri|lnd|dct|ldk
 deriving DecidableEq
inductive Mf where
 | app|ext|pop|rev|clr
 deriving DecidableEq
mutual
inductive Ex where
 | var (i:Nat)|cst (d:D)|glo (x:Str)
 | bin (op:Operator) (a b:Ex)|cmp (op:CmpOp) (a b:Ex)|cmp2 (op op':CmpOp) (a b c:Ex)
 | neg (a:Ex)|nt (a:Ex)|ands (es:Exs)|ors (es:Exs)|ite (c:Tx) (a b:Ex)
 | tupl (es:Exs)|lstl (es:Exs)|ix (a i:Ex)|sl (a:Ex) (lo hi:Option Ex)
 | blt (f:Bf) (es:Exs)|call (f:Str) (es:Exs)|meth (m:Mf) (o:Ex) (es:Exs)
 | comp (NC:List Str) (js:List (Option Nat)) (it:Ix) (g:Tg) (c:Option Tx) (e:Ex)
 | sorts (e:Ex)|dictl (ps:Exs)|maxd (e d:Ex)
 | att (Cs:List Str) (o:Ex) (f:Str)|mk (C:Str) (es:Exs)|mcl (C m:Str) (o:Ex) (es:Exs)|any
 | trev (e:Ex)|tix (o e:Ex)|lrv (e:Ex)|lix (o e:Ex)|lin (a b:Ex)
 | rpn (a b:Ex)
 | dne (a b:Ex)
inductive Exs where
 | nil|cons (e:Ex) (es:Exs)
inductive Ix where
 | pl (e:Ex)|rng (e:Ex)|rng2 (a b:Ex)|enu (e:Ex)|rev (e:Ex)
 | en1 (e:Ex)|en0 (e:Ex)|dk (e:Ex)
 | zp (a b:Ex)
 | zl (a b:Ex)
inductive Tg where
 | nm (i:Nat)|two (i j:Nat)|many (is:List Nat)
inductive Tx where
 | ex (e:Ex)|ands (ts:Txs)|ors (ts:Txs)|nt (a:Tx)
inductive Txs where
 | one (t:Tx)|cons (t:Tx) (ts:Txs)
end
mutual
inductive Sx where
 | ret (e:Ex)|set (g:Tg) (e:Ex)|put (o i e:Ex)|aug (i:Nat) (op:Operator) (e:Ex)|drp (e:Ex)
 | iff (c:Tx) (a b:Sxs)|whl (c:Tx) (b:Sxs)|forr (g:Tg) (it:Ix) (b:Sxs)|pas|brk|cnt
 | seta (Cs:List Str) (o:Ex) (f:Str) (e:Ex)|auga (Cs:List Str) (o:Ex) (f:Str) (e:Ex)|any
 | rai (C:Str) (e:Ex)|trs (i:Nat) (f:Str) (es:Exs) (C:Str)
 | unl (i j:Nat) (e:Ex)
 | trw (i n:Nat) (f:Str) (es:Exs) (C W w:Str)
inductive Sxs where
 | nil|cons (s:Sx) (r:Sxs)
end
noncomputable instance:DecidableEq D:=fun a b=>Classical.propDecidable (a=b)
noncomputable instance:DecidableEq DO:=fun a b=>Classical.propDecidable (a=b)
mutual
noncomputable def D.py(rd:Nat->Option PyData):D->Option PyData
 | .non=>some .none
 | .bl b=>some (.bool b)
 | .int i=>some (.int i)
 | .str x=>some (.str x)
 | .tup xs=>(D.pys rd xs).map .tuple
 | .ro xs=>(D.pys rd xs).map .list
 | .ref i=>rd i
 | _=>none
noncomputable def D.pys(rd:Nat->Option PyData):List D->Option (List PyData)
 | []=>some []
 | x::xs=>(D.py rd x).bind fun d=>(D.pys rd xs).map fun ds=>d::ds
end
noncomputable def Zdu(h:Hd):Nat->Nat->Option PyData
 | 0,_=>none
 | n+1,i=>match h[i]? with
   | some (.lst xs)=>(D.pys (Zdu h n) xs).map .list
   | _=>none
noncomputable def ZdZ(h:Hd)(d:D):Option PyData:=D.py (Zdu h 4) d
noncomputable def Zbs(o:DO)(h:Hd):R D:=.ok (.ref h.length) (h++[o])
noncomputable def lstOf(d:D)(h:Hd):Option (List D):=match d with
 | .ref i=>match h[i]? with
   | some (.lst xs)=>some xs
   | _=>none
 | .ro xs=>some xs
 | _=>none
noncomputable def dicOf(GD:Str->Option (List (Key×D)))(d:D)(h:Hd):Option (List (Key×D)):=match d with
 | .ref i=>match h[i]? with
   | some (.dic kvs)=>some kvs
   | some (.fdic kvs)=>some kvs
   | _=>none
 | .kd x=>GD x
 | _=>none
noncomputable def keyOf:D->Option Key
 | .int i=>some (.inl i)
 | .str x=>some (.inr x)
 | _=>none
noncomputable def ZX(kvs:List (Key×D))(k:Key):Option D:=(kvs.find? fun p=>decide (p.1=k)).map (·.2)
noncomputable def putD(kvs:List (Key×D))(k:Key)(v:D):List (Key×D) :=
 if (kvs.any fun kv=>decide (kv.1=k))=true then kvs.map (fun kv=>if kv.1=k then (kv.1,v) else kv) else kvs++[(k,v)]
noncomputable def cutD(xs:List D)(lo hi:Option Int):List D:=(xs.drop (HT.sIx xs.length 0 lo)).take (HT.sIx xs.length xs.length hi - HT.sIx xs.length 0 lo)
noncomputable def D.flat:D->Bool
 | .int _|.str _|.bl _|.non=>true
 | _=>false
noncomputable def eqF:D->D->Bool
 | .int i,.int j=>i==j
 | .str i,.str j=>i==j
 | .non,.non=>true
 | .bl i,.bl j=>i==j
 | .int i,.bl j=>i==(if j then 1 else 0)
 | .bl i,.int j=>(if i then 1 else 0)==j
 | _,_=>false
noncomputable def Zdr(GD:Str->Option (List (Key×D)))(d:D)(h:Hd):Option Bool:=match d with
 | .non=>some false
 | .bl b=>some b
 | .int i=>some (i != 0)
 | .str x=>if x.length<=sizeLine then some (!(x.length==0)) else none
 | .tup xs=>some (!xs.isEmpty)
 | .ref i=>match h[i]? with
   | some (.lst xs)=>some (!xs.isEmpty)
   | some (.dic xs)=>some (!xs.isEmpty)
   | _=>none
 | .ro xs=>some (!xs.isEmpty)
 | _=>none
noncomputable def int2(x y:D)(k:Int->Int->R D):R D:=match x with
 | .int i=>match y with
   | .int j=>k i j
   | _=>.bad
 | _=>.bad
noncomputable def ZkT(x y:D)(h:Hd):R D:=match x with
 | .int i=>match y with
   | .int j=>.ok (.int (i+j)) h
   | _=>.bad
 | .str i=>match y with
   | .str j=>if i.length+j.length<=sizeLine then .ok (.str (i++j)) h else .bad
   | _=>.bad
 | .tup xs=>match y with
   | .tup ys=>if xs.length+ys.length<=sizeLine then .ok (.tup (xs++ys)) h else .bad
   | _=>.bad
 | .ref i=>match y with
   | .ref j=>match h[i]? with
     | some (.lst xs)=>match h[j]? with
       | some (.lst ys)=>if xs.length+ys.length<=sizeLine then Zbs (.lst (xs++ys)) h else .bad
       | _=>.bad
     | _=>.bad
   | _=>.bad
 | _=>.bad
noncomputable def Ztd(x y:D)(h:Hd):R D:=match x with
 | .str z=>match y with
   | .int n=>if 0<=n/\n<=1000/\z.length<=1000 then .ok (.str (Zdt z n.toNat)) h else .bad
   | _=>.bad
 | x=>int2 x y fun i j=>if i.natAbs<2 ^ 2000/\j.natAbs<2 ^ 2000 then .ok (.int (i * j)) h else .bad
noncomputable def opB(op:Operator)(x y:D)(h:Hd):R D:=match op with
 | .Add=>ZkT x y h
 | .Sub=>int2 x y fun i j=>.ok (.int (i - j)) h
 | .Mult=>Ztd x y h
 | .Mod=>int2 x y fun i j=>if 0<j then .ok (.int (i % j)) h else .bad
 | .FloorDiv=>int2 x y fun i j=>if 0<j/\j<1073741824 then .ok (.int (i / j)) h else .bad
 | .Pow=>int2 x y fun i j=>if 0<=j/\j<=1000000/\i.natAbs<2 ^ 64 then .ok (.int (i ^ j.toNat)) h else .bad
 | _=>.bad
noncomputable def ZaR(neg:Bool)(x y:D)(h:Hd):R D:=match ZdZ h x,ZdZ h y with
 | some a,some b=>if min a.depth b.depth<=1100 then .ok (.bl (if neg then !PyData.eqv a b else PyData.eqv a b)) h else .bad
 | _,_=>.bad
noncomputable def seqOf(d:D)(h:Hd):Option (List D):=match d with
 | .tup xs=>some xs
 | d=>lstOf d h
noncomputable def Zaj(GD:Str->Option (List (Key×D)))(neg:Bool)(x y:D)(h:Hd):R D:=match seqOf y h with
 | some xs=>if x.flat&&xs.all D.flat then .ok (.bl (if neg then !xs.any (fun z=>eqF z x) else xs.any fun z=>eqF z x)) h else .bad
 | none=>match dicOf GD y h,keyOf x with
   | some kvs,some k=>.ok (.bl (if neg then !(ZX kvs k).isSome else (ZX kvs k).isSome)) h
   | _,_=>.bad
noncomputable def Zf2(f:Int->Int->Bool)(x y:D)(h:Hd):R D:=match x,y with
 | .int i,.int j=>.ok (.bl (f i j)) h
 | _,_=>.bad
noncomputable def opN(neg:Bool)(x y:D)(h:Hd):R D:=match y with
 | .non=>.ok (.bl (if neg then !decide (x=.non) else decide (x=.non))) h
 | _=>.bad
noncomputable def opC(GD:Str->Option (List (Key×D)))(op:CmpOp)(x y:D)(h:Hd):R D:=match op with
 | .Eq=>ZaR false x y h
 | .NotEq=>ZaR true x y h
 | .Lt=>Zf2 (fun i j=>decide (i<j)) x y h
 | .LtE=>Zf2 (fun i j=>decide (i<=j)) x y h
 | .Gt=>Zf2 (fun i j=>decide (j<i)) x y h
 | .GtE=>Zf2 (fun i j=>decide (j<=i)) x y h
 | .In=>Zaj GD false x y h
 | .NotIn=>Zaj GD true x y h
 | .Is=>opN false x y h
 | .IsNot=>opN true x y h
noncomputable def ZaE(GD:Str->Option (List (Key×D)))(x y:D)(h:Hd):R D:=match y with
 | .int i=>match seqOf x h with
   | some xs=>R.ofO (atI xs i) h
   | none=>match x with
     | .str z=>if z.length<=sizeLine then R.ofO ((atI z.cps.toList i).map fun c=>.str ⟨#[c]⟩) h else .bad
     | _=>match dicOf GD x h with
       | some kvs=>R.ofO (ZX kvs (.inl i)) h
       | none=>.bad
 | .str z=>match dicOf GD x h with
   | some kvs=>R.ofO (ZX kvs (.inr z)) h
   | none=>.bad
 | _=>.bad
noncomputable def Zg5(x:D)(l u:Option Int)(h:Hd):R D:=match x with
 | .tup xs=>.ok (.tup (cutD xs l u)) h
 | .str y=>if y.length<=sizeLine then .ok (.str (StrLaws.sliceText y l u)) h else .bad
 | d=>match lstOf d h with
   | some xs=>Zbs (.lst (cutD xs l u)) h
   | none=>.bad
noncomputable def Zsj(d:D)(h:Hd):Option String:=match d with
 | .int _=>some "int"
 | .str _=>some "str"
 | .bl _=>some "bool"
 | .non=>some "NoneType"
 | .tup _=>some "tuple"
 | d=>(lstOf d h).map fun _ => "list"
noncomputable def ZiD (t T:String):Option Bool:=if T∈["int", "str", "bool", "tuple", "list"]/\t∈["int", "str", "bool", "tuple", "list", "NoneType"] then some (t==T || (t == "bool" && T == "int")) else none
noncomputable def intsOf:List D->Option (List Int)
 | []=>some []
 | .int i::r=>(intsOf r).map fun z=>i::z
 | _=>none
noncomputable def ZpL:List D->Option (List Bool)
 | []=>some []
 | .bl i::r=>(ZpL r).map fun z=>i::z
 | _=>none
noncomputable def strsOf:List D->Option (List Str)
 | []=>some []
 | .str i::r=>(strsOf r).map fun z=>i::z
 | _=>none
noncomputable def Zad:List (Key×D)->Option (List Str)
 | []=>some []
 | (.inr x,_)::r=>(Zad r).map fun z=>x::z
 | _=>none
noncomputable def ZjD:List (Key×D)->Option (List Int)
 | []=>some []
 | (.inl x,_)::r=>(ZjD r).map fun z=>x::z
 | _=>none
noncomputable def ZsO(x:Int):List Int->List Int
 | []=>[x]
 | y::r=>if y<x then y::ZsO x r else x::y::r
noncomputable def Zpq:List Int->List Int
 | []=>[]
 | x::r=>ZsO x (Zpq r)
noncomputable def Zkl(x:Str):List Str->List Str
 | []=>[x]
 | y::r=>if ltCps y.cps.toList x.cps.toList then y::Zkl x r else x::y::r
noncomputable def ZQ:List Str->List Str
 | []=>[]
 | x::r=>Zkl x (ZQ r)
noncomputable def ddS:List Str->List Str
 | []=>[]
 | x::r=>if x∈r then ddS r else x::ddS r
noncomputable def Zm1(xs:List D)(h:Hd):R D:=match xs with
 | [.str y]=>if y.length<=sizeLine then .ok (.int y.length) h else .bad
 | [d]=>R.ofO ((seqOf d h).map fun xs=>.int xs.length) h
 | _=>.bad
noncomputable def ZrQ(xs:List D)(h:Hd):R D:=match xs with
 | [d,.ty T]=>R.ofO ((Zsj d h).bind fun t=>(ZiD t T).map .bl) h
 | _=>.bad
noncomputable def ZrR(xs:List D)(h:Hd):R D:=match xs with
 | [.int i]=>.ok (.int i) h
 | [.bl b]=>.ok (.int (if b then 1 else 0)) h
 | _=>.bad
noncomputable def ZiW(xs:List D)(h:Hd):R D:=match xs with
 | [.tup xs]=>.ok (.tup xs) h
 | [d]=>R.ofO ((lstOf d h).map .tup) h
 | _=>.bad
noncomputable def ZrP(xs:List D)(h:Hd):R D:=match xs with
 | [d]=>match seqOf d h with
   | some xs=>Zbs (.lst xs) h
   | none=>.bad
 | _=>.bad
noncomputable def ZmZ(xs:List D)(h:Hd):R D:=match xs with
 | [d]=>R.ofO (((lstOf d h).bind intsOf).map fun ns=>.int ns.sum) h
 | _=>.bad
noncomputable def Zu7(xs:List D)(h:Hd):R D:=match xs with
 | [d]=>R.ofO (((lstOf d h).bind ZpL).map fun bs=>.bl (bs.all id)) h
 | _=>.bad
noncomputable def ZbN(GD:Str->Option (List (Key×D)))(xs:List D)(h:Hd):R D:=match xs with
 | [d]=>match (dicOf GD d h).bind Zad with
   | some ss=>if ss.length<64/\ss.all PyData.strOk=true then Zbs (.lst ((ZQ ss).map .str)) h else .bad
   | none=>.bad
 | _=>.bad
noncomputable def Zu3(GD:Str->Option (List (Key×D)))(xs:List D)(h:Hd):R D:=match xs with
 | [d]=>match (dicOf GD d h).bind ZjD with
   | some ns=>if ns.length<64 then Zbs (.lst ((Zpq ns).map .int)) h else .bad
   | none=>.bad
 | _=>.bad
noncomputable def Zu5(GD:Str->Option (List (Key×D)))(xs:List D)(h:Hd):R D:=match xs with
 | [d]=>R.ofO ((dicOf GD d h).map fun kvs=>.int kvs.length) h
 | _=>.bad
noncomputable def Zm3(xs:List D)(h:Hd):R D:=match xs with
 | [.ref i]=>match h[i]? with
   | some (.dic kvs)=>Zbs (.dic kvs) h
   | _=>.bad
 | _=>.bad
noncomputable def Zm2(GD:Str->Option (List (Key×D)))(xs:List D)(h:Hd):R D:=match xs with
 | [d]=>match (dicOf GD d h).bind Zad with
   | some ss=>if ss.all PyData.strOk=true then Zbs (.lst (ss.map .str)) h else .bad
   | none=>.bad
 | _=>.bad
noncomputable def Zp9(h:Hd)(o:Option D)(d:D):Bool:=decide (o=some d)&&match ZdZ h d with
 | some p=>decide (p.depth<=60)&&PyData.eqv p p
 | none=>false
noncomputable def ZgH(GD:Str->Option (List (Key×D)))(x y:D)(h:Hd):R D:=match dicOf GD x h with
 | some k1=>match dicOf GD y h with
   | some k2=>if k1.length=k2.length/\(k1.all fun p=>Zp9 h (ZX k2 p.1) p.2)=true then .ok (.bl false) h else .bad
   | none=>.bad
 | none=>.bad
noncomputable def ZpO(x d:D)(h:Hd):R D:=match d with
 | .int d=>R.ofO (((lstOf x h).bind intsOf).map fun ns=>.int (Ztg ns d)) h
 | _=>.bad
noncomputable def bMx(xs:List D)(h:Hd):R D:=match xs with
 | [.int i,.int j]=>.ok (.int (if j > i then j else i)) h
 | [d]=>match (lstOf d h).bind intsOf with
   | some ns=>if ns≠[] then .ok (.int (Ztg ns 0)) h else .bad
   | none=>.bad
 | _=>.bad
noncomputable def Za7(GD:Str->Option (List (Key×D))):Bf->List D->Hd->R D
 | .len=>Zm1
 | .isi=>ZrQ
 | .int=>ZrR
 | .tup=>ZiW
 | .lst=>ZrP
 | .sum=>ZmZ
 | .all=>Zu7
 | .srt=>ZbN GD
 | .mx=>bMx
 | .sri=>Zu3 GD
 | .lnd=>Zu5 GD
 | .dct=>Zm3
 | .ldk=>Zm2 GD
noncomputable def ZpN(x:D)(h:Hd):R D:=match x with
 | .tup (y::ys)=>.ok (.tup (y::ys).reverse) h
 | _=>.bad
noncomputable def Zu4(x:D)(h:Hd):R D:=match x with
 | .tup ys=>Zbs (.lst ys.reverse) h
 | _=>.bad
noncomputable def Ztt:D->Bool
 | .tup _=>true
 | _=>false
noncomputable def Zpc(x y:D)(h:Hd):R D:=match x,y with
 | .tup xs,.str z=>match strsOf xs with
   | some ss=>R.ofO ((Tx.place z ss).map fun (j:Nat)=>.int (j:Int)) h
   | none=>.bad
 | _,_=>.bad
noncomputable def Zm0(x y:D)(h:Hd):R D:=match lstOf x h,y with
 | some xs,.str z=>match strsOf xs with
   | some ss=>R.ofO ((Tx.place z ss).map fun (j:Nat)=>.int (j:Int)) h
   | none=>.bad
 | _,_=>.bad
noncomputable def Zu6(x y:D)(h:Hd):R D:=match ZdZ h x,ZdZ h y with
 | some a,some (.list bs)=>if min (PyData.depthAll bs) a.depth<=1000 then .ok (.bl (bs.any fun b=>PyData.eqv b a)) h else .bad
 | _,_=>.bad
noncomputable def ZbT:List D->Option (List (Key×D))
 | []=>some []
 | k::v::r=>match keyOf k,ZbT r with
   | some k,some r=>some ((k,v)::r)
   | _,_=>none
 | _=>none
noncomputable def ZcS(kvs more:List (Key×D)):List (Key×D):=more.foldl (fun acc kv=>putD acc kv.1 kv.2) kvs
noncomputable def ZqW(i:Nat)(ys xs:List D)(h:Hd):R D:=match xs with
 | [d]=>if ys.length<sizeLine then .ok .non (h.set i (.lst (ys++[d]))) else .bad
 | _=>.bad
noncomputable def Zot(i:Nat)(ys xs:List D)(h:Hd):R D:=match xs with
 | [.ref j]=>match h[j]? with
   | some (.lst zs)=>if ys.length+zs.length<=sizeLine then .ok .non (h.set i (.lst (ys++zs))) else .bad
   | _=>.bad
 | [.tup zs]=>if ys.length+zs.length<=sizeLine then .ok .non (h.set i (.lst (ys++zs))) else .bad
 | _=>.bad
noncomputable def ZqV(i:Nat)(ys xs:List D)(h:Hd):R D:=match xs with
 | []=>match ys[ys.length - 1]? with
   | some y=>.ok y (h.set i (.lst ys.dropLast))
   | none=>.bad
 | _=>.bad
noncomputable def Zth(i:Nat)(ys xs:List D)(h:Hd):R D:=match xs with
 | []=>.ok .non (h.set i (.lst ys.reverse))
 | _=>.bad
noncomputable def Zti(i:Nat)(ys xs:List D)(h:Hd):R D:=match xs with
 | []=>.ok .non (h.set i (.lst []))
 | _=>.bad
noncomputable def shD(x:D)(h:Hd):R Str:=match ZdZ h x with
 | some d=>if L2.Zur d=true then .ok d.shown h else .bad
 | none=>.bad
noncomputable def Zff:Mf->Nat->List D->List D->Hd->R D
 | .app=>ZqW
 | .ext=>Zot
 | .pop=>ZqV
 | .rev=>Zth
 | .clr=>Zti
noncomputable def ZaI(m:Mf)(o:D)(xs:List D)(h:Hd):R D:=match o with
 | .ref i=>match h[i]? with
   | some (.lst ys)=>Zff m i ys xs h
   | _=>.bad
 | _=>.bad
noncomputable def ZcE(o:D)(h:Hd):Bool:=match o with
 | .ref i=>match h[i]? with
   | some (.lst _)=>true
   | _=>false
 | _=>false
noncomputable def ZaQ(o i v:D)(h:Hd):R Unit:=match o with
 | .ref a=>match h[a]? with
   | some (.lst xs)=>match i with
     | .int k=>match ixN xs.length k with
       | some j=>.ok () (h.set a (.lst (xs.set j v)))
       | none=>.bad
     | _=>.bad
   | some (.dic kvs)=>match keyOf i with
     | some k=>if kvs.length<sizeLine then .ok () (h.set a (.dic (putD kvs k v))) else .bad
     | none=>.bad
   | _=>.bad
 | _=>.bad
structure Wk where
 src:List (Nat×List D)
 xs:List D
noncomputable def Wk.stays:List (Nat×List D)->Hd->Bool
 | [],_=>true
 | (i,xs)::r,h=>decide (h[i]? = some (.lst xs))&&Wk.stays r h
noncomputable def ZaD(d:D)(h:Hd):Option Wk:=match d with
 | .tup xs=>some ⟨[],xs⟩
 | .ro xs=>some ⟨[],xs⟩
 | .ref i=>match h[i]? with
   | some (.lst xs)=>some ⟨[(i,xs)],xs⟩
   | _=>none
 | _=>none
noncomputable def Zfn(d:D)(h:Hd):Option Wk:=match d with
 | .ro xs=>some ⟨[],xs⟩
 | .ref i=>match h[i]? with
   | some (.lst xs)=>some ⟨[(i,xs)],xs⟩
   | _=>none
 | _=>none
noncomputable def Zi4(d:D)(h:Hd):Option Wk:=match d with
 | .tup xs=>some ⟨[],xs⟩
 | .ref i=>match h[i]? with
   | some (.lst xs)=>some ⟨[(i,xs)],xs⟩
   | _=>none
 | _=>none
noncomputable def Zab(lo:Int)(n:Nat):List D:=(List.range n).map fun (k:Nat)=>.int (lo+(k:Int))
noncomputable def Zb4(xs:List D):List D:=xs.mapIdx fun k x=>.tup [.int (k:Int),x]
noncomputable def ZrG(xs:List D):List D:=xs.mapIdx fun k x=>.tup [.int ((k+1:Nat):Int),x]
noncomputable def Zr5(xs ys:List D):List D:=List.zipWith (fun x y=>.tup [x,y]) xs ys
noncomputable def Zml:Key->D
 | .inl i=>.int i
 | .inr x=>.str x
noncomputable def zpD(x y:D)(h:Hd):R Wk:=match x with
 | .tup xs=>match y with
   | .tup ys=>if xs.length=ys.length then .ok ⟨[],Zr5 xs ys⟩ h else .bad
   | _=>.bad
 | _=>.bad
noncomputable def zlD(x y:D)(h:Hd):R Wk:=match x with
 | .ref i=>match y with
   | .ref j=>match h[i]? with
     | some (.lst xs)=>match h[j]? with
       | some (.lst ys)=>if xs.length=ys.length then .ok ⟨[(i,xs),(j,ys)],Zr5 xs ys⟩ h else .bad
       | _=>.bad
     | _=>.bad
   | _=>.bad
 | _=>.bad
noncomputable def Zmw(x:D)(h:Hd):R Wk:=match x with
 | .ref i=>match h[i]? with
   | some (.dic kvs)=>.ok ⟨[],kvs.map fun p=>Zml p.1⟩ (h.set i (.fdic kvs))
   | some (.fdic kvs)=>.ok ⟨[],kvs.map fun p=>Zml p.1⟩ h
   | _=>.bad
 | _=>.bad
noncomputable def ZaJ(i:Int):Bool:=decide (-(2 ^ 62)<=i)&&decide (i<2 ^ 62)
noncomputable def Zic:List Nat->List D->Ev->Ev
 | i::is,x::xs,S=>Zic is xs (S.set i (some x))
 | _,_,S=>S
noncomputable def ZaX(g:Tg)(d:D)(S:Ev):Option Ev:=match g with
 | .nm i=>some (S.set i (some d))
 | .two i j=>match d with
   | .tup [a,b]=>some ((S.set i (some a)).set j (some b))
   | _=>none
 | .many is=>match d with
   | .tup xs=>if xs.length=is.length then some (Zic is xs S) else none
   | _=>none
noncomputable def Zbd(js:List (Option Nat))(S:Ev):Ev:=js.map fun o=>o.bind fun j=>(S[j]?).join
inductive Fl where
 | nx|bk|ct|rt (d:D)
noncomputable def ZG(src:List (Nat×List D))(g:Tg)(body:Ev->Hd->R (Fl×Ev)):List D->Ev->Hd->R (Fl×Ev)
 | [],S,h=>if Wk.stays src h then .ok (.nx,S) h else .bad
 | d::ds,S,h=>if Wk.stays src h then match ZaX g d S with
     | none=>.bad
     | some ρ1=>(body ρ1 h).bind fun p h2=>match p with
       | (.nx,ρ2)=>ZG src g body ds ρ2 h2
       | (.ct,ρ2)=>ZG src g body ds ρ2 h2
       | (.bk,ρ2)=>.ok (.nx,ρ2) h2
       | (.rt d,ρ2)=>.ok (.rt d,ρ2) h2
   else .bad
noncomputable def ZP(test:Ev->Hd->R Bool)(body:Ev->Hd->R (Fl×Ev)):Nat->Ev->Hd->R (Fl×Ev)
 | 0,_,_=>.bad
 | n+1,S,h=>(test S h).bind fun b h1=>if b then (body S h1).bind fun p h2=>match p with
     | (.nx,ρ2)=>ZP test body n ρ2 h2
     | (.ct,ρ2)=>ZP test body n ρ2 h2
     | (.bk,ρ2)=>.ok (.nx,ρ2) h2
     | (.rt d,ρ2)=>.ok (.rt d,ρ2) h2
   else .ok (.nx,S) h1
@[reducible] def R.plain:R α->R α
 | .exc _ _=>.bad
 | r=>r
noncomputable def Zq(src:List (Nat×List D))(g:Tg)(test:Ev->Hd->R Bool)(elt:Ev->Hd->R D):List D->Ev->List D->Hd->R (List D)
 | [],_,acc,h=>if Wk.stays src h then .ok acc h else .bad
 | d::ds,S,acc,h=>if Wk.stays src h/\acc.length<sizeLine then match ZaX g d S with
     | none=>.bad
     | some ρ1=>(test ρ1 h).plain.bind fun b h1=>if b then (elt ρ1 h1).plain.bind fun x h2=>Zq src g test elt ds S (acc++[x]) h2 else Zq src g test elt ds S acc h1
   else .bad
noncomputable def ZrL(C:Str)(i:Nat)(S:Ev)(r:R D):R (Fl×Ev):=match r with
 | .bad=>.bad
 | .ok v h=>.ok (.nx,S.set i (some v)) h
 | .exc c h=>if c=C then .ok (.nx,S.set i (some .non)) h else .bad
noncomputable def ZrK(W w:Str)(i n:Nat)(S:Ev)(r:R D):R (Fl×Ev):=match r with
 | .bad=>.bad
 | .ok v h=>.ok (.nx,S.set i (some v)) h
 | .exc c h=>if c=W then .ok (.nx,((S.set n none).set i (some (.ref h.length))).set n none) (h++[.lst [.str w,.bl true]]) else .bad
noncomputable def mnm (C m:Str):Str:=C++(O "." ++ m)
noncomputable def ZR(d:D)(h:Hd):Option (Str×List (Str×D)):=match d with
 | .ref i=>match h[i]? with
   | some (.ins C fs)=>some (C,fs)
   | _=>none
 | _=>none
noncomputable def Zfh(Cs:List Str)(f:Str)(x:D)(h:Hd):R D:=match ZR x h with
 | some (C,fs)=>if C∈Cs then R.ofO (fs.lookup f) h else .bad
 | none=>.bad
noncomputable def Zkm(f:Str)(v:D):List (Str×D)->List (Str×D)
 | []=>[(f,v)]
 | (g,x)::r=>if g=f then (g,v)::r else (g,x)::Zkm f v r
noncomputable def ZfT(Cs:List Str)(f:Str)(x d:D)(h:Hd):R D:=match x with
 | .ref i=>match h[i]? with
   | some (.ins C fs)=>if C∈Cs/\fs.length<1000 then .ok .non (h.set i (.ins C (Zkm f d fs))) else .bad
   | _=>.bad
 | _=>.bad
noncomputable def Zl5 (Cf:Str->List D->Hd->R D) (C:Str) (xs:List D) (h:Hd):R D:=(Cf (mnm C (O "__init__")) (.ref h.length::xs) (h++[.ins C []])).bind fun d h2=>match d with
 | .non=>.ok (.ref h.length) h2
 | _=>.bad
structure Tb where
 G:Str->Option D
 GD:Str->Option (List (Key×D))
 C:Str->List D->Hd->R D
 L:Nat
mutual
noncomputable def ev(T:Tb):Ex->Ev->Hd->R D
 | .var i,S,h=>R.ofO (S[i]?).join h
 | .cst d,_,h=>.ok d h
 | .glo x,_,h=>R.ofO (T.G x) h
 | .bin op a b,S,h=>(ev T a S h).bind fun x h1=>(ev T b S h1).bind fun y h2=>opB op x y h2
 | .cmp op a b,S,h=>(ev T a S h).bind fun x h1=>(ev T b S h1).bind fun y h2=>opC T.GD op x y h2
 | .cmp2 op op' a b c,S,h=>(ev T a S h).bind fun x h1=>(ev T b S h1).bind fun y h2=>(opC T.GD op x y h2).bind fun r h3=>match r with
   | .bl true=>(ev T c S h3).bind fun z h4=>opC T.GD op' y z h4
   | .bl false=>.ok (.bl false) h3
   | _=>.bad
 | .neg a,S,h=>(ev T a S h).bind fun x h1=>match x with
   | .int i=>.ok (.int (-i)) h1
   | _=>.bad
 | .nt a,S,h=>(ev T a S h).bind fun x h1=>match x with
   | .bl b=>.ok (.bl (!b)) h1
   | _=>.bad
 | .ands es,S,h=>evAnd T es S h
 | .ors es,S,h=>evOr T es S h
 | .ite c a b,S,h=>(tst T c S h).bind fun c h1=>if c then ev T a S h1 else ev T b S h1
 | .tupl es,S,h=>(evs T es S h).bind fun xs h1=>if xs.length<=sizeLine then .ok (.tup xs) h1 else .bad
 | .lstl es,S,h=>(evs T es S h).bind fun xs h1=>if xs.length<=sizeLine then Zbs (.lst xs) h1 else .bad
 | .ix a i,S,h=>(ev T a S h).bind fun x h1=>(ev T i S h1).bind fun y h2=>ZaE T.GD x y h2
 | .sl a lo hi,S,h=>(ev T a S h).bind fun x h1=>(evo T lo S h1).bind fun l h2=>(evo T hi S h2).bind fun u h3=>Zg5 x l u h3
 | .blt f es,S,h=>(evs T es S h).bind fun xs h1=>Za7 T.GD f xs h1
 | .call f es,S,h=>(evs T es S h).bind fun xs h1=>T.C f xs h1
 | .meth m o es,S,h=>(ev T o S h).bind fun x h1=>if ZcE x h1 then (evs T es S h1).bind fun xs h2=>ZaI m x xs h2 else .bad
 | .comp _ js it g c e,S,h=>(evi T it S h).bind fun w h1=>(Zq w.src g (tsto T c) (ev T e) w.xs (Zbd js S) [] h1).bind fun xs h2=>Zbs (.lst xs) h2
 | .sorts e,S,h=>(ev T e S h).bind fun x h1=>match (lstOf x h1).bind strsOf with
   | some ss=>if ss.length<4000/\(ddS ss).length<64/\ss.all PyData.strOk=true then Zbs (.lst ((ZQ (ddS ss)).map .str)) h1 else .bad
   | none=>.bad
 | .maxd e d,S,h=>(ev T e S h).bind fun x h1=>(ev T d S h1).bind fun y h2=>ZpO x y h2
 | .dictl ps,S,h=>(evs T ps S h).bind fun xs h1=>match ZbT xs with
   | some kvs=>if kvs.length<=15 then Zbs (.dic (ZcS [] kvs)) h1 else .bad
   | none=>.bad
 | .att Cs o f,S,h=>(ev T o S h).bind fun x h1=>Zfh Cs f x h1
 | .mk C es,S,h=>(evs T es S h).bind fun xs h1=>Zl5 T.C C xs h1
 | .mcl C m o es,S,h=>(ev T o S h).bind fun x h1=>match ZR x h1 with
   | some (C',fs)=>if C'=C/\fs.lookup m=none then (evs T es S h1).bind fun xs h2=>T.C (mnm C m) (x::xs) h2 else .bad
   | none=>.bad
 | .any,_,_=>.bad
 | .trev e,S,h=>(ev T e S h).bind fun x h1=>ZpN x h1
 | .lrv e,S,h=>(ev T e S h).bind fun x h1=>Zu4 x h1
 | .tix o e,S,h=>(ev T o S h).bind fun x h1=>if Ztt x then (ev T e S h1).bind fun y h2=>Zpc x y h2 else .bad
 | .lix o e,S,h=>(ev T o S h).bind fun x h1=>if ZcE x h1 then (ev T e S h1).bind fun y h2=>Zm0 x y h2 else .bad
 | .lin a b,S,h=>(ev T a S h).bind fun x h1=>(ev T b S h1).bind fun y h2=>Zu6 x y h2
 | .dne a b,S,h=>(ev T a S h).bind fun x h1=>(ev T b S h1).bind fun y h2=>ZgH T.GD x y h2
 | .rpn a b,S,h=>(ev T a S h).bind fun x h1=>(shD x h1).bind fun p h1=>(ev T b S h1).bind fun y h2=>(shD y h2).bind fun q h3=>.ok (.bl (!decide (p=q))) h3
noncomputable def evs(T:Tb):Exs->Ev->Hd->R (List D)
 | .nil,_,h=>.ok [] h
 | .cons e es,S,h=>(ev T e S h).bind fun x h1=>(evs T es S h1).bind fun xs h2=>.ok (x::xs) h2
noncomputable def evAnd(T:Tb):Exs->Ev->Hd->R D
 | .nil,_,_=>.bad
 | .cons e es,S,h=>match es with
   | .nil=>ev T e S h
   | .cons _ _=>(ev T e S h).bind fun x h1=>match x with
     | .bl true=>evAnd T es S h1
     | .bl false=>.ok (.bl false) h1
     | _=>.bad
noncomputable def evOr(T:Tb):Exs->Ev->Hd->R D
 | .nil,_,_=>.bad
 | .cons e es,S,h=>match es with
   | .nil=>ev T e S h
   | .cons _ _=>(ev T e S h).bind fun x h1=>match x with
     | .bl true=>.ok (.bl true) h1
     | .bl false=>evOr T es S h1
     | _=>.bad
noncomputable def evo(T:Tb):Option Ex->Ev->Hd->R (Option Int)
 | none,_,h=>.ok none h
 | some e,S,h=>(ev T e S h).bind fun x h1=>match x with
   | .int i=>.ok (some i) h1
   | _=>.bad
noncomputable def tst(T:Tb):Tx->Ev->Hd->R Bool
 | .ex e,S,h=>(ev T e S h).bind fun x h1=>R.ofO (Zdr T.GD x h1) h1
 | .ands ts,S,h=>tstAnd T ts S h
 | .ors ts,S,h=>tstOr T ts S h
 | .nt a,S,h=>(tst T a S h).bind fun c h1=>.ok (!c) h1
noncomputable def tstAnd(T:Tb):Txs->Ev->Hd->R Bool
 | .one t,S,h=>tst T t S h
 | .cons t ts,S,h=>(tst T t S h).bind fun c h1=>if c then tstAnd T ts S h1 else .ok false h1
noncomputable def tstOr(T:Tb):Txs->Ev->Hd->R Bool
 | .one t,S,h=>tst T t S h
 | .cons t ts,S,h=>(tst T t S h).bind fun c h1=>if c then .ok true h1 else tstOr T ts S h1
noncomputable def tsto(T:Tb):Option Tx->Ev->Hd->R Bool
 | none,_,h=>.ok true h
 | some e,S,h=>tst T e S h
noncomputable def evi(T:Tb):Ix->Ev->Hd->R Wk
 | .pl e,S,h=>(ev T e S h).bind fun x h1=>R.ofO (ZaD x h1) h1
 | .rng e,S,h=>(ev T e S h).bind fun x h1=>match x with
   | .int j=>if ZaJ j then .ok ⟨[],Zab 0 j.toNat⟩ h1 else .bad
   | _=>.bad
 | .rng2 a b,S,h=>(ev T a S h).bind fun x h1=>(ev T b S h1).bind fun y h2=>match x,y with
   | .int i,.int j=>if ZaJ i&&ZaJ j then .ok ⟨[],Zab i (j - i).toNat⟩ h2 else .bad
   | _,_=>.bad
 | .enu e,S,h=>(ev T e S h).bind fun x h1=>R.ofO ((Zfn x h1).map fun w=>⟨w.src,Zb4 w.xs⟩) h1
 | .rev e,S,h=>(ev T e S h).bind fun x h1=>R.ofO ((Zi4 x h1).map fun w=>⟨w.src,w.xs.reverse⟩) h1
 | .en1 e,S,h=>(ev T e S h).bind fun x h1=>match x with
   | .tup xs=>.ok ⟨[],ZrG xs⟩ h1
   | _=>.bad
 | .en0 e,S,h=>(ev T e S h).bind fun x h1=>match x with
   | .tup xs=>.ok ⟨[],Zb4 xs⟩ h1
   | _=>.bad
 | .dk e,S,h=>(ev T e S h).bind fun x h1=>Zmw x h1
 | .zp a b,S,h=>(ev T a S h).bind fun x h1=>(ev T b S h1).bind fun y h2=>zpD x y h2
 | .zl a b,S,h=>(ev T a S h).bind fun x h1=>(ev T b S h1).bind fun y h2=>zlD x y h2
end
noncomputable def Zt8(i j:Nat)(S:Ev)(x:D)(h:Hd):R (Fl×Ev):=match lstOf x h with
 | some [a,b]=>.ok (.nx,(S.set i (some a)).set j (some b)) h
 | _=>.bad
mutual
noncomputable def xs1(T:Tb):Sx->Ev->Hd->R (Fl×Ev)
 | .ret e,S,h=>(ev T e S h).bind fun x h1=>.ok (.rt x,S) h1
 | .set g e,S,h=>(ev T e S h).bind fun x h1=>(R.ofO (ZaX g x S) h1).bind fun ρ1 h2=>.ok (.nx,ρ1) h2
 | .put o i e,S,h=>(ev T e S h).bind fun x h1=>(ev T o S h1).bind fun y h2=>(ev T i S h2).bind fun z h3=>(ZaQ y z x h3).bind fun _ h4=>.ok (.nx,S) h4
 | .aug i op e,S,h=>(R.ofO (S[i]?).join h).bind fun x h1=>(ev T e S h1).bind fun y h2=>match op,x,y with
   | .Add,.int a,.int b=>.ok (.nx,S.set i (some (.int (a+b)))) h2
   | _,_,_=>.bad
 | .drp e,S,h=>(ev T e S h).bind fun _ h1=>.ok (.nx,S) h1
 | .iff c a b,S,h=>(tst T c S h).bind fun t h1=>if t then xs2 T a S h1 else xs2 T b S h1
 | .whl c b,S,h=>ZP (tst T c) (xs2 T b) T.L S h
 | .forr g it b,S,h=>(evi T it S h).bind fun w h1=>ZG w.src g (xs2 T b) w.xs S h1
 | .pas,S,h=>.ok (.nx,S) h
 | .brk,S,h=>.ok (.bk,S) h
 | .cnt,S,h=>.ok (.ct,S) h
 | .seta Cs o f e,S,h=>(ev T e S h).bind fun d h1=>(ev T o S h1).bind fun x h2=>(ZfT Cs f x d h2).bind fun _ h3=>.ok (.nx,S) h3
 | .auga Cs o f e,S,h=>(ev T o S h).bind fun x h1=>(Zfh Cs f x h1).bind fun v h2=>(ev T e S h2).bind fun y h3=>match v,y with
   | .int a,.int b=>if (ZR x h1).map (·.1)=(ZR x h3).map (·.1) then (ZfT Cs f x (.int (a+b)) h3).bind fun _ h4=>.ok (.nx,S) h4 else .bad
   | _,_=>.bad
 | .any,_,_=>.bad
 | .rai C e,S,h=>(ev T e S h).bind fun _ h1=>.exc C h1
 | .trs i f es C,S,h=>(evs T es S h).plain.bind fun xs h1=>ZrL C i S (T.C f xs h1)
 | .unl i j e,S,h=>(ev T e S h).bind fun x h1=>Zt8 i j S x h1
 | .trw i n f es _ W w,S,h=>(evs T es S h).plain.bind fun xs h1=>ZrK W w i n S (T.C f xs h1)
noncomputable def xs2(T:Tb):Sxs->Ev->Hd->R (Fl×Ev)
 | .nil,S,h=>.ok (.nx,S) h
 | .cons s r,S,h=>(xs1 T s S h).bind fun p h1=>match p with
   | (.nx,ρ1)=>xs2 T r ρ1 h1
   | p=>.ok p h1
end
structure Fd where
 ps:List Str
 N:List Str
 body:Sxs
structure Pg where
 tb:List (Str×Fd)
 G:Str->Option D
 GD:Str->Option (List (Key×D))
 L:Nat
 ms:List (Str×Fd):=[]
noncomputable def Pg.look(P:Pg)(f:Str):Option Fd:=match P.tb.lookup f with
 | some fd=>some fd
 | none=>P.ms.lookup f
noncomputable def ZL(N:List Str)(ds:List D):Ev:=ds.map some++List.replicate (N.length - ds.length) none
noncomputable def Zt:R (Fl×Ev)->R D
 | .ok (.rt d,_) h=>.ok d h
 | .ok (.nx,_) h=>.ok .non h
 | .exc c h=>.exc c h
 | _=>.bad
noncomputable def run(P:Pg):Nat->Str->List D->Hd->R D
 | 0,_,_,_=>.bad
 | n+1,f,ds,h=>match P.look f with
   | none=>.bad
   | some fd=>if ds.length=fd.ps.length then Zt (xs2 ⟨P.G,P.GD,run P n,P.L⟩ fd.body (ZL fd.N ds) h) else .bad
noncomputable def Pg.tbl(P:Pg)(n:Nat):Tb:=⟨P.G,P.GD,run P n,P.L⟩
end IV
end
section
set_option tactic.hygienic false
namespace IV
open PySem PySem.Spec PyProof.Rows L2
noncomputable def FzL(K:PySem.W.Frag)(H:Hp)(a:Addr)(xs:List V):Prop :=
 (∃ o,H a=some (.frz o (.lst xs)))\/∃ (o:Obj) (its:Array Value) (n:Nat),K.lookup a=some o/\o.cls=.type "list" /\ o.dict=none/\o.data=.seq its n/\its.size<=sizeLine/\Zh xs its.toList
theorem FzL.sq{K:PySem.W.Frag}(h:FzL K H a xs):SqL K H a xs:=h.elim (fun ⟨o,h⟩=>.inl (.inr ⟨o,h⟩)) .inr
structure Yx where
 K:PySem.W.Frag
 mg:Str->Option Value
mutual
inductive RD(Y:Yx)(H:Hp)(B:List Addr):D->V->Prop
 | non:RD Y H B .non .non
 | bl (b:Bool):RD Y H B (.bl b) (.bl b)
 | int (i:Int):RD Y H B (.int i) (.int i)
 | str (x:Str) (ok:PyData.strOk x=true):RD Y H B (.str x) (.str x)
 | tup {a:Addr}{vs:List V}{ds:List D}:SqT Y.K H a vs->RDs Y H B ds vs->RD Y H B (.tup ds) (.ref a)
 | ref {i:Nat}{a:Addr}:B[i]? = some a->RD Y H B (.ref i) (.ref a)
 | ty (n:String):RD Y H B (.ty n) (.ty n)
 | ro {a:Addr}{vs:List V}{ds:List D}:FzL Y.K H a vs->RDs Y H B ds vs->RD Y H B (.ro ds) (.ref a)
 | kd {x:Str}{a:Addr}:Y.mg x=some (.ref a)->RD Y H B (.kd x) (.ref a)
inductive RDs(Y:Yx)(H:Hp)(B:List Addr):List D->List V->Prop
 | nil:RDs Y H B [] []
 | cons {d:D}{v:V}{ds:List D}{vs:List V}:RD Y H B d v->RDs Y H B ds vs->RDs Y H B (d::ds) (v::vs)
end
inductive RKs(Y:Yx)(H:Hp)(B:List Addr){κ:Type}:List (κ×D)->List (κ×V)->Prop
 | nil:RKs Y H B [] []
 | cons {k:κ}{d:D}{v:V}{ds:List (κ×D)}{vs:List (κ×V)}:RD Y H B d v->RKs Y H B ds vs->RKs Y H B ((k,d)::ds) ((k,v)::vs)
noncomputable def RO(Y:Yx)(H:Hp)(B:List Addr)(a:Addr):DO->Prop
 | .lst ds=>∃ vs,H a=some (.lst vs)/\RDs Y H B ds vs
 | .dic kvs=>∃ kvs',H a=some (.dK kvs')/\RKs Y H B kvs kvs'
 | .ins C fs=>∃ Ca dx fs',H a=some (.ins Ca dx fs')/\Y.mg C=some (.ref Ca)/\RKs Y H B fs fs'
 | .fdic kvs=>∃ o kvs',H a=some (.frz o (.dK kvs'))/\RKs Y H B kvs kvs'
noncomputable def ZaG(kvs:List (Key×D)):Prop:=∀ p∈kvs,∀ x,p.1=.inr x->PyData.strOk x=true
noncomputable def DOk:DO->Prop
 | .dic kvs=>ZaG kvs
 | .fdic kvs=>ZaG kvs
 | _=>True
structure RH(Y:Yx)(H:Hp)(B:List Addr)(h:Hd):Prop where
 len:h.length=B.length
 nd:B.Nodup
 ob:∀ (i:Nat) (o:DO) (a:Addr),h[i]? = some o->B[i]? = some a->RO Y H B a o
 ks:∀ (i:Nat) (o:DO),h[i]? = some o->DOk o
structure Gr(H:Hp)(B:List Addr)(H':Hp)(μ':List Addr):Prop where
 pre:∀ (i:Nat) (a:Addr),B[i]? = some a->μ'[i]? = some a
 new:∀ a∈μ',a∈B\/H a=none
 keep:∀ b o,b ∉ B->H b=some o->H' b=some o
 fz:∀ b o u,H b=some (.frz o u)->H' b=some (.frz o u)
theorem Gr.refl:Gr H B H B:=⟨fun _ _ h=>h,fun _ h=>.inl h,fun _ _ _ h=>h,fun _ _ _ h=>h⟩
theorem Gr.trans(a:Gr H B H1 μ1)(b:Gr H1 μ1 H2 μ2):Gr H B H2 μ2:=by
 refine ⟨fun i x h=>b.pre i x (a.pre i x h),fun x hx=>?_,fun x o hx h=>?_,fun x o u h=>b.fz x o u (a.fz x o u h)⟩
 . rcases b.new x hx with h|h
   . exact a.new x h
   . by_cases hm:x∈B
     . exact .inl hm
     . cases q:H x with
       | none=>exact .inr rfl
       | some o=>rw [a.keep x o hm q] at h;cases h
 . refine b.keep x o (fun hm=>?_) (a.keep x o hx h);rcases a.new x hm with z|z
   . exact hx z
   . rw [h] at z;cases z
noncomputable def Mu:Option HO->Prop
 | some (.lst _)|some (.dK _)|some (.ins _ _ _)|some (.frz _ (.dK _))=>True
 | _=>False
theorem RO.mut(h:RO Y H B a o):Mu (H a):=by
 cases o with
 | lst ds=>obtain ⟨vs,e,_⟩:=h;rw [e];trivial
 | dic ds=>obtain ⟨vs,e,_⟩:=h;rw [e];trivial
 | ins C ds=>obtain ⟨_,_,_,e,_⟩:=h;rw [e];trivial
 | fdic ds=>obtain ⟨_,_,e,_⟩:=h;rw [e];trivial
theorem RH.mem(r:RH Y H B h)(ha:a∈B):∃ (i:Nat) (o:DO),B[i]? = some a/\h[i]? = some o/\RO Y H B a o:=by
 obtain ⟨i,hi⟩:=List.mem_iff_getElem?.mp ha;have hl:i<h.length:=by
   rw [r.len];exact (Ob.mp hi).1
 exact ⟨i,h[i],hi,Og hl,r.ob i _ a (Og hl) hi⟩
theorem RH.mut(r:RH Y H B h)(ha:a∈B):Mu (H a):=let ⟨_,_,_,_,q⟩:=r.mem ha;q.mut
theorem Gr.rdT(r:RH Y H B h)(g:Gr H B H' μ')(t:SqT Y.K H a xs):SqT Y.K H' a xs:=by
 rcases t with t|t
 . rcases t with t|⟨o,t⟩
   . exact .inl (.inl (g.keep a _ (fun hm=>by have:=r.mut hm;rw [t] at this;exact this) t))
   . exact .inl (.inr ⟨o,g.fz a _ _ t⟩)
 . exact .inr t
theorem Gr.rdF(r:RH Y H B h)(g:Gr H B H' μ')(t:FzL Y.K H a xs):FzL Y.K H' a xs:=by
 rcases t with ⟨o,t⟩|t
 . exact .inl ⟨o,g.fz a _ _ t⟩
 . exact .inr t
section
variable {Y:Yx}{H H':Hp}{B μ':List Addr}{h:Hd}
structure Tr(Y:Yx)(H:Hp)(B:List Addr)(H':Hp)(μ':List Addr):Prop where
 t:∀ {a xs},SqT Y.K H a xs->SqT Y.K H' a xs
 f:∀ {a xs},FzL Y.K H a xs->FzL Y.K H' a xs
 m:∀ {i:Nat}{a},B[i]? = some a->μ'[i]? = some a
mutual
theorem RD.tr(T:Tr Y H B H' μ'):∀ {d:D}{v:V},RD Y H B d v->RD Y H' μ' d v
 | _,_,.non=>.non
 | _,_,.bl b=>.bl b
 | _,_,.int i=>.int i
 | _,_,.str x ok=>.str x ok
 | _,_,.tup t s=>.tup (T.t t) (RDs.tr T s)
 | _,_,.ref e=>.ref (T.m e)
 | _,_,.ty n=>.ty n
 | _,_,.ro t s=>.ro (T.f t) (RDs.tr T s)
 | _,_,.kd e=>.kd e
theorem RDs.tr(T:Tr Y H B H' μ'):∀ {d:List D}{v:List V},RDs Y H B d v->RDs Y H' μ' d v
 | _,_,.nil=>.nil
 | _,_,.cons a s=>.cons (RD.tr T a) (RDs.tr T s)
end
theorem RKs.tr(T:Tr Y H B H' μ'):∀ {d:List (κ×D)}{v:List (κ×V)},RKs Y H B d v->RKs Y H' μ' d v
 | _,_,.nil=>.nil
 | _,_,.cons a s=>.cons (a.tr T) (RKs.tr T s)
theorem RO.tr(T:Tr Y H B H' μ')(q:RO Y H B a o)(e:H' a=H a):RO Y H' μ' a o:=by
 cases o with
 | lst ds=>obtain ⟨vs,z,s⟩:=q;exact ⟨vs,e.trans z,s.tr T⟩
 | dic ds=>obtain ⟨vs,z,s⟩:=q;exact ⟨vs,e.trans z,s.tr T⟩
 | ins C ds=>obtain ⟨a1,a2,a3,z,m,s⟩:=q;exact ⟨a1,a2,a3,e.trans z,m,s.tr T⟩
 | fdic ds=>obtain ⟨o,vs,z,s⟩:=q;exact ⟨o,vs,e.trans z,s.tr T⟩
theorem Gr.tr(r:RH Y H B h)(g:Gr H B H' μ'):Tr Y H B H' μ':=⟨g.rdT r,g.rdF r,g.pre _ _⟩
theorem RD.mono(r:RH Y H B h)(g:Gr H B H' μ')(q:RD Y H B d v):RD Y H' μ' d v:=q.tr (g.tr r)
theorem RDs.mono(r:RH Y H B h)(g:Gr H B H' μ')(q:RDs Y H B d v):RDs Y H' μ' d v:=q.tr (g.tr r)
theorem RKs.mono{d:List (κ×D)}(r:RH Y H B h)(g:Gr H B H' μ')(q:RKs Y H B d v):RKs Y H' μ' d v:=q.tr (g.tr r)
theorem RDs.length:∀ {d:List D}{v:List V},RDs Y H B d v->d.length=v.length
 | _,_,.nil=>rfl
 | _,_,.cons a s=>by rw [Os,Os,s.length]
theorem RKs.length:∀ {d:List (κ×D)}{v:List (κ×V)},RKs Y H B d v->d.length=v.length
 | _,_,.nil=>rfl
 | _,_,.cons a s=>by rw [Os,Os,s.length]
theorem RDs.get:∀ {ds:List D}{vs:List V},RDs Y H B ds vs->∀ {i:Nat}{d:D},ds[i]? = some d->∃ v,vs[i]? = some v/\RD Y H B d v
 | _,_,.nil,i,d,e=>by simp at e
 | _,_,.cons a s,0,d,e=>by cases e;exact ⟨_,rfl,a⟩
 | _,_,.cons a s,i+1,d,e=>by
   obtain ⟨v,h1,h2⟩:=RDs.get s (i:=i) (d:=d) (by simpa using e);exact ⟨v,by simpa using h1,h2⟩
theorem RDs.append:∀ {ds es:List D}{vs ws:List V},RDs Y H B ds vs->RDs Y H B es ws->RDs Y H B (ds++es) (vs++ws)
 | _,_,_,_,.nil,s=>s
 | _,_,_,_,.cons a r,s=>.cons a (r.append s)
theorem RDs.take:∀ {ds:List D}{vs:List V} (n:Nat),RDs Y H B ds vs->RDs Y H B (ds.take n) (vs.take n)
 | _,_,0,_=>.nil
 | _,_,_+1,.nil=>.nil
 | _,_,n+1,.cons a s=>.cons a (s.take n)
theorem RDs.drop:∀ {ds:List D}{vs:List V} (n:Nat),RDs Y H B ds vs->RDs Y H B (ds.drop n) (vs.drop n)
 | _,_,0,s=>s
 | _,_,_+1,.nil=>.nil
 | _,_,n+1,.cons a s=>s.drop n
theorem RDs.reverse(s:RDs Y H B ds vs):RDs Y H B ds.reverse vs.reverse:=by
 have gen:∀ {ds es:List D}{vs ws:List V},RDs Y H B ds vs->RDs Y H B es ws->RDs Y H B (ds.reverseAux es) (vs.reverseAux ws):=by
   intro ds;induction ds with
   | nil=>intro es vs ws a b;cases a;exact b
   | cons d ds ih =>
     intro es vs ws a b;cases a with
     | cons a s =>
       have z:=ih s (RDs.cons a b);exact z
 exact gen s .nil
theorem RDs.dropLast(s:RDs Y H B ds vs):RDs Y H B ds.dropLast vs.dropLast:=by
 rw [List.dropLast_eq_take,List.dropLast_eq_take,s.length];exact s.take _
theorem RDs.set(r:RD Y H B d v):∀ {ds:List D}{vs:List V} (i:Nat),RDs Y H B ds vs->RDs Y H B (ds.set i d) (vs.set i v)
 | _,_,_,.nil=>.nil
 | _,_,0,.cons _ s=>.cons r s
 | _,_,i+1,.cons a s=>.cons a (RDs.set r i s)
theorem RDs.cut(s:RDs Y H B ds vs)(lo hi:Option Int):RDs Y H B (cutD ds lo hi) (Zhz vs lo hi):=by
 unfold cutD Zhz;rw [s.length];exact (s.drop _).take _
theorem RDs.isEmpty(s:RDs Y H B ds vs):ds.isEmpty=vs.isEmpty:=by cases s<;>rfl
theorem RDs.atI(s:RDs Y H B ds vs)(e:L2.atI ds i=some d):∃ v,L2.atI vs i=some v/\RD Y H B d v:=by
 unfold L2.atI at e ⊢;rw [s.length] at e;cases q:ixN vs.length i with
 | none=>rw [q] at e;cases e
 | some j =>
   rw [q] at e;exact s.get (i:=j) e
theorem RKs.val[DecidableEq κ]:∀ {ds:List (κ×D)}{vs:List (κ×V)},RKs Y H B ds vs->∀ (k:κ),((ds.find? fun p=>decide (p.1=k))=none/\(vs.find? fun p=>decide (p.1=k))=none)\/∃ d v,(ds.find? fun p=>decide (p.1=k))=some (k,d)/\(vs.find? fun p=>decide (p.1=k))=some (k,v)/\RD Y H B d v
 | _,_,.nil,k=>.inl ⟨rfl,rfl⟩
 | _,_,.cons (k:=k') (d:=d) (v:=v) a s,k=>by
   by_cases e:k'=k
   . subst e;exact .inr ⟨d,v,by simp,by simp,a⟩
   . rcases s.val k with ⟨h1,h2⟩|⟨d,v,h1,h2,h3⟩
     . exact .inl ⟨by simp [e,h1],by simp [e,h2]⟩
     . exact .inr ⟨d,v,by simp [e,h1],by simp [e,h2],h3⟩
end
theorem Zrh{α:Type}{l:List α}(hl:l.Nodup){i j:Nat}{x:α}(a:l[i]? = some x)(b:l[j]? = some x):i=j:=by
 obtain ⟨h1,e1⟩:=Ob.mp a;obtain ⟨h2,e2⟩:=Ob.mp b;exact (List.getElem_inj hl).mp (e1.trans e2.symm)
section
variable {Y:Yx}{H:Hp}{B:List Addr}{h:Hd}
theorem Gr.add(g:Gr H0 μ0 H B)(hp:H0 p=none):Gr H0 μ0 H (B++[p]) :=
 ⟨fun i a e=>by have e:=g.pre i a e;rw [Oe (Ob.mp e).1];exact e,fun a ha=>(OD.mp ha).elim (g.new a) fun z=>by rw [Ox.mp z];exact .inr hp,g.keep,g.fz⟩
theorem Zk2{H0 H:Hp}(hp:H0 p=none)(e:H0 b=some u):upd H p o b=H b:=Ze fun z=>by rw [z,hp] at e;cases e
theorem Gr.put(g:Gr H0 μ0 H B)(hp:H0 p=none):Gr H0 μ0 (upd H p o) B:=⟨g.pre,g.new,fun b u hb e=>(Zk2 hp e).trans (g.keep b u hb e),fun b u v e=>(Zk2 hp e).trans (g.fz b u v e)⟩
theorem Gr.lay0(hp:H p=none):Gr H B (upd H p o) B:=Gr.refl.put hp
theorem Gr.lay(hp:H p=none):Gr H B (upd H p o) (B++[p]):=(Gr.lay0 hp).add hp
noncomputable def NF:Option HO->Prop
 | some (.frz _ _)=>False
 | _=>True
theorem Gr.write(hp:p∈B)(nf:NF (H p)):Gr H B (upd H p o) B :=
 ⟨fun _ _ e=>e,fun a ha=>.inl ha,fun b u hb e=>by rw [Ze (show b≠p from fun z=>hb (by rw [z];exact hp))];exact e,fun b u v e=>by rw [Ze (fun z=>by rw [z] at e;rw [e] at nf;exact nf)];exact e⟩
theorem RO.mono(r:RH Y H B h)(g:Gr H B H' μ')(q:RO Y H B a o)(e:H' a=H a):RO Y H' μ' a o:=q.tr (g.tr r) e
theorem RH.tr(r:RH Y H B h)(T:Tr Y H B H' B)(k:∀ a∈B,H' a=H a):RH Y H' B h :=
 ⟨r.len,r.nd,fun i o a e1 e2=>(r.ob i o a e1 e2).tr T (k a (O1 e2)),r.ks⟩
theorem RH.keep(r:RH Y H B h)(g:Gr H B H' B)(k:∀ a∈B,H' a=H a):RH Y H' B h:=r.tr (g.tr r) k
theorem Tr.more:Tr Y H B H (B++[p]):=⟨id,id,fun e=>by rw [Oe (Ob.mp e).1];exact e⟩
theorem Zq9(k:∀ (i:Nat) (o:DO),h[i]? = some o->DOk o)(dk:DOk o):∀ (i:Nat) (o':DO),(h++[o])[i]? = some o'->DOk o':=by
 intro i o' e1;by_cases hi:i<h.length
 . rw [Oe hi] at e1;exact k i o' e1
 . have hi':i=h.length:=by
     have:=(Ob.mp e1).1;simp at this
     lia
   subst hi';rw [Om (Oq _)] at e1;simp at e1;subst e1;exact dk
theorem RH.add(r:RH Y H B h)(np:p ∉ B)(n:RO Y H (B++[p]) p o)(dk:DOk o:=by trivial):RH Y H (B++[p]) (h++[o]):=by
 refine ⟨by simp [r.len],?_,fun i o' a e1 e2=>?_,Zq9 r.ks dk⟩
 . rw [List.nodup_append];refine ⟨r.nd,by simp,fun a ha b hb=>?_⟩;rw [Ox.mp hb];intro z;exact np (z ▸ ha)
 . by_cases hi:i<h.length
   . rw [Oe hi] at e1;rw [Oe (by rw [<- r.len];exact hi)] at e2;exact (r.ob i o' a e1 e2).tr .more rfl
   . have hi':i=h.length:=by
       have:=(Ob.mp e1).1;simp at this
       lia
     subst hi';rw [Om (Oq _)] at e1;rw [Om (by rw [r.len];exact Oq _)] at e2;simp [r.len] at e1 e2;subst e1;subst e2;exact n
theorem RH.fr(r:RH Y H B h)(hp:H p=none):p ∉ B:=fun z=>by have:=r.mut z;rw [hp] at this;exact this
theorem RH.lay0(r:RH Y H B h)(hp:H p=none):RH Y (upd H p u) B h:=r.keep (Gr.lay0 hp) fun a ha=>Ze fun z=>r.fr hp (z ▸ ha)
theorem RH.lay(r:RH Y H B h)(hp:H p=none)(n:RO Y (upd H p u) (B++[p]) p o)(dk:DOk o:=by trivial):RH Y (upd H p u) (B++[p]) (h++[o]):=(r.lay0 hp).add (r.fr hp) n dk
theorem RH.write{p:Addr}{i:Nat}{u:HO}{o:DO}(r:RH Y H B h)(hp:B[i]? = some p)(n:RO Y (upd H p u) B p o)(nf:NF (H p))(dk:DOk o:=by trivial):RH Y (upd H p u) B (h.set i o):=by
 have hm:p∈B:=O1 hp;refine ⟨by simp [r.len],r.nd,fun j o' a e1 e2=>?_,fun j o' e1=>?_⟩
 rotate_right
 . by_cases hj:j=i
   . subst hj;have hl:j<h.length:=by rw [r.len];exact (Ob.mp hp).1
     rw [Ol hl] at e1;cases e1;exact dk
   . rw [Oc (Ne.symm hj)] at e1;exact r.ks j o' e1
 by_cases hj:j=i
 . subst hj;rw [hp] at e2;cases e2;have hl:j<h.length:=by rw [r.len];exact (Ob.mp hp).1
   rw [Ol hl] at e1;cases e1;exact n
 . rw [Oc (Ne.symm hj)] at e1;refine (r.ob j o' a e1 e2).mono r (Gr.write hm nf) (Ze fun z=>hj ?_);subst z;exact Zrh r.nd e2 hp
end
end IV
end
section
set_option tactic.hygienic false
namespace IV
open PySem PySem.Spec PyProof.Rows L2
noncomputable def Fin(Y:Yx)(rel:Hp->List Addr->α->β->Prop)(H:Hp)(B:List Addr)(r:R α)(Q:β->Hp->Prop)(E:XK):Prop:=match r with
 | .bad=>False
 | .ok a h'=>∀ b H' μ',Gr H B H' μ'->RH Y H' μ' h'->rel H' μ' a b->Q b H'
 | .exc c h'=>∀ H' μ' C,Gr H B H' μ'->RH Y H' μ' h'->Y.mg c=some (.ref C)->E (.ref C) none H'
section
variable {Y:Yx}{α β α' β':Type}{rel:Hp->List Addr->α->β->Prop}{rel':Hp->List Addr->α'->β'->Prop}{H H1:Hp}{B μ1:List Addr}{E:XK}
theorem Fin.mono(g:Gr H B H1 μ1)(f:Fin Y rel H B r Q E):Fin Y rel H1 μ1 r Q E:=by
 cases r with
 | bad=>exact f
 | ok a h=>exact fun b H' μ' g'=>f b H' μ' (g.trans g')
 | exc c h=>exact fun H' μ' C g'=>f H' μ' C (g.trans g')
theorem Fin.bind(f:Fin Y rel' H B (r.bind k) Q E)
   (hk:∀ a h1 b H1 μ1,r=.ok a h1->Gr H B H1 μ1->RH Y H1 μ1 h1->rel H1 μ1 a b->Fin Y rel' H1 μ1 (k a h1) Q E->Q1 b H1):Fin Y rel H B r Q1 E:=by
 cases r with
 | bad=>exact f
 | ok a h=>exact fun b H' μ' g' rh rl=>hk a h b H' μ' rfl g' rh rl (Fin.mono g' f)
 | exc c h=>exact f
theorem Fin.ok(f:Fin Y rel H B (.ok a h) Q E)(rh:RH Y H B h)(r:rel H B a b):Q b H:=f b H B Gr.refl rh r
theorem Fin.at(f:Fin Y rel H B (.ok a h) Q E)(g:Gr H B H1 μ1)(rh:RH Y H1 μ1 h)(r:rel H1 μ1 a b):Q b H1:=f b H1 μ1 g rh r
theorem Fin.ofO(f:Fin Y rel H B (R.ofO o h) Q E):∃ a,o=some a/\Fin Y rel H B (.ok a h) Q E:=by
 cases o with
 | none=>exact f.elim
 | some a=>exact ⟨a,rfl,f⟩
theorem Fin.iff[Decidable c](f:Fin Y rel H B (if c then r else .bad) Q E):c/\Fin Y rel H B r Q E:=by
 by_cases h:c
 . rw [if_pos h] at f;exact ⟨h,f⟩
 . rw [if_neg h] at f;exact f.elim
theorem Fin.new(f:Fin Y (RD Y) H B (Zbs o h) Q E)(rh:RH Y H B h)(hp:H p=none)(n:RO Y (upd H p u) (B++[p]) p o)(dk:DOk o:=by trivial):Q (.ref p) (upd H p u) :=
 f.at (Gr.lay hp) (rh.lay hp n dk) (.ref (by rw [rh.len];simp))
theorem Fin.tup(f:Fin Y (RD Y) H B (.ok (.tup ds) h) Q E)(rh:RH Y H B h)(hp:H p=none)(r:RDs Y H B ds vs):Q (.ref p) (upd H p (.tup vs)) :=
 f.at (Gr.lay0 hp) (rh.lay0 hp) (.tup (.inl (.inl Zd)) (r.mono rh (Gr.lay0 hp)))
theorem Fin.wrote(f:Fin Y rel H B (.ok a (h.set i o)) Q E)(rh:RH Y H B h)(hp:B[i]? = some p)(n:RO Y (upd H p u) B p o)(r:rel (upd H p u) B a b)(nf:NF (H p))(dk:DOk o:=by trivial):Q b (upd H p u) :=
 f.at (Gr.write (O1 hp) nf) (rh.write hp n nf dk) r
end
section
variable {Y:Yx}{H:Hp}{B:List Addr}{h:Hd}
theorem RD.lst(rh:RH Y H B h)(r:RD Y H B (.ref i) v)(e:h[i]? = some (.lst xs)):∃ a vs,v=.ref a/\B[i]? = some a/\H a=some (.lst vs)/\RDs Y H B xs vs:=by
 cases r with
 | ref q =>
   obtain ⟨vs,h1,h2⟩:=rh.ob i _ _ e q;exact ⟨_,vs,rfl,q,h1,h2⟩
theorem RD.dic(rh:RH Y H B h)(r:RD Y H B (.ref i) v)(e:h[i]? = some (.dic xs)):∃ a vs,v=.ref a/\B[i]? = some a/\H a=some (.dK vs)/\RKs Y H B xs vs:=by
 cases r with
 | ref q =>
   obtain ⟨vs,h1,h2⟩:=rh.ob i _ _ e q;exact ⟨_,vs,rfl,q,h1,h2⟩
theorem RD.lstOf(rh:RH Y H B h)(r:RD Y H B d v)(e:lstOf d h=some xs):∃ a vs,v=.ref a/\SqL Y.K H a vs/\RDs Y H B xs vs:=by
 cases d with
 | ref i =>
   unfold IV.lstOf at e;simp only at e;split at e
   . cases e;rename_i q;obtain ⟨a,vs,h1,h2,h3,h4⟩:=r.lst rh q;exact ⟨a,vs,h1,.of h3,h4⟩
   . cases e
 | ro ys =>
   cases e;cases r with
   | ro q s=>exact ⟨_,_,rfl,q.sq,s⟩
 | _=>cases e
theorem RD.seqOf(rh:RH Y H B h)(r:RD Y H B d v)(e:seqOf d h=some xs):∃ a vs,v=.ref a/\(SqL Y.K H a vs\/SqT Y.K H a vs)/\RDs Y H B xs vs:=by
 by_cases ht:∃ ys,d=.tup ys
 . obtain ⟨ys,rfl⟩:=ht;cases e;cases r with
   | tup q s=>exact ⟨_,_,rfl,.inr q,s⟩
 . have e':IV.lstOf d h=some xs:=by
     cases d with
     | tup ys=>exact absurd ⟨ys,rfl⟩ ht
     | _=>exact e
   obtain ⟨a,vs,h1,h2,h3⟩:=r.lstOf rh e';exact ⟨a,vs,h1,.inl h2,h3⟩
theorem RD.int_inv(r:RD Y H B (.int i) v):v=.int i:=by cases r;rfl
theorem RD.str_inv(r:RD Y H B (.str i) v):v=.str i/\PyData.strOk i=true:=by cases r with|str x ok=>exact ⟨rfl,ok⟩
theorem RD.tup_inv(r:RD Y H B (.tup ds) v):∃ a vs,v=.ref a/\SqT Y.K H a vs/\RDs Y H B ds vs:=by cases r with|tup q s=>exact ⟨_,_,rfl,q,s⟩
theorem Zfw(hx:PyData.strOk x=true)(hy:PyData.strOk y=true):PyData.strOk (x++y)=true:=by
 show (x.cps++y.cps).all _=true;rw [Array.all_append];unfold PyData.strOk at hx hy;rw [hx,hy];rfl
theorem Zl1(hx:PyData.strOk x=true)(n:Nat):PyData.strOk (Zdt x n)=true:=by
 have gen:∀ (n:Nat) (a:Array Nat),a.all (·<0x110000)=true->((List.replicate n x.cps).foldl (·++·) a).all (·<0x110000)=true:=by
   intro n;induction n with
   | zero=>intro a h;exact h
   | succ n ih =>
     intro a h;rw [List.replicate_succ,List.foldl_cons];refine ih _ ?_;rw [Array.all_append,h];exact hx
 exact gen n #[] (by simp)
theorem Zl2(hx:PyData.strOk x=true)(h:c∈x.cps.toList):PyData.strOk ⟨#[c]⟩=true:=by
 unfold PyData.strOk at hx ⊢;rw [Array.all_eq_true'] at hx;have:=hx c (by simpa using h);simpa using this
theorem Zor(h:atI xs i=some x):x∈xs:=by
 unfold atI at h;cases q:ixN xs.length i with
 | none=>rw [q] at h;cases h
 | some j =>
   rw [q] at h;exact O1 (i:=j) h
end
section
variable {X:Cx}{Y:Yx}{E:XK}
noncomputable def rB(Y:Yx)(E:XK)(f:D->D->Hd->R D):R2:=fun x y H Q=>∃ dx dy h B,RH Y H B h/\RD Y H B dx x/\RD Y H B dy y/\Fin Y (RD Y) H B (f dx dy h) Q E
theorem Fin.int2(f:Fin Y (RD Y) H B (int2 x y k) Q E):∃ i j,x=.int i/\y=.int j/\Fin Y (RD Y) H B (k i j) Q E:=by
 cases x with
 | int i =>
   cases y with
   | int j=>exact ⟨i,j,rfl,rfl,f⟩
   | _=>exact f.elim
 | _=>exact f.elim
theorem ZqO(hY:Y.K=X.K)(op:Operator):OpR X (binaryOp op) (rB Y E (opB op)):=by
 intro pins s Z H x y v u Q I rx ry hh;obtain ⟨dx,dy,h,B,rh,r1,r2,f⟩:=hh;cases op with
 | Add =>
   have f:Fin Y (RD Y) H B (ZkT dx dy h) Q E:=f;cases dx with
   | int i =>
     cases dy with
     | int j =>
       cases r1;cases r2;exact ZqM pins s Z H _ _ v u Q I rx ry ⟨_,_,rfl,rfl,f.ok rh (.int _)⟩
     | _=>exact f.elim
   | str i =>
     cases dy with
     | str j =>
       obtain ⟨hz,f⟩:=Fin.iff f;cases r1 with|str _ o1 =>
       cases r2 with|str _ o2 =>
       exact Zik pins s Z H _ _ v u Q I rx ry ⟨_,_,rfl,rfl,hz,f.ok rh (.str _ (Zfw o1 o2))⟩
     | _=>exact f.elim
   | tup xs =>
     cases dy with
     | tup ys =>
       obtain ⟨hz,f⟩:=Fin.iff f;obtain ⟨a,vs,rfl,t1,s1⟩:=r1.tup_inv;obtain ⟨b,ws,rfl,t2,s2⟩:=r2.tup_inv;rw [s1.length,s2.length] at hz;by_cases h0:vs=[]
       . subst h0;cases s1;exact Zoa pins s Z H _ _ v u Q I rx ry ⟨a,b,ws,rfl,rfl,hY ▸ t1,hY ▸ t2,f.ok rh (.tup t2 s2)⟩
       . refine Zn9 pins s Z H _ _ v u Q I rx ry ⟨a,b,vs,ws,rfl,rfl,hY ▸ t1,hY ▸ t2,h0,hz,fun e=>?_,fun e p hp=>f.tup rh hp (s1.append s2)⟩;subst e;cases s2;rw [List.append_nil] at f;exact f.ok rh (.tup t1 s1)
     | _=>exact f.elim
   | ref i =>
     cases dy with
     | ref j =>
       unfold ZkT at f;simp only at f;split at f
       . rename_i e1;split at f
         . rename_i e2;obtain ⟨hz,f⟩:=f.iff;obtain ⟨a,vs,rfl,_,h1,s1⟩:=r1.lst rh e1;obtain ⟨b,ws,rfl,_,h2,s2⟩:=r2.lst rh e2;rw [s1.length,s2.length] at hz;exact ZqL pins s Z H _ _ v u Q I rx ry ⟨a,b,vs,ws,rfl,rfl,h1,h2,hz,fun p hp=>f.new rh hp ⟨_,Zd,(s1.append s2).mono rh (Gr.lay hp)⟩⟩
         . exact f.elim
       . exact f.elim
     | _=>exact f.elim
   | _=>exact f.elim
 | Sub =>
   obtain ⟨i,j,rfl,rfl,f⟩:=Fin.int2 f;cases r1;cases r2;exact ZqG pins s Z H _ _ v u Q I rx ry ⟨_,_,rfl,rfl,f.ok rh (.int _)⟩
 | Mult =>
   have f:Fin Y (RD Y) H B (Ztd dx dy h) Q E:=f;cases dx with
   | str z =>
     cases dy with
     | int n =>
       obtain ⟨hz,f⟩:=Fin.iff f;cases r1 with|str _ o1 =>
       cases r2;exact Zn7 pins s Z H _ _ v u Q I rx ry ⟨_,_,rfl,rfl,hz.1,hz.2.1,hz.2.2,f.ok rh (.str _ (Zl1 o1 _))⟩
     | _=>exact f.elim
   | int i =>
     obtain ⟨i,j,e1,rfl,f⟩:=Fin.int2 (show Fin Y (RD Y) H B (IV.int2 (.int i) dy fun i j=>if i.natAbs<2 ^ 2000/\j.natAbs<2 ^ 2000 then .ok (.int (i * j)) h else .bad) Q E from f);cases e1;obtain ⟨hz,f⟩:=f.iff;cases r1;cases r2;exact Zkv pins s Z H _ _ v u Q I rx ry ⟨_,_,rfl,rfl,hz,f.ok rh (.int _)⟩
   | _=>exact f.elim
 | Mod =>
   obtain ⟨i,j,rfl,rfl,f⟩:=Fin.int2 f;obtain ⟨hz,f⟩:=f.iff;cases r1;cases r2;exact ZqI pins s Z H _ _ v u Q I rx ry ⟨_,_,rfl,rfl,hz,f.ok rh (.int _)⟩
 | FloorDiv =>
   obtain ⟨i,j,rfl,rfl,f⟩:=Fin.int2 f;obtain ⟨hz,f⟩:=f.iff;cases r1;cases r2;exact Zn8 pins s Z H _ _ v u Q I rx ry ⟨_,_,rfl,rfl,hz,f.ok rh (.int _)⟩
 | Pow =>
   obtain ⟨i,j,rfl,rfl,f⟩:=Fin.int2 f;obtain ⟨hz,f⟩:=f.iff;cases r1;cases r2;exact ZqH pins s Z H _ _ v u Q I rx ry ⟨_,_,rfl,rfl,hz,f.ok rh (.int _)⟩
 | _=>exact f.elim
end
end IV
end
section
namespace IV
open PySem PySem.Spec PyProof.Rows L2
structure Gk(X:Cx)(Y:Yx)(T:Tb):Prop where
 K:Y.K=X.K
 mg:Y.mg=X.mg
 gd:∀ x kvs,T.GD x=some kvs->∃ a kvs',X.mg x=some (.ref a)/\DkK X.prog X.w X.K a kvs'/\∀ H B,RKs Y H B kvs kvs'
 g:∀ x d,T.G x=some d->∃ v u,X.mg x=some u/\RelV v u/\∀ H B,RD Y H B d v
 bare:Zbx X.K=true
section
variable {X:Cx}{Y:Yx}{E:XK}{T:Tb}{H:Hp}{B:List Addr}{h:Hd}
theorem RD.dicOf(G:Gk X Y T)(rh:RH Y H B h)(r:RD Y H B d v)(e:dicOf T.GD d h=some kvs):∃ a kvs',v=.ref a/\Dk X.prog X.w X.K H a kvs'/\RKs Y H B kvs kvs':=by
 cases d with
 | ref i =>
   unfold IV.dicOf at e;simp only at e;split at e
   . cases e;rename_i q;obtain ⟨a,vs,h1,_,h3,h4⟩:=r.dic rh q;exact ⟨a,vs,h1,.inl (.inl h3),h4⟩
   . cases e;rename_i q;cases r with
     | ref qm =>
       obtain ⟨o,vs,h1,h2⟩:=rh.ob i _ _ q qm;exact ⟨_,vs,rfl,.inl (.inr ⟨o,h1⟩),h2⟩
   . cases e
 | kd x =>
   obtain ⟨a,kvs',h1,h2,h3⟩:=G.gd x kvs e;cases r with
   | kd q =>
     rw [G.mg,h1] at q;cases q;exact ⟨a,kvs',rfl,.inr h2,h3 H B⟩
 | _=>cases e
theorem Zmk(r:RD Y H B d v)(e:keyOf d=some k):∀ x,k=.inr x->PyData.strOk x=true:=by
 cases d with
 | int i=>cases e;intro x z;cases z
 | str i =>
   cases e;intro x z;cases z;cases r with
   | str _ ok=>exact ok
 | _=>cases e
theorem ZeD(h:ZaG kvs)(hk:∀ x,k=.inr x->PyData.strOk x=true):ZaG (putD kvs k c):=by
 intro p hp x e;unfold putD at hp;split at hp
 . obtain ⟨q,hq,rfl⟩:=List.mem_map.mp hp;refine h q hq x ?_;split at e<;>exact e
 . rcases OD.mp hp with hp|hp
   . exact h p hp x e
   . rw [Ox.mp hp] at e;exact hk x e
theorem Zcq(r:RD Y H B d v)(e:keyOf d=some k):v=kV k:=by
 cases d with
 | int i=>cases e;cases r;rfl
 | str i=>cases e;cases r;rfl
 | _=>cases e
theorem RKs.valV_rel(s:RKs Y H B ds vs)(k:Key):(ZX ds k=none/\Zcw vs k=none)\/∃ d v,ZX ds k=some d/\Zcw vs k=some v/\RD Y H B d v:=by
 unfold ZX Zcw;rcases s.val k with ⟨h1,h2⟩|⟨d,v,h1,h2,h3⟩
 . exact .inl ⟨by rw [h1];rfl,by rw [h2];rfl⟩
 . exact .inr ⟨d,v,by rw [h1];rfl,by rw [h2];rfl,h3⟩
theorem RKs.any_rel(k:Key):∀ {ds:List (Key×D)}{vs:List (Key×V)},RKs Y H B ds vs->(ds.any fun kv=>decide (kv.1=k))=(vs.any fun kv=>decide (kv.1=k))
 | _,_,.nil=>rfl
 | _,_,.cons a s=>by rw [List.any_cons,List.any_cons,s.any_rel k]
theorem RKs.map_rel(k:Key)(r:RD Y H B d v):∀ {ds:List (Key×D)}{vs:List (Key×V)},RKs Y H B ds vs->RKs Y H B (ds.map fun kv=>if kv.1=k then (kv.1,d) else kv) (vs.map fun kv=>if kv.1=k then (kv.1,v) else kv)
 | _,_,.nil=>.nil
 | _,_,.cons (k:=k') a s=>by
   rw [Op,Op];by_cases e:k'=k
   . rw [if_pos e,if_pos e];exact .cons r (s.map_rel k r)
   . rw [if_neg e,if_neg e];exact .cons a (s.map_rel k r)
theorem RKs.append:∀ {ds es:List (κ×D)}{vs ws:List (κ×V)},RKs Y H B ds vs->RKs Y H B es ws->RKs Y H B (ds++es) (vs++ws)
 | _,_,_,_,.nil,s=>s
 | _,_,_,_,.cons a r,s=>.cons a (r.append s)
theorem RKs.put(s:RKs Y H B ds vs)(k:Key)(r:RD Y H B d v):RKs Y H B (putD ds k d) (putK vs k v):=by
 unfold putD putK;rw [s.any_rel k];split
 . exact s.map_rel k r
 . exact s.append (.cons r .nil)
mutual
theorem RD.dp(rh:RH Y H B h)(rd:Nat->Option PyData)(hr:∀ i p a,rd i=some p->B[i]? = some a->Dp Y.K H (.ref a) p):∀ {d:D}{v:V}{p:PyData},RD Y H B d v->D.py rd d=some p->Dp Y.K H v p
 | _,_,_,.non,e=>by cases e;exact .non
 | _,_,_,.bl b,e=>by cases e;exact .bl b
 | _,_,_,.int i,e=>by cases e;exact .int i
 | _,_,_,.str x ok,e=>by cases e;exact .str x ok
 | _,_,_,.tup t s,e=>by
   rw [D.py] at e;obtain ⟨ps,e1,rfl⟩:=Oo.mp e;exact .tup t (RDs.dps rh rd hr s e1)
 | _,_,_,.ref q,e=>hr _ _ _ e q
 | _,_,_,.ty n,e=>by cases e
 | _,_,_,.ro t s,e=>by
   rw [D.py] at e;obtain ⟨ps,e1,rfl⟩:=Oo.mp e;exact .lst t.sq (RDs.dps rh rd hr s e1)
 | _,_,_,.kd q,e=>by cases e
theorem RDs.dps(rh:RH Y H B h)(rd:Nat->Option PyData)(hr:∀ i p a,rd i=some p->B[i]? = some a->Dp Y.K H (.ref a) p):∀ {d:List D}{v:List V}{p:List PyData},RDs Y H B d v->D.pys rd d=some p->Dps Y.K H v p
 | _,_,_,.nil,e=>by cases e;exact .nil
 | _,_,_,.cons a s,e=>by
   rw [D.pys] at e;obtain ⟨q,e1,e2⟩:=Option.bind_eq_some_iff.mp e;obtain ⟨qs,e3,rfl⟩:=Oo.mp e2;exact .cons (RD.dp rh rd hr a e1) (RDs.dps rh rd hr s e3)
end
theorem Zjg(rh:RH Y H B h):∀ (n i:Nat) (p:PyData) (a:Addr),Zdu h n i=some p->B[i]? = some a->Dp Y.K H (.ref a) p
 | 0,i,p,a,e,q=>by cases e
 | n+1,i,p,a,e,q=>by
   rw [Zdu] at e;split at e
   . rename_i xs he;obtain ⟨ps,e1,rfl⟩:=Oo.mp e;obtain ⟨vs,z,s⟩:=rh.ob i _ a he q;exact .lst (.of z) (RDs.dps rh _ (Zjg rh n) s e1)
   . cases e
theorem Zcn(rh:RH Y H B h)(r:RD Y H B d v)(e:ZdZ h d=some p):Dp Y.K H v p:=r.dp rh _ (Zjg rh 4) e
theorem ZeM(r:RD Y H B d v)(f:d.flat=true):ZcF v=true:=by cases r<;>first|rfl|cases f
theorem ZdD:∀ {ds:List D}{vs:List V},RDs Y H B ds vs->ds.all D.flat=true->vs.all ZcF=true
 | _,_,.nil,_=>rfl
 | _,_,.cons a s,f=>by
   rw [List.all_cons,Oa] at f;rw [List.all_cons,ZeM a f.1,ZdD s f.2];rfl
theorem ZrE(r:RD Y H B d v)(q:RD Y H B e w)(f:d.flat=true)(g:e.flat=true):eqF d e=eqV v w:=by
 cases r<;>cases q<;>first|rfl|exact absurd f (by simp [D.flat])|exact absurd g (by simp [D.flat])
theorem any_rel(q:RD Y H B e w)(g:e.flat=true):∀ {ds:List D}{vs:List V},RDs Y H B ds vs->ds.all D.flat=true->(ds.any fun z=>eqF z e)=vs.any fun y=>eqV y w
 | _,_,.nil,_=>rfl
 | _,_,.cons a s,f=>by
   rw [List.all_cons,Oa] at f;rw [List.any_cons,List.any_cons,ZrE a q f.1 g,any_rel q g s f.2]
theorem Zoi(hr:Room k X.A)(h60:60<=k)(hY:Y.K=X.K):OpR X (compareOp .Eq) (rB Y E (ZaR false)):=by
 intro pins s Z H x y v u Q I rx ry hh;obtain ⟨dx,dy,h,B,rh,r1,r2,f⟩:=hh;unfold ZaR at f;split at f
 . rename_i e1 e2;obtain ⟨hz,f⟩:=f.iff;have d1:=Zcn rh r1 e1;have d2:=Zcn rh r2 e2;rw [hY] at d1 d2;obtain ⟨as,q1⟩:=I.reads d1 rx;obtain ⟨bs,q2⟩:=I.reads d2 ry;have:=hr.un;exact SeqAt.compareEq_reads q1 q2 d1.lay d2.lay (by lia) ⟨.bl _,H,I,rfl,f.ok rh (.bl _)⟩
 . exact f.elim
theorem Zoc(hr:Room k X.A)(h60:60<=k)(hY:Y.K=X.K):OpR X (compareOp .NotEq) (rB Y E (ZaR true)):=by
 intro pins s Z H x y v u Q I rx ry hh;obtain ⟨dx,dy,h,B,rh,r1,r2,f⟩:=hh;unfold ZaR at f;split at f
 . rename_i e1 e2;obtain ⟨hz,f⟩:=f.iff;have d1:=Zcn rh r1 e1;have d2:=Zcn rh r2 e2;rw [hY] at d1 d2;obtain ⟨as,q1⟩:=I.reads d1 rx;obtain ⟨bs,q2⟩:=I.reads d2 ry;have:=hr.un;exact SeqAt.compareNe_reads q1 q2 d1.lay d2.lay (by lia) ⟨.bl _,H,I,rfl,f.ok rh (.bl _)⟩
 . exact f.elim
theorem RKs.len:∀ {ds:List (κ×D)}{vs:List (κ×V)},RKs Y H B ds vs->ds.length=vs.length
 | _,_,.nil=>rfl
 | _,_,.cons _ s=>by simp [s.len]
theorem RKs.mem:∀ {ds:List (κ×D)}{vs:List (κ×V)},RKs Y H B ds vs->(k,v)∈vs->∃ d,(k,d)∈ds/\RD Y H B d v
 | _,_,.nil,h=>by cases h
 | _,_,.cons (d:=d) a s,h=>by
   rcases O2.mp h with e|h
   . cases e;exact ⟨d,.head _,a⟩
   . obtain ⟨d,h1,h2⟩:=s.mem h;exact ⟨d,.tail _ h1,h2⟩
theorem Zg6(hr:Room k X.A)(h60:60<=k)(G:Gk X Y T):OpR X (compareOp .NotEq) (rB Y E (ZgH T.GD)):=by
 intro pins s Z H x y v u Q I rx ry hh;obtain ⟨dx,dy,h,B,rh,r1,r2,f⟩:=hh;unfold ZgH at f;split at f
 . split at f
   . rename_i e1 _ k2 e2;obtain ⟨⟨hl,hz⟩,f⟩:=f.iff;obtain ⟨a,ka,rfl,da,ra⟩:=r1.dicOf G rh e1;obtain ⟨b,kb,rfl,db,rb⟩:=r2.dicOf G rh e2;have un:=hr.un;refine Zs3 (by show X.A.units+1+64<_;lia) (by lia) pins s Z H _ _ v u Q I rx ry ⟨a,b,ka,kb,rfl,rfl,da,db,by rw [<- ra.len,<- rb.len];exact hl,fun k v m=>?_,f.ok rh (.bl _)⟩;obtain ⟨d,md,rd⟩:=ra.mem m;have q:=OC.mp hz _ md;unfold Zp9 at q;obtain ⟨q1,q2⟩:=Bool.and_eq_true_iff.mp q;have q1:=of_decide_eq_true q1;split at q2
     . rename_i p ep;obtain ⟨q2,q3⟩:=Bool.and_eq_true_iff.mp q2;rcases rb.valV_rel k with ⟨z,_⟩|⟨d',v',z,z2,rd'⟩
       . rw [z] at q1;cases q1
       . rw [z] at q1;cases q1;have p1:=Zcn rh rd ep;have p2:=Zcn rh rd' ep;rw [G.K] at p1 p2;exact ⟨v',p,z2,p1,p2,of_decide_eq_true q2,q3⟩
     . cases q2
   . exact f.elim
 . exact f.elim
theorem Zed(ho:OpR X (compareOp op) (rI0 fun i j=>.bl (g i j))):OpR X (compareOp op) (rB Y E (Zf2 g)):=by
 intro pins s Z H x y v u Q I rx ry hh;obtain ⟨dx,dy,h,B,rh,r1,r2,f⟩:=hh;unfold Zf2 at f;split at f
 . cases r1;cases r2;exact ho pins s Z H _ _ v u Q I rx ry ⟨_,_,rfl,rfl,f.ok rh (.bl _)⟩
 . exact f.elim
theorem Zjr(r:RD Y H B d v):decide (d=.non)=decide (v=.non):=by
 cases r<;>simp
theorem Zog:OpR X (compareOp .Is) (rB Y E (opN false)):=by
 intro pins s Z H x y v u Q I rx ry hh;obtain ⟨dx,dy,h,B,rh,r1,r2,f⟩:=hh;unfold opN at f;split at f
 . cases r2;have z:=Zjr r1;simp only [OG,if_false,z] at f;exact ZqJ pins s Z H _ _ v u Q I rx ry ⟨rfl,f.ok rh (.bl _)⟩
 . exact f.elim
theorem Zkx:OpR X (compareOp .IsNot) (rB Y E (opN true)):=by
 intro pins s Z H x y v u Q I rx ry hh;obtain ⟨dx,dy,h,B,rh,r1,r2,f⟩:=hh;unfold opN at f;split at f
 . cases r2;have z:=Zjr r1;simp only [if_true,z] at f;exact Zn6 pins s Z H _ _ v u Q I rx ry ⟨rfl,f.ok rh (.bl _)⟩
 . exact f.elim
theorem Zoh(G:Gk X Y T):OpR X (compareOp .In) (rB Y E (Zaj T.GD false)):=by
 intro pins s Z H x y v u Q I rx ry hh;obtain ⟨dx,dy,h,B,rh,r1,r2,f⟩:=hh;unfold Zaj at f;split at f
 . rename_i xs e1;obtain ⟨hz,f⟩:=f.iff;rw [Oa] at hz;obtain ⟨a,vs,rfl,hs,rs⟩:=r2.seqOf rh e1;have q:=f.ok rh (.bl _);simp only [OG,if_false,any_rel r1 hz.1 rs hz.2] at q;exact Zkw pins s Z H _ _ v u Q I rx ry ⟨a,vs,rfl,G.K ▸ hs,ZeM r1 hz.1,ZdD rs hz.2,q⟩
 . split at f
   . rename_i kvs k e1 e2;obtain ⟨a,kvs',rfl,hd,rk⟩:=r2.dicOf G rh e1;have q:=f.ok rh (.bl _);have z:(ZX kvs k).isSome=(Zcw kvs' k).isSome:=by
       rcases rk.valV_rel k with ⟨h1,h2⟩|⟨d,v,h1,h2,_⟩<;>rw [h1,h2]<;>rfl
     rw [z] at q;exact ZqK pins s Z H _ _ v u Q I rx ry ⟨a,kvs',k,rfl,Zcq r1 e2,hd,q⟩
   . exact f.elim
theorem Zil(G:Gk X Y T):OpR X (compareOp .NotIn) (rB Y E (Zaj T.GD true)):=by
 intro pins s Z H x y v u Q I rx ry hh;obtain ⟨dx,dy,h,B,rh,r1,r2,f⟩:=hh;unfold Zaj at f;split at f
 . rename_i xs e1;obtain ⟨hz,f⟩:=f.iff;rw [Oa] at hz;obtain ⟨a,vs,rfl,hs,rs⟩:=r2.seqOf rh e1;have q:=f.ok rh (.bl _);simp only [if_true,any_rel r1 hz.1 rs hz.2] at q;exact Zf1 pins s Z H _ _ v u Q I rx ry ⟨a,vs,rfl,G.K ▸ hs,ZeM r1 hz.1,ZdD rs hz.2,q⟩
 . split at f
   . rename_i kvs k e1 e2;obtain ⟨a,kvs',rfl,hd,rk⟩:=r2.dicOf G rh e1;have q:=f.ok rh (.bl _);have z:(ZX kvs k).isSome=(Zcw kvs' k).isSome:=by
       rcases rk.valV_rel k with ⟨h1,h2⟩|⟨d,v,h1,h2,_⟩<;>rw [h1,h2]<;>rfl
     rw [z] at q;exact Zku pins s Z H _ _ v u Q I rx ry ⟨a,kvs',k,rfl,Zcq r1 e2,hd,q⟩
   . exact f.elim
theorem ZlX(hr:Room k X.A)(h60:60<=k)(G:Gk X Y T)(op:CmpOp):OpR X (compareOp op) (rB Y E (opC T.GD op)):=by
 cases op with
 | Eq=>exact Zoi hr h60 G.K
 | NotEq=>exact Zoc hr h60 G.K
 | Lt=>exact Zed ZsZ
 | LtE=>exact Zed Zs0
 | Gt=>exact Zed Zs1
 | GtE=>exact Zed Zs2
 | Is=>exact Zog
 | IsNot=>exact Zkx
 | In=>exact Zoh G
 | NotIn=>exact Zil G
theorem Zoe(G:Gk X Y T):IxR X (rB Y E (ZaE T.GD)):=by
 intro value slice pins s Z H x y v u Q I rx ry hh hs;obtain ⟨dx,dy,h,B,rh,r1,r2,f⟩:=hh;have dict:∀ (kvs:List (Key×D)) (k:Key),dicOf T.GD dx h=some kvs->y=kV k->Fin Y (RD Y) H B (R.ofO (ZX kvs k) h) Q E->wpAny (model X.prog X.w) X.A (subscriptTail value slice v u) (EP X pins Z Q) X.xe s:=by
   intro kvs k e1 ey f;obtain ⟨d,e2,f⟩:=f.ofO;obtain ⟨a,kvs',rfl,hd,rk⟩:=r1.dicOf G rh e1;rcases rk.valV_rel k with ⟨h1,h2⟩|⟨d',w,h1,h2,h3⟩
   . rw [h1] at e2;cases e2
   . rw [h1] at e2;cases e2;exact ZoC value slice pins s Z H _ _ v u Q I rx ry ⟨a,kvs',k,w,rfl,ey,hd,h2,f.ok rh h3⟩ hs
 unfold ZaE at f;split at f
 . rename_i i;cases r2;split at f
   . rename_i xs e1;obtain ⟨d,e2,f⟩:=f.ofO;obtain ⟨a,vs,rfl,hq,rs⟩:=r1.seqOf rh e1;obtain ⟨w,e3,rw'⟩:=rs.atI e2;rcases hq with hq|hq
     . exact ZoB value slice pins s Z H _ _ v u Q I rx ry ⟨a,vs,i,w,rfl,rfl,G.K ▸ hq,e3,f.ok rh rw'⟩ hs
     . exact Zrf value slice pins s Z H _ _ v u Q I rx ry ⟨a,vs,i,w,rfl,rfl,G.K ▸ hq,e3,f.ok rh rw'⟩ hs
   . split at f
     . obtain ⟨hz,f⟩:=f.iff;obtain ⟨d,e2,f⟩:=f.ofO;obtain ⟨c,e3,rfl⟩:=Oo.mp e2;obtain ⟨rfl,ok⟩:=r1.str_inv;exact Zrg value slice pins s Z H _ _ v u Q I rx ry ⟨_,i,c,rfl,rfl,hz,e3,f.ok rh (.str _ (Zl2 ok (Zor e3)))⟩ hs
     . split at f
       . rename_i kvs e1;exact dict kvs (.inl i) e1 rfl f
       . exact f.elim
 . rename_i z;obtain ⟨rfl,ok⟩:=r2.str_inv;split at f
   . rename_i kvs e1;exact dict kvs (.inr z) e1 rfl f
   . exact f.elim
 . exact f.elim
theorem Zl0(hx:PyData.strOk x=true)(h:∀ c∈y.cps.toList,c∈x.cps.toList):PyData.strOk y=true:=by
 unfold PyData.strOk at hx ⊢;rw [Array.all_eq_true'] at hx ⊢;intro c hc;exact hx c (by simpa using h c (by simpa using hc))
theorem Znm(hY:Y.K=X.K)(rh:RH Y H B h)(r:RD Y H B d v)(e:Zdr T.GD d h=some b):ZrX X.K v H b:=by
 cases d with
 | non=>cases r;cases e;rfl
 | bl c=>cases r;cases e;rfl
 | int c=>cases r;cases e;rfl
 | str c =>
   cases r;unfold Zdr at e;simp only at e;split at e
   . rename_i hz;cases e;refine ⟨hz,?_⟩;by_cases h0:c.length=0
     . simp [h0]
     . have h1:((c.length:Int) != 0)=true:=by
         simp
         lia
       rw [h1];simp [h0]
   . cases e
 | tup xs =>
   obtain ⟨a,vs,rfl,t,s⟩:=r.tup_inv;cases e;exact .inr (.inl ⟨vs,hY ▸ t,by rw [s.isEmpty]⟩)
 | ref i =>
   unfold Zdr at e;simp only at e;split at e
   . rename_i q;cases e;obtain ⟨a,vs,rfl,_,h3,s⟩:=r.lst rh q;exact .inl ⟨vs,.of h3,by rw [s.isEmpty]⟩
   . rename_i q;cases e;obtain ⟨a,vs,rfl,_,h3,s⟩:=r.dic rh q;exact .inr (.inr ⟨vs,h3,by cases s<;>rfl⟩)
   . cases e
 | ro xs =>
   cases e;cases r with
   | ro q s=>exact .inl ⟨_,hY ▸ q.sq,by rw [s.isEmpty]⟩
 | ty n=>cases e
 | kd x=>cases e
end
end IV
end
section
namespace IV
open PySem PySem.Spec PyProof.Rows L2
section
variable {X:Cx}{Y:Yx}{E:XK}{T:Tb}{H:Hp}{B:List Addr}{h:Hd}
noncomputable def rS(Y:Yx)(E:XK):V->Option Int->Option Int->Hp->VK->Prop:=fun x l u H Q=>∃ d h B,RH Y H B h/\RD Y H B d x/\Fin Y (RD Y) H B (Zg5 d l u h) Q E
theorem Zer(y:Str)(l u:Option Int):∀ c∈(StrLaws.sliceText y l u).cps.toList,c∈y.cps.toList:=by
 intro c hc;unfold StrLaws.sliceText at hc;split at hc
 . exact hc
 . simp only [List.mem_filterMap] at hc;obtain ⟨i,_,hi⟩:=hc;have:=Array.mem_of_getElem? hi;simpa using this
theorem ZkO{xs:List D}{lo hi:Option Int}(h:HT.sIx xs.length 0 lo=0/\HT.sIx xs.length xs.length hi=xs.length):cutD xs lo hi=xs:=by
 unfold cutD;rw [h.1,h.2];simp
theorem Zob(hY:Y.K=X.K):SlR X (rS Y E):=by
 intro pins s Z H x v vl vu lo hi sl Q I rx hs pl pu hh;obtain ⟨d,h,B,rh,r,f⟩:=hh;unfold Zg5 at f;split at f
 . rename_i xs;obtain ⟨a,vs,rfl,t,rs⟩:=r.tup_inv;by_cases hw:HT.sIx vs.length 0 lo=0/\HT.sIx vs.length vs.length hi=vs.length
   . rw [ZkO (by rw [rs.length];exact hw)] at f;exact Zlf pins s Z H _ v vl vu lo hi sl Q I rx hs pl pu ⟨a,vs,rfl,hY ▸ t,hw,f.ok rh (.tup t rs)⟩
   . exact Zp6 pins s Z H _ v vl vu lo hi sl Q I rx hs pl pu ⟨a,vs,rfl,hY ▸ t,hw,fun p hp=>f.tup rh hp (rs.cut lo hi)⟩
 . obtain ⟨hz,f⟩:=f.iff;obtain ⟨rfl,ok⟩:=r.str_inv;exact Zp7 pins s Z H _ v vl vu lo hi sl Q I rx hs pl pu ⟨_,rfl,hz,f.ok rh (.str _ (Zl0 ok (Zer _ _ _)))⟩
 . split at f
   . rename_i xs e1;obtain ⟨a,vs,rfl,hl,rs⟩:=r.lstOf rh e1;exact Znt pins s Z H _ v vl vu lo hi sl Q I rx hs pl pu ⟨a,vs,rfl,hY ▸ hl,fun p hp=>f.new rh hp ⟨_,Zd,(rs.cut lo hi).mono rh (Gr.lay hp)⟩⟩
   . exact f.elim
noncomputable def rF(Y:Yx)(E:XK)(f:List D->Hd->R D):List V->Hp->VK->Prop:=fun xs H Q=>∃ ds h B,RH Y H B h/\RDs Y H B ds xs/\Fin Y (RD Y) H B (f ds h) Q E
theorem RDs.one(r:RDs Y H B [d] xs):∃ x,xs=[x]/\RD Y H B d x:=by
 cases r with
 | cons a s=>cases s;exact ⟨_,rfl,a⟩
theorem RDs.two(r:RDs Y H B [d,e] xs):∃ x y,xs=[x,y]/\RD Y H B d x/\RD Y H B e y:=by
 cases r with
 | cons a s=>obtain ⟨y,rfl,b⟩:=s.one;exact ⟨_,_,rfl,a,b⟩
theorem Zo4 (hY:Y.K=X.K):Zaa X (.builtin "len") (rF Y E Zm1):=by
 intro pins s Z H xs us Q I r hh;obtain ⟨ds,h,B,rh,rs,f⟩:=hh;unfold Zm1 at f;split at f
 . obtain ⟨hz,f⟩:=f.iff;obtain ⟨x,rfl,rd⟩:=rs.one;obtain ⟨rfl,ok⟩:=rd.str_inv;exact Zgq pins s Z H _ us Q I r ⟨_,rfl,hz,f.ok rh (.int _)⟩
 . obtain ⟨e,e1,f⟩:=f.ofO;obtain ⟨zs,e2,rfl⟩:=Oo.mp e1;obtain ⟨x,rfl,rd⟩:=rs.one;obtain ⟨a,vs,rfl,hq,rv⟩:=rd.seqOf rh e2;refine Zgr pins s Z H _ us Q I r ⟨a,vs,rfl,hY ▸ hq,?_⟩;rw [<- rv.length];exact f.ok rh (.int _)
 . exact f.elim
theorem Zoy{K:PySem.W.Frag}{t T:String}{b:Bool}(e:ZiD t T=some b):PySem.W.kitOne K (.type t) (.type T)=some b:=by
 have all:(["int", "str", "bool", "tuple", "list"].all fun T=>["int", "str", "bool", "tuple", "list", "NoneType"].all fun t=>decide (PySem.W.kitOne [] (.type t) (.type T)=some (t==T || (t == "bool" && T == "int"))))=true:=by decide +kernel
 unfold ZiD at e;split at e
 . rename_i hm;cases e;rw [OC] at all;have h1:=all T hm.1;rw [OC] at h1;exact ZkG (of_decide_eq_true (h1 t hm.2))
 . cases e
theorem Zsi(hY:Y.K=X.K)(rh:RH Y H B h)(r:RD Y H B d v)(e:Zsj d h=some t):TyN X.K v H t:=by
 have lst:(IV.lstOf d h).map (fun _ => "list")=some t->TyN X.K v H t:=fun e=>by
   obtain ⟨xs,e1,rfl⟩:=Oo.mp e;obtain ⟨a,vs,rfl,hl,rs⟩:=r.lstOf rh e1;exact .inl ⟨rfl,vs,hY ▸ hl⟩
 cases d with
 | int i=>cases e;cases r;rfl
 | str i=>cases e;cases r;rfl
 | bl i=>cases e;cases r;rfl
 | non=>cases e;cases r;rfl
 | tup xs =>
   cases e;obtain ⟨a,vs,rfl,t,rs⟩:=r.tup_inv;exact .inr ⟨rfl,vs,hY ▸ t⟩
 | ref i=>exact lst e
 | ro xs=>exact lst e
 | ty n=>exact lst e
 | kd x=>exact lst e
theorem Zo6 (hY:Y.K=X.K):Zaa X (.builtin "isinstance") (rF Y E ZrQ):=by
 intro pins s Z H xs us Q I r hh;obtain ⟨ds,h,B,rh,rs,f⟩:=hh;unfold ZrQ at f;split at f
 . obtain ⟨e,e1,f⟩:=f.ofO;obtain ⟨t,e2,e3⟩:=Option.bind_eq_some_iff.mp e1;obtain ⟨b,e4,rfl⟩:=Oo.mp e3;obtain ⟨x,y,rfl,r1,r2⟩:=rs.two;cases r2;exact ZmO pins s Z H _ us Q I r ⟨x,t,_,b,rfl,Zsi hY rh r1 e2,Zoy e4,f.ok rh (.bl _)⟩
 . exact f.elim
theorem Zo7:Zaa X (.type "int") (rF Y E ZrR):=by
 intro pins s Z H xs us Q I r hh;obtain ⟨ds,h,B,rh,rs,f⟩:=hh;unfold ZrR at f;split at f
 . obtain ⟨x,rfl,r1⟩:=rs.one;cases r1;exact ZfE pins s Z H _ us Q I r (.inl ⟨_,rfl,f.ok rh (.int _)⟩)
 . obtain ⟨x,rfl,r1⟩:=rs.one;cases r1;exact ZfE pins s Z H _ us Q I r (.inr ⟨_,rfl,f.ok rh (.int _)⟩)
 . exact f.elim
theorem Zo0 (hY:Y.K=X.K):Zaa X (.type "tuple") (rF Y E ZiW):=by
 intro pins s Z H xs us Q I r hh;obtain ⟨ds,h,B,rh,rs,f⟩:=hh;unfold ZiW at f;split at f
 . obtain ⟨x,rfl,r1⟩:=rs.one;obtain ⟨a,vs,rfl,t,rv⟩:=r1.tup_inv;exact ZcM pins s Z H _ us Q I r ⟨a,vs,rfl,.inr ⟨hY ▸ t,f.ok rh (.tup t rv)⟩⟩
 . obtain ⟨e,e1,f⟩:=f.ofO;obtain ⟨zs,e2,rfl⟩:=Oo.mp e1;obtain ⟨x,rfl,r1⟩:=rs.one;obtain ⟨a,vs,rfl,hl,rv⟩:=r1.lstOf rh e2;exact ZcM pins s Z H _ us Q I r ⟨a,vs,rfl,.inl ⟨hY ▸ hl,fun p hp=>f.tup rh hp rv⟩⟩
 . exact f.elim
theorem Zo3 (hY:Y.K=X.K):Zaa X (.type "list") (rF Y E ZrP):=by
 intro pins s Z H xs us Q I r hh;obtain ⟨ds,h,B,rh,rs,f⟩:=hh;unfold ZrP at f;split at f
 . split at f
   . rename_i e2;obtain ⟨x,rfl,r1⟩:=rs.one;obtain ⟨a,vs,rfl,hq,rv⟩:=r1.seqOf rh e2;exact Zgp pins s Z H _ us Q I r ⟨a,vs,rfl,hY ▸ hq,fun p hp=>f.new rh hp ⟨_,Zd,rv.mono rh (Gr.lay hp)⟩⟩
   . exact f.elim
 . exact f.elim
theorem Zo8:Zaa X (.type "dict") (rF Y E Zm3):=by
 intro pins s Z H xs us Q I r hh;obtain ⟨ds,h,B,rh,rs,f⟩:=hh;unfold Zm3 at f;split at f
 . split at f
   . rename_i i kvs e2;obtain ⟨x,rfl,r1⟩:=rs.one;obtain ⟨a,vs,rfl,_,h3,h4⟩:=r1.dic rh e2;obtain ⟨u,rfl,ru⟩:=vals1 r;cases ru;exact ZmK I (.inl h3) fun p s' hp I'=>⟨.ref p,_,I',rfl,f.new rh hp ⟨_,Zd,h4.mono rh (Gr.lay hp)⟩ (rh.ks _ _ e2)⟩
   . exact f.elim
 . exact f.elim
theorem Zhm:∀ {ds:List D}{vs:List V}{ns:List Int},RDs Y H B ds vs->intsOf ds=some ns->vs=ns.map V.int
 | _,_,_,.nil,e=>by cases e;rfl
 | _,_,_,.cons (d:=d) a s,e=>by
   cases d with
   | int i =>
     rw [intsOf] at e;obtain ⟨z,e1,rfl⟩:=Oo.mp e;cases a;rw [Zhm s e1];rfl
   | _=>cases e
theorem Zo1 (hc:X.A.handled=none) (hY:Y.K=X.K):Zaa X (.builtin "sum") (rF Y E ZmZ):=by
 intro pins s Z H xs us Q I r hh;obtain ⟨ds,h,B,rh,rs,f⟩:=hh;unfold ZmZ at f;split at f
 . obtain ⟨e,e1,f⟩:=f.ofO;obtain ⟨ns,e2,rfl⟩:=Oo.mp e1;obtain ⟨zs,e3,e4⟩:=Option.bind_eq_some_iff.mp e2;obtain ⟨x,rfl,r1⟩:=rs.one;obtain ⟨a,vs,rfl,hl,rv⟩:=r1.lstOf rh e3;rw [Zhm rv e4] at hl;exact ZkR hc pins s Z H _ us Q I r ⟨a,ns,rfl,hY ▸ hl,f.ok rh (.int _)⟩
 . exact f.elim
noncomputable def rM(Y:Yx)(E:XK)(m:Mf):V->List V->Hp->VK->Prop:=fun x xs H Q=>∃ d ds h B,RH Y H B h/\RD Y H B d x/\RDs Y H B ds xs/\Fin Y (RD Y) H B (ZaI m d ds h) Q E
noncomputable def mid:Mf->String
 | .app => "list.append"
 | .ext => "list.extend"
 | .pop => "list.pop"
 | .rev => "list.reverse"
 | .clr => "list.clear"
theorem Zjv(hY:Y.K=X.K)(m:Mf):MtM X (mid m) (rM Y E m):=by
 intro pins s Z H x xs v us Q I rx rs hh;obtain ⟨d,ds,h,B,rh,r1,r2,f⟩:=hh;unfold ZaI at f;split at f
 . split at f
   . rename_i i ys e;obtain ⟨a,vs,rfl,hi,hl,rv⟩:=r1.lst rh e;cases m with
     | app =>
       unfold Zff ZqW at f;simp only at f;split at f
       . obtain ⟨hz,f⟩:=f.iff;obtain ⟨y,rfl,ry⟩:=r2.one;have g:Gr H B (upd H a (.lst (vs++[y]))) B:=Gr.write (O1 hi) (by rw [hl];trivial);exact Zfz pins s Z H _ _ v us Q I rx rs ⟨a,vs,y,rfl,rfl,hl,by rw [<- rv.length];exact hz,f.wrote rh hi ⟨_,Zd,(rv.append (.cons ry .nil)).mono rh g⟩ .non (by rw [hl];trivial)⟩
       . exact f.elim
     | ext =>
       unfold Zff Zot at f;simp only at f;split at f
       . split at f
         . rename_i zs e2;obtain ⟨hz,f⟩:=f.iff;obtain ⟨y,rfl,ry⟩:=r2.one;obtain ⟨b,ws,rfl,hj,hl2,rw'⟩:=ry.lst rh e2;have g:Gr H B (upd H a (.lst (vs++ws))) B:=Gr.write (O1 hi) (by rw [hl];trivial);exact ZkC pins s Z H _ _ v us Q I rx rs ⟨a,b,vs,ws,rfl,rfl,hl,hl2,by rw [<- rv.length,<- rw'.length];exact hz,f.wrote rh hi ⟨_,Zd,(rv.append rw').mono rh g⟩ .non (by rw [hl];trivial)⟩
         . exact f.elim
       . obtain ⟨hz,f⟩:=f.iff;obtain ⟨y,rfl,ry⟩:=r2.one;obtain ⟨b,ws,rfl,t,rw'⟩:=ry.tup_inv;have g:Gr H B (upd H a (.lst (vs++ws))) B:=Gr.write (O1 hi) (by rw [hl];trivial);exact Zir pins s Z H _ _ v us Q I rx rs ⟨a,b,vs,ws,rfl,rfl,hl,hY ▸ t,by rw [<- rv.length,<- rw'.length];exact hz,f.wrote rh hi ⟨_,Zd,(rv.append rw').mono rh g⟩ .non (by rw [hl];trivial)⟩
       . exact f.elim
     | pop =>
       unfold Zff ZqV at f;simp only at f;split at f
       . split at f
         . rename_i y e2;cases r2;rw [rv.length] at e2;obtain ⟨w,e3,rw'⟩:=rv.get e2;have g:Gr H B (upd H a (.lst vs.dropLast)) B:=Gr.write (O1 hi) (by rw [hl];trivial);exact ZqS pins s Z H _ _ v us Q I rx rs ⟨a,vs,w,rfl,rfl,hl,e3,f.wrote rh hi ⟨_,Zd,rv.dropLast.mono rh g⟩ (rw'.mono rh g) (by rw [hl];trivial)⟩
         . exact f.elim
       . exact f.elim
     | rev =>
       unfold Zff Zth at f;simp only at f;split at f
       . cases r2;have g:Gr H B (upd H a (.lst vs.reverse)) B:=Gr.write (O1 hi) (by rw [hl];trivial);exact Ziq pins s Z H _ _ v us Q I rx rs ⟨a,vs,rfl,rfl,hl,f.wrote rh hi ⟨_,Zd,rv.reverse.mono rh g⟩ .non (by rw [hl];trivial)⟩
       . exact f.elim
     | clr =>
       unfold Zff Zti at f;simp only at f;split at f
       . cases r2;exact Zl8 pins s Z H _ _ v us Q I rx rs ⟨a,vs,rfl,rfl,hl,f.wrote rh hi ⟨_,Zd,.nil⟩ .non (by rw [hl];trivial)⟩
       . exact f.elim
   . exact f.elim
 . exact f.elim
noncomputable def rP(Y:Yx)(E:XK):Zpg:=fun o i v H Q=>∃ a b c h B,RH Y H B h/\RD Y H B a o/\RD Y H B b i/\RD Y H B c v/\Fin Y (fun _ _ (_:Unit) (_:Unit)=>True) H B (ZaQ a b c h) (fun _ H'=>Q H') E
theorem Zqj:Zpi X (rP Y E):=by
 intro pins s Z H o i v ov iv u Q I ro ri rv hh;obtain ⟨a,b,c,h,B,rh,ra,rb,rc,f⟩:=hh;unfold ZaQ at f;split at f
 . split at f
   . rename_i j xs e;split at f
     . split at f
       . rename_i j' e2;obtain ⟨p,vs,rfl,hi,hl,rs⟩:=ra.lst rh e;have hb:=rb.int_inv;subst hb;rw [rs.length] at e2;have g:Gr H B (upd H p (.lst (vs.set j' v))) B:=Gr.write (O1 hi) (by rw [hl];trivial);exact set_list pins s Z H _ _ v ov iv u Q I ro ri rv ⟨p,vs,_,j',rfl,rfl,hl,e2,f.wrote (b:=()) rh hi ⟨_,Zd,(RDs.set rc j' rs).mono rh g⟩ trivial (by rw [hl];trivial)⟩
       . exact f.elim
     . exact f.elim
   . rename_i j kvs e;split at f
     . rename_i k e2;obtain ⟨hz,f⟩:=f.iff;obtain ⟨p,vs,rfl,hi,hl,rs⟩:=ra.dic rh e;have g:Gr H B (upd H p (.dK (putK vs k v))) B:=Gr.write (O1 hi) (by rw [hl];trivial);exact set_dict pins s Z H _ _ v ov iv u Q I ro ri rv ⟨p,vs,k,rfl,Zcq rb e2,hl,by rw [<- rs.length];exact hz,f.wrote (b:=()) rh hi ⟨_,Zd,(rs.put k rc).mono rh g⟩ trivial (by rw [hl];trivial) (ZeD (rh.ks _ _ e) (Zmk rb e2))⟩
     . exact f.elim
   . exact f.elim
 . exact f.elim
end
end IV
end
section
namespace IV
open PySem PySem.Spec PyProof.Rows L2
noncomputable def rW(K:PySem.W.Frag)(x:V)(H1:Hp)(R:It->Hp->Prop):Prop :=
 (∃ a,x=.ref a/\(∃ xs,SqL K H1 a xs)/\R (Itl K a) H1)\/(∃ a,x=.ref a/\(∃ xs,SqT K H1 a xs)/\R (Itt K a) H1)
theorem Zqq(hl:PE X l tl):PI X tg l (fun Z H R=>tl Z H fun x H1=>rW X.K x H1 R):=by
 intro pins s Z H R I h;refine thn (hl pins s Z H _ I h) fun v s1 ⟨x,H1,I1,r1,q1⟩=>?_;have fp1:∀ b∈[s1.heap.objs.size],Zck X pins H1 b:=fun b hb=>by
   have e:b=s1.heap.objs.size:=by simpa using hb
   subst e;exact I1.fpOk (Oq _) (I1.hok.fresh (Oq _))
 rcases q1 with ⟨a,rfl,⟨xs,hq⟩,q⟩|⟨a,rfl,⟨xs,hq⟩,q⟩
 . cases r1;obtain ⟨its,rv,p,hz⟩:=I1.list hq;exact wpAny_pyIter_list p.isList ⟨s1.heap.objs.size,[s1.heap.objs.size],_,_,H1,rfl,I1.kept (t':=s1.toks) fun b o e=>Od _ e,Zkc a _,⟨_,Oj _ rfl,rfl,rfl⟩,fp1,q⟩
 . cases r1;obtain ⟨its,rv,p,hz⟩:=I1.tuple hq;exact wpAny_pyIter_tuple (show s1.heap.IsTuple a its.toArray from p) ⟨s1.heap.objs.size,[s1.heap.objs.size],_,_,H1,rfl,I1.kept (t':=s1.toks) fun b o e=>Od _ e,Zh6 a _,⟨_,Oj _ rfl,rfl,rfl⟩,fp1,q⟩
noncomputable def WJ(Y:Yx)(H0:Hp)(μ0:List Addr)(w:Wk)(J:It):Prop:=∀ H B h,Gr H0 μ0 H B->RH Y H B h->Wk.stays w.src h=true ->
 (∀ i d,w.xs[i]? = some d->J.go i H/\∀ x H',J.yld i H x H'->Gr H B H' B/\RH Y H' B h/\RD Y H' B d x)/\J.stop w.xs.length H
section
variable {X:Cx}{Y:Yx}{E:XK}{T:Tb}{H:Hp}{B:List Addr}{h:Hd}
theorem ZpR(hY:Y.K=X.K)(rh:RH Y H B h)(t:SqT Y.K H a vs)(s:RDs Y H B xs vs):WJ Y H B ⟨[],xs⟩ (Itt X.K a):=by
 intro H1 μ1 h1 g rh1 st;have t1:=g.rdT rh t;have s1:=s.mono rh g;rw [hY] at t1;refine ⟨fun i d e=>?_,⟨vs,t1,by rw [s.length];exact Oq _⟩⟩;obtain ⟨v,e1,r1⟩:=s1.get e;refine ⟨⟨vs,v,t1,e1⟩,fun x H' ⟨eH,q⟩=>?_⟩;subst eH;have:=q vs t1;rw [e1] at this;cases this;exact ⟨Gr.refl,rh1,r1⟩
theorem Zpk(hY:Y.K=X.K)(rh:RH Y H B h)(t:FzL Y.K H a vs)(s:RDs Y H B xs vs):WJ Y H B ⟨[],xs⟩ (Itl X.K a):=by
 intro H1 μ1 h1 g rh1 st;have t1:=(g.rdF rh t).sq;have s1:=s.mono rh g;rw [hY] at t1;refine ⟨fun i d e=>?_,⟨vs,t1,by rw [s.length];exact Oq _⟩⟩;obtain ⟨v,e1,r1⟩:=s1.get e;refine ⟨⟨vs,v,t1,e1⟩,fun x H' ⟨eH,q⟩=>?_⟩;subst eH;have:=q vs t1;rw [e1] at this;cases this;exact ⟨Gr.refl,rh1,r1⟩
theorem Zep(st:Wk.stays ((i,xs)::r) h=true):h[i]? = some (.lst xs):=of_decide_eq_true (Bool.and_eq_true_iff.mp st).1
theorem ZkY(hi:B[i]? = some a):WJ Y H B ⟨[(i,xs)],xs⟩ (Itl X.K a):=by
 intro H1 μ1 h1 g rh1 st;obtain ⟨vs,hl,s1⟩:=rh1.ob i _ a (Zep st) (g.pre i a hi);have t1:SqL X.K H1 a vs:=.of hl;refine ⟨fun i d e=>?_,⟨vs,t1,by rw [s1.length];exact Oq _⟩⟩;obtain ⟨v,e1,r1⟩:=s1.get e;refine ⟨⟨vs,v,t1,e1⟩,fun x H' ⟨eH,q⟩=>?_⟩;subst eH;have:=q vs t1;rw [e1] at this;cases this;exact ⟨Gr.refl,rh1,r1⟩
theorem ZpS{lo:Int}:WJ Y H B ⟨[],Zab lo n⟩ (Itr lo n):=by
 intro H1 μ1 h1 g rh1 st;have hl:(Zab lo n).length=n:=by simp [Zab]
 refine ⟨fun i d e=>?_,by show n<=(Zab lo n).length;rw [hl];exact Oq _⟩;have hi:i<n:=by
   have:=(Ob.mp e).1;rw [hl] at this;exact this
 refine ⟨hi,fun x H' ⟨eH,q⟩=>?_⟩;subst eH q;have:d=.int (lo+i):=by
   unfold Zab at e;rw [On,List.getElem?_range hi] at e;exact (Option.some.inj e).symm
 subst this;exact ⟨Gr.refl,rh1,.int _⟩
theorem ZmH{xs:List D}{i:Nat}{d:D}(e:(Zb4 xs)[i]? = some d):∃ x,xs[i]? = some x/\d=.tup [.int i,x]:=by
 unfold Zb4 at e;rw [List.getElem?_mapIdx] at e;obtain ⟨x,e1,e2⟩:=Oo.mp e;exact ⟨x,e1,e2.symm⟩
theorem Zi2{a:Addr}{src:List (Nat×List D)}{xs:List D}(hw:WJ Y H B ⟨src,xs⟩ (Itl X.K a))(sq:∀ H1 μ1 h1,Gr H B H1 μ1->RH Y H1 μ1 h1->Wk.stays src h1=true->∃ vs,SqL X.K H1 a vs/\RDs Y H1 μ1 xs vs):WJ Y H B ⟨src,Zb4 xs⟩ (Ite X.K a):=by
 intro H1 μ1 h1 g rh1 st;obtain ⟨vs,t1,s1⟩:=sq H1 μ1 h1 g rh1 st;have hl:(Zb4 xs).length=xs.length:=by simp [Zb4]
 refine ⟨fun i d e=>?_,⟨vs,t1,by rw [hl,s1.length]⟩⟩;obtain ⟨x0,e0,rfl⟩:=ZmH e;obtain ⟨v,e1,r1⟩:=s1.get e0;refine ⟨⟨vs,v,t1,e1⟩,fun x H' ⟨p,ex,hp,y,q,eH⟩=>?_⟩;subst ex eH;have:=q vs t1;rw [e1] at this;cases this;exact ⟨Gr.lay0 hp,rh1.lay0 hp,.tup (.inl (.inl Zd)) (.cons (.int _) (.cons (r1.mono rh1 (Gr.lay0 hp)) .nil))⟩
theorem ZpT(hY:Y.K=X.K)(rh:RH Y H B h)(t:SqT Y.K H a vs)(s:RDs Y H B xs vs):WJ Y H B ⟨[],xs.reverse⟩ (Itv X.K a vs.length):=by
 intro H1 μ1 h1 g rh1 st;have t1:=g.rdT rh t;have s1:=(s.mono rh g).reverse;rw [hY] at t1;refine ⟨fun i d e=>?_,⟨vs,t1,rfl,by simp [s.length]⟩⟩;obtain ⟨v,e1,r1⟩:=s1.get e;refine ⟨⟨vs,v,t1,rfl,e1⟩,fun x H' ⟨eH,q⟩=>?_⟩;subst eH;have:=q vs t1;rw [e1] at this;cases this;exact ⟨Gr.refl,rh1,r1⟩
theorem Znc(hi:B[i]? = some a):WJ Y H B ⟨[(i,xs)],xs.reverse⟩ (ZrY X.K a xs.length):=by
 intro H1 μ1 h1 g rh1 st;obtain ⟨vs,hl,s0⟩:=rh1.ob i _ a (Zep st) (g.pre i a hi);have t1:SqL X.K H1 a vs:=.of hl;have s1:=s0.reverse;refine ⟨fun i d e=>?_,⟨vs,t1,s0.length.symm,by simp⟩⟩;obtain ⟨v,e1,r1⟩:=s1.get e;refine ⟨⟨vs,v,t1,s0.length.symm,e1⟩,fun x H' ⟨eH,q⟩=>?_⟩;subst eH;have:=q vs t1;rw [e1] at this;cases this;exact ⟨Gr.refl,rh1,r1⟩
theorem RKs.keys:∀ {kvs:List (Key×D)}{kvs':List (Key×V)},RKs Y H B kvs kvs'->kvs.map (·.1)=kvs'.map (·.1)
 | _,_,.nil=>rfl
 | _,_,.cons a s=>by rw [Op,Op,s.keys]
theorem Zpl(ea:H a=some (.frz o (.dK kvs')))(s:RKs Y H B kvs kvs')(ok:ZaG kvs):WJ Y H B ⟨[],kvs.map fun p=>Zml p.1⟩ (Itd a o kvs'):=by
 intro H1 μ1 h1 g rh1 st;have e1:=g.fz a _ _ ea;have hl:=s.length;refine ⟨fun i d e=>?_,⟨e1,by simp [hl]⟩⟩;simp only [On] at e;obtain ⟨p,ep,rfl⟩:=Oo.mp e;have hi:i<kvs.length:=(Ob.mp ep).1;refine ⟨⟨e1,by lia⟩,fun x H' ⟨eH,k,v,ek,ex⟩=>?_⟩;subst eH ex;have hk:p.1=k:=by
   have q:=congrArg (fun l=>l[i]?) s.keys;simp only [On,ep,ek,Option.map_some] at q;exact Option.some.inj q
 refine ⟨Gr.refl,rh1,?_⟩;have okp:=ok p (O1 ep);rw [hk] at okp ⊢;cases k with
 | inl i=>exact .int _
 | inr x=>exact .str _ (okp x rfl)
theorem Zrp{d:D}{x:V}{R:It->Hp->Prop}{E:XK}(rh:RH Y H B h)(r:RD Y H B d x)(f:Fin Y (WJ Y) H B (Zmw d h) R E) :
   ∃ a kvs,x=.ref a/\((H a=some (.dK kvs)/\∀ o,R (Itd a o kvs) (upd H a (.frz o (.dK kvs))))\/∃ o,H a=some (.frz o (.dK kvs))/\R (Itd a o kvs) H):=by
 cases d with
 | ref i =>
   unfold Zmw at f;simp only at f;split at f
   . rename_i kvs e;obtain ⟨a,vs,rfl,hi,hl,s⟩:=r.dic rh e;have nf:NF (H a):=by rw [hl];trivial
     refine ⟨a,vs,rfl,.inl ⟨hl,fun o=>?_⟩⟩;have g:Gr H B (upd H a (.frz o (.dK vs))) B:=Gr.write (O1 hi) nf;exact f.at g (rh.write hi ⟨o,vs,Zd,s.mono rh g⟩ nf (show ZaG kvs from rh.ks _ _ e)) (Zpl Zd (s.mono rh g) (show ZaG kvs from rh.ks _ _ e))
   . rename_i kvs e;cases r with
     | ref q =>
       obtain ⟨o,vs,h1,s⟩:=rh.ob i _ _ e q;exact ⟨_,vs,rfl,.inr ⟨o,h1,f.ok rh (Zpl h1 s (rh.ks _ _ e))⟩⟩
   . exact f.elim
 | _=>exact f.elim
theorem Znf{d:D}{R:It->Hp->Prop}(hY:Y.K=X.K)(rh:RH Y H B h)(r:RD Y H B d x)(e:ZaD d h=some w)(q:∀ J,WJ Y H B w J->R J H):rW X.K x H R:=by
 cases d with
 | tup xs =>
   cases e;obtain ⟨a,vs,rfl,t,s⟩:=r.tup_inv;exact .inr ⟨a,rfl,⟨vs,hY ▸ t⟩,q _ (ZpR hY rh t s)⟩
 | ro xs =>
   cases e;cases r with
   | ro t s=>exact .inl ⟨_,rfl,⟨_,hY ▸ t.sq⟩,q _ (Zpk hY rh t s)⟩
 | ref i =>
   unfold ZaD at e;simp only at e;split at e
   . rename_i xs he;cases e;obtain ⟨a,vs,rfl,hi,hl,s⟩:=r.lst rh he;exact .inl ⟨a,rfl,⟨vs,.of hl⟩,q _ (ZkY hi)⟩
   . cases e
 | _=>cases e
end
end IV
end
section
namespace IV
open PySem PySem.Spec PyProof.Rows L2
structure Kl where
 cs:List Str
 ats:List Str
 ms:List (Str×Str)
 is:List Str
 xs:List Str:=[]
 xa:List (Str×Str):=[]
structure Gm where
 N:List Str
 sc:Scope
 fs:List Str
 top:Bool
 kl:Kl
noncomputable def glb (Γ:Gm) (x:Str):Bool:=decide (Γ.sc.names.lookup x=some .globalImplicit)&&!(x==("__debug__" : Str))
noncomputable def Znh(sc:Scope)(x:Str):Bool:=decide (sc.names.lookup x=some .local) || decide (sc.names.lookup x=some .cell) || decide (sc.names.lookup x=some .free)
noncomputable def ZjY:Bf->Str
 | .len => "len" | .isi => "isinstance" | .int => "int" | .tup => "tuple" | .lst => "list" | .sum => "sum" | .all => "all" | .srt => "sorted" | .mx => "max" | .sri => "sorted" | .lnd => "len" | .dct => "dict" | .ldk => "list"
noncomputable def bok:Bf->Bool
 | .mx=>false
 | .all=>false
 | .sri=>false
 | .lnd=>false
 | _=>true
noncomputable def Zl9:Mf->Str
 | .app => "append" | .ext => "extend" | .pop => "pop" | .rev => "reverse" | .clr => "clear"
noncomputable def ZjZ:List Str:=["len", "isinstance", "int", "tuple", "list", "sum", "all", "sorted", "range", "enumerate", "reversed", "str", "bool", "max", "repr", "zip", "set", "dict", "any"]
noncomputable def Zi5:List String:=["int", "str", "bool", "tuple", "list"]
structure Pt where
 a:Expr:=default
 b:Expr:=default
 c:Expr:=default
 xs:List Expr:=[]
 s:Str:=⟨#[]⟩
 op:Operator:=.Add
 cs:List CmpOp:=[]
 u:UnaryOp:=.Not
 bo:BoolOp:=.And
 p:Pos:=default
 kw:List Keyword:=[]
 l:Option Expr:=none
 h:Option Expr:=none
 st:Option Expr:=none
 ks:List (Option Expr):=[]
 gs:List Comprehension:=[]
 sc:Scope:=default
 k:Nat:=0
 v:Const:=.none
noncomputable def tgE:Expr->Nat
 | .Starred _ _=>0|.BoolOp _ _ _=>1|.UnaryOp _ _ _=>2|.IfExp _ _ _ _=>3|.Compare _ _ _ _=>4|.Slice _ _ _ _=>5|.Name _ _=>6|.BinOp _ _ _ _=>7|.Tuple _ _ _=>8|.List _ _=>9
 | .Subscript _ _ _=>10|.Call _ _ _ _=>11|.Attribute _ _ _=>12|.ListComp _ _ _ _=>13|.Dict _ _ _=>14|.Constant _ _ _=>15|.NamedExpr _ _ _=>17|.Set _ _ _=>18|.SetComp _ _ _ _=>19|.DictComp _ _ _ _ _=>19|_=>16
noncomputable def prt(e:Expr):Pt:=match e with
 | .BoolOp o xs p=>{bo:=o,xs:=xs,p:=p}
 | .UnaryOp o x p=>{a:=x,u:=o,p:=p}
 | .IfExp t x y p=>{a:=t,b:=x,c:=y,p:=p}
 | .Compare l os rs p=>{a:=l,cs:=os,xs:=rs,p:=p}
 | .Slice l u s p=>{l:=l,h:=u,st:=s,p:=p}
 | .Name x p=>{s:=x,p:=p}
 | .BinOp l o r p=>{a:=l,b:=r,op:=o,p:=p}
 | .Tuple xs k p=>{xs:=xs,k:=k,p:=p}
 | .List xs p=>{xs:=xs,p:=p}
 | .Subscript x y p=>{a:=x,b:=y,p:=p}
 | .Call f xs kw p=>{a:=f,xs:=xs,kw:=kw,p:=p}
 | .Attribute x n p=>{a:=x,s:=n,p:=p}
 | .ListComp x gs sc p=>{a:=x,gs:=gs,p:=p,sc:=sc}
 | .Dict ks vs p=>{ks:=ks,xs:=vs,p:=p}
 | .Constant c k p=>{v:=c,k:=k,p:=p}
 | _=>{a:=e}
noncomputable def mkE(n:Nat)(p:Pt):Expr:=match n with
 | 1=>.BoolOp p.bo p.xs p.p|2=>.UnaryOp p.u p.a p.p|3=>.IfExp p.a p.b p.c p.p|4=>.Compare p.a p.cs p.xs p.p|5=>.Slice p.l p.h p.st p.p|6=>.Name p.s p.p|7=>.BinOp p.a p.op p.b p.p
 | 8=>.Tuple p.xs p.k p.p|9=>.List p.xs p.p|10=>.Subscript p.a p.b p.p|11=>.Call p.a p.xs p.kw p.p|12=>.Attribute p.a p.s p.p
 | 13=>.ListComp p.a p.gs p.sc p.p|14=>.Dict p.ks p.xs p.p|15=>.Constant p.v p.k p.p|_=>p.a
theorem rb(e:Expr):mkE (tgE e) (prt e)=e:=by cases e<;>rfl
theorem bL{a b:Bool}(h:(a&&b)=true):a=true:=by cases a with|true=>rfl|false=>cases h
theorem bR{a b:Bool}(h:(a&&b)=true):b=true:=by cases a with|true=>exact h|false=>cases h
theorem bO{a b:Bool}{P:Prop}(h:(a || b)=true)(l:a=true->P)(r:b=true->P):P:=by cases a with|true=>exact l rfl|false=>exact r h
theorem ff{P:Prop}(h:false=true):P:=by cases h
theorem dS{α:Type}{P:α->Prop}{a b:α}[Decidable (a=b)](h:decide (a=b)=true)(k:P b):P a:=of_decide_eq_true h ▸ k
noncomputable def an(n:Nat)(e:Expr)(f:Pt->Bool):Bool:=decide (tgE e=n)&&f (prt e)
section
variable {P:Expr->Prop}{e:Expr}
theorem ZaC(h:an n e f=true)(k:∀ p,f p=true->P (mkE n p)):P e:=rb e ▸ dS (P:=fun m=>P (mkE m (prt e))) (bL h) (k _ (bR h))
noncomputable def l1{α:Type}(xs:List α)(f:α->Bool):Bool:=match xs with
 | [y]=>f y
 | _=>false
@[elab_as_elim] theorem ZaU{α:Type}{P:List α->Prop}{xs:List α}{f:α->Bool}(h:l1 xs f=true)(k:∀ y,f y=true->P [y]):P xs:=by
 cases xs with
 | nil=>cases h
 | cons y r =>
   cases r with
   | nil=>exact k y h
   | cons _ _=>cases h
noncomputable def l2{α:Type}(xs:List α)(f:α->α->Bool):Bool:=match xs with
 | [x,y]=>f x y
 | _=>false
@[elab_as_elim] theorem Ztr{α:Type}{P:List α->Prop}{xs:List α}{f:α->α->Bool}(h:l2 xs f=true)(k:∀ x y,f x y=true->P [x,y]):P xs:=by
 cases xs with
 | nil=>cases h
 | cons x r =>
   cases r with
   | nil=>cases h
   | cons y r =>
     cases r with
     | nil=>exact k x y h
     | cons _ _=>cases h
noncomputable def l0{α:Type}(xs:List α)(b:Bool):Bool:=xs.isEmpty&&b
theorem Zjz{α:Type}{P:List α->Prop}{xs:List α}(h:l0 xs b=true)(k:b=true->P []):P xs:=by
 cases xs with
 | nil=>exact k h
 | cons _ _=>cases h
@[irreducible] noncomputable def aN(e:Expr)(f:Str->Bool):Bool:=an 6 e fun p=>f p.s
@[elab_as_elim] theorem Ztc(h:aN e f=true)(k:∀ x q,f x=true->P (.Name x q)):P e:=by
 unfold aN at h;exact ZaC h fun _ h=>k _ _ h
@[irreducible] noncomputable def aX(x:Str)(e:Expr)(b:Bool):Bool:=an 6 e fun p=>decide (p.s=x)&&b
@[elab_as_elim] theorem ZpQ(h:aX x e b=true)(k:∀ q,b=true->P (.Name x q)):P e:=by
 unfold aX at h;exact ZaC h fun p h=>dS (P:=fun s=>P (.Name s p.p)) (bL h) (k _ (bR h))
@[irreducible] noncomputable def aB2(o:Operator)(e:Expr)(f:Expr->Expr->Bool):Bool:=an 7 e fun p=>decide (p.op=o)&&f p.a p.b
@[elab_as_elim] theorem ZtP(h:aB2 o e f=true)(k:∀ l r q,f l r=true->P (.BinOp l o r q)):P e:=by
 unfold aB2 at h;exact ZaC h fun p h=>dS (P:=fun s=>P (.BinOp p.a s p.b p.p)) (bL h) (k _ _ _ (bR h))
@[irreducible] noncomputable def aC1(o:CmpOp)(e:Expr)(f:Expr->Expr->Bool):Bool:=an 4 e fun p=>decide (p.cs=[o])&&l1 p.xs fun r=>f p.a r
@[elab_as_elim] theorem ZjX(h:aC1 o e f=true)(k:∀ l r q,f l r=true->P (.Compare l [o] [r] q)):P e:=by
 unfold aC1 at h;exact ZaC h fun p h=>dS (P:=fun s=>P (.Compare p.a s p.xs p.p)) (bL h) (ZaU (P:=fun s=>P (.Compare p.a [o] s p.p)) (bR h) fun _ h=>k _ _ _ h)
@[irreducible] noncomputable def aU(u:UnaryOp)(e:Expr)(f:Expr->Bool):Bool:=an 2 e fun p=>decide (p.u=u)&&f p.a
@[elab_as_elim] theorem ZpW(h:aU u e f=true)(k:∀ x q,f x=true->P (.UnaryOp u x q)):P e:=by
 unfold aU at h;exact ZaC h fun p h=>dS (P:=fun s=>P (.UnaryOp s p.a p.p)) (bL h) (k _ _ (bR h))
@[irreducible] noncomputable def aO(o:BoolOp)(e:Expr)(f:List Expr->Bool):Bool:=an 1 e fun p=>decide (p.bo=o)&&f p.xs
@[elab_as_elim] theorem Zon(h:aO o e f=true)(k:∀ xs q,f xs=true->P (.BoolOp o xs q)):P e:=by
 unfold aO at h;exact ZaC h fun p h=>dS (P:=fun s=>P (.BoolOp s p.xs p.p)) (bL h) (k _ _ (bR h))
@[irreducible] noncomputable def aI(e:Expr)(f:Expr->Expr->Expr->Bool):Bool:=an 3 e fun p=>f p.a p.b p.c
@[elab_as_elim] theorem ZuQ(h:aI e f=true)(k:∀ t x y q,f t x y=true->P (.IfExp t x y q)):P e:=by
 unfold aI at h;exact ZaC h fun _ h=>k _ _ _ _ h
@[irreducible] noncomputable def aT(e:Expr)(f:List Expr->Bool):Bool:=an 8 e fun p=>f p.xs
@[elab_as_elim] theorem ZgQ(h:aT e f=true)(k:∀ xs j q,f xs=true->P (.Tuple xs j q)):P e:=by
 unfold aT at h;exact ZaC h fun _ h=>k _ _ _ h
@[irreducible] noncomputable def aLs(e:Expr)(f:List Expr->Bool):Bool:=an 9 e fun p=>f p.xs
@[elab_as_elim] theorem Ztk(h:aLs e f=true)(k:∀ xs q,f xs=true->P (.List xs q)):P e:=by
 unfold aLs at h;exact ZaC h fun _ h=>k _ _ h
@[irreducible] noncomputable def aS(e:Expr)(f:Expr->Expr->Bool):Bool:=an 10 e fun p=>f p.a p.b
@[elab_as_elim] theorem Zqa(h:aS e f=true)(k:∀ x y q,f x y=true->P (.Subscript x y q)):P e:=by
 unfold aS at h;exact ZaC h fun _ h=>k _ _ _ h
@[irreducible] noncomputable def aSl(e:Expr)(f:Expr->Option Expr->Option Expr->Bool):Bool:=aS e fun x y=>an 5 y fun p=>p.st.isNone&&f x p.l p.h
@[elab_as_elim] theorem ZsB(h:aSl e f=true)(k:∀ x l u q r,f x l u=true->P (.Subscript x (.Slice l u none q) r)):P e:=by
 unfold aSl at h;exact Zqa h fun x _ r h=>ZaC (P:=fun y=>P (.Subscript x y r)) h fun p h=>by
   show P (.Subscript x (.Slice p.l p.h p.st p.p) r);rw [Option.isNone_iff_eq_none.mp (bL h)];exact k _ _ _ _ _ (bR h)
@[irreducible] noncomputable def aCN(n:Str)(e:Expr)(f:List Expr->Bool):Bool:=an 11 e fun p=>aX n p.a (l0 p.kw (f p.xs))
@[elab_as_elim] theorem ZcL(h:aCN n e f=true)(k:∀ p ys q,f ys=true->P (.Call (.Name n p) ys [] q)):P e:=by
 unfold aCN at h;exact ZaC h fun p h=>ZpQ (P:=fun a=>P (.Call a p.xs p.kw p.p)) h fun q h=>Zjz (P:=fun w=>P (.Call (.Name n q) p.xs w p.p)) h fun h=>k _ _ _ h
@[irreducible] noncomputable def aA(n:Str)(e:Expr)(f:Expr->Pos->Bool):Bool:=an 12 e fun p=>decide (p.s=n)&&f p.a p.p
@[elab_as_elim] theorem Zpf(h:aA n e f=true)(k:∀ x q,f x q=true->P (.Attribute x n q)):P e:=by
 unfold aA at h;exact ZaC h fun p h=>dS (P:=fun s=>P (.Attribute p.a s p.p)) (bL h) (k _ _ (bR h))
@[irreducible] noncomputable def aCA(n:Str)(e:Expr)(f:Expr->Pos->List Expr->Pos->Bool):Bool:=an 11 e fun p=>aA n p.a fun x ap=>l0 p.kw (f x ap p.xs p.p)
@[elab_as_elim] theorem ZjV(h:aCA n e f=true)(k:∀ x ap ys cp,f x ap ys cp=true->P (.Call (.Attribute x n ap) ys [] cp)):P e:=by
 unfold aCA at h;exact ZaC h fun p h=>Zpf (P:=fun a=>P (.Call a p.xs p.kw p.p)) h fun x q h=>Zjz (P:=fun w=>P (.Call (.Attribute x n q) p.xs w p.p)) h fun h=>k _ _ _ _ h
@[irreducible] noncomputable def aLC(e:Expr)(f:Expr->Expr->Expr->List Expr->Scope->Bool):Bool:=an 13 e fun p=>l1 p.gs fun g=>match g with|⟨t,i,c,n⟩=>decide (n=0)&&f p.a t i c p.sc
@[elab_as_elim] theorem Zpv(h:aLC e f=true)(k:∀ x t i c sc q,f x t i c sc=true->P (.ListComp x [⟨t,i,c,0⟩] sc q)):P e:=by
 unfold aLC at h;exact ZaC h fun p h=>ZaU (P:=fun g=>P (.ListComp p.a g p.sc p.p)) h fun g h=>match g,h with
   | ⟨t,i,c,_⟩,h=>dS (P:=fun s=>P (.ListComp p.a [⟨t,i,c,s⟩] p.sc p.p)) (bL h) (k _ _ _ _ _ _ (bR h))
@[irreducible] noncomputable def aD(e:Expr)(f:List (Option Expr)->List Expr->Bool):Bool:=an 14 e fun p=>f p.ks p.xs
@[elab_as_elim] theorem Zu0(h:aD e f=true)(k:∀ ks vs q,f ks vs=true->P (.Dict ks vs q)):P e:=by
 unfold aD at h;exact ZaC h fun _ h=>k _ _ _ h
@[irreducible] noncomputable def aK(e:Expr)(f:Const->Bool):Bool:=an 15 e fun p=>f p.v
@[elab_as_elim] theorem ZuO(h:aK e f=true)(k:∀ c j q,f c=true->P (.Constant c j q)):P e:=by
 unfold aK at h;exact ZaC h fun _ h=>k _ _ _ h
end
noncomputable def Zu2:D->Const->Bool
 | .int i,.int j=>decide (i=j)
 | .str x,.str y=>decide (x=y)&&PyData.strOk y
 | .bl b,.bool c=>decide (b=c)
 | .non,.none=>true
 | _,_=>false
noncomputable def ZtO(Γ:Gm)(d:D)(e:Expr):Bool:=(aK e fun c=>Zu2 d c) || match d with
 | .ty n=>aX (Str.ofString n) e (decide (n∈Zi5)&&glb Γ (Str.ofString n))
 | _=>false
noncomputable def ZmM(NC N:List Str)(js:List (Option Nat))(sc scope:Scope):Bool :=
 decide (scope.kind=.function)&&decide (sc.kind=.function)&&(scope.names.all fun y=>decide (y.2≠.cell))&&(scope.names.all fun y=>!decide (y.2=.local) || decide (scope.names.lookup y.1=some .local)) &&
   (scope.names.all fun y=>!decide (y.2=.free) || decide (sc.names.lookup y.1=some .cell))&&decide NC.Nodup&&decide (js.length=NC.length) &&
   ((NC.zip js).all fun p=>p.2.all fun j=>decide (N[j]? = some p.1)&&decide (scope.names.lookup p.1=some .free))
theorem ZhA(h:ZmM NC N js sc scope=true):CompSc NC N js sc scope:=by
 unfold ZmM at h;rw [Oa,Oa,Oa,Oa,Oa,Oa,Oa] at h;obtain ⟨⟨⟨⟨⟨⟨⟨a,b⟩,c⟩,d⟩,e⟩,f⟩,g⟩,i⟩:=h;rw [OC] at c d e;refine ⟨of_decide_eq_true a,of_decide_eq_true b,fun y hy=>of_decide_eq_true (c y hy),fun y hy e1=>?_,fun y hy e1=>?_,of_decide_eq_true f,of_decide_eq_true g,i⟩
 . have:=d y hy;rw [decide_eq_true e1] at this;simpa using this
 . have:=e y hy;rw [decide_eq_true e1] at this;simpa using this
noncomputable def ZkA(N:List Str)(own:Str->Bool)(i:Nat)(e:Expr):Bool:=aN e fun x=>decide (N[i]? = some x)&&own x
noncomputable def ZjS(N:List Str)(own:Str->Bool):List Nat->List Expr->Bool
 | [],es=>es.isEmpty
 | i::is,es=>match es with
   | e::es=>ZkA N own i e&&ZjS N own is es
   | []=>false
noncomputable def ZjU(N:List Str)(own:Str->Bool)(i j:Nat)(e:Expr):Bool:=aT e fun es=>l2 es fun a b=>ZkA N own i a&&ZkA N own j b
noncomputable def ZjT(N:List Str)(own:Str->Bool)(is:List Nat)(e:Expr):Bool:=aT e fun es=>ZjS N own is es
noncomputable def ZoX(N:List Str)(own:Str->Bool)(g:Tg)(e:Expr):Bool:=match g with
 | .nm i=>ZkA N own i e
 | .two i j=>ZjU N own i j e
 | .many is=>ZjT N own is e
@[elab_as_elim] theorem Za9{P:Expr->Prop}(h:ZkA N own i e=true)(k:∀ x p,N[i]? = some x->own x=true->P (.Name x p)):P e:=Ztc h fun _ _ h=>k _ _ (of_decide_eq_true (bL h)) (bR h)
noncomputable def isTup(e:Expr):Bool:=decide (tgE e=8)
@[elab_as_elim] theorem Zpx{P:Expr->Prop}(h:isTup e=true)(k:∀ xs j q,P (.Tuple xs j q)):P e:=ZgQ (P:=P) (f:=fun _=>true) (by unfold aT an;rw [show decide (tgE e=8)=true from h];rfl) fun _ _ _ _=>k _ _ _
noncomputable def tgk:Tg->Nat
 | .nm i=>i+1
 | .two i j=>max i j+1
 | .many is=>is.foldr max 0+1
noncomputable def ZsY(sc:Scope)(x:Str):Bool:=decide (sc.names.lookup x=some .local)
noncomputable def ownD(sc:Scope)(x:Str):Bool:=decide (sc.names.lookup x=some .local) || decide (sc.names.lookup x=some .cell)
noncomputable def Zbr(e:Expr):Bool:=decide (tgE e≠18)
noncomputable def ZeA(e:Expr):Bool:=decide (tgE e≠5)
noncomputable def ZaK(e:Expr):Bool:=decide (tgE e≠0)
noncomputable def Zav(e:Expr):Bool:=!(decide (tgE e=11)&&(prt e).xs.isEmpty)
noncomputable def Zii(e:Expr):Bool:=decide (6<=tgE e)&&decide (tgE e<=16)
mutual
noncomputable def chk(Γ:Gm):Ex->Expr->Bool
 | .var i,e=>aN e fun x=>decide (Γ.N[i]? = some x)&&(Znh Γ.sc x&&(!(x==("__debug__" : Str))&&!(x==("__classdict__" : Str))))
 | .cst d,e=>ZtO Γ d e
 | .glo x,e=>aX x e (glb Γ x)
 | .bin op a b,e=>aB2 op e fun l r=>chk Γ a l&&chk Γ b r
 | .cmp op a b,e=>aC1 op e fun l r=>chk Γ a l&&(chk Γ b r&&Zbr r)
 | .cmp2 _ _ _ _ _,_=>false
 | .neg a,e=>aU .USub e fun x=>chk Γ a x
 | .nt a,e=>aU .Not e fun x=>chk Γ a x
 | .ands es,e=>aO .And e fun xs=>chks Γ es xs
 | .ors es,e=>aO .Or e fun xs=>chks Γ es xs
 | .ite c a b,e=>aI e fun t x y=>chkt Γ c t&&(chk Γ a x&&chk Γ b y)
 | .tupl es,e=>aT e fun xs=>chks Γ es xs
 | .lstl es,e=>aLs e fun xs=>chks Γ es xs
 | .ix a i,e=>aS e fun x y=>chk Γ a x&&(chk Γ i y&&ZeA y)
 | .sl a lo hi,e=>aSl e fun x l u=>chk Γ a x&&(chko Γ lo l&&chko Γ hi u)
 | .blt f es,e=>aCN (ZjY f) e fun ys=>(bok f&&glb Γ (ZjY f))&&(chks Γ es ys&&!ys.isEmpty)
 | .call f es,e=>aCN f e fun ys=>decide (f∈Γ.fs)&&(glb Γ f&&(chks Γ es ys&&!ys.isEmpty))
 | .meth m o es,e=>aCA (Zl9 m) e fun x ap ys cp=>chk Γ o x&&(Zav x&&(chks Γ es ys&&(decide (ys.length<29)&&(ap.endLine==cp.line))))
 | .trev e,x=>aCN "tuple" x fun ys=>l1 ys fun z=>aCN "reversed" z fun ys=>l1 ys fun y=>glb Γ "tuple" && (glb Γ "reversed" && (chk Γ e y&&ZaK y))
 | .lrv _,_=>false
 | .tix o e,x=>aCA "index" x fun x ap ys cp=>l1 ys fun y=>chk Γ o x&&(Zav x&&(chk Γ e y&&(ZaK y&&(ap.endLine==cp.line))))
 | .lix o e,x=>aCA "index" x fun x ap ys cp=>l1 ys fun y=>chk Γ o x&&(Zav x&&(chk Γ e y&&(ZaK y&&(ap.endLine==cp.line))))
 | .lin _ _,_=>false
 | .dne a b,e=>aC1 .NotEq e fun l r=>chk Γ a l&&(chk Γ b r&&Zbr r)
 | .rpn _ _,_=>false
 | .comp NC js it g c e,x=>aLC x fun elt tg iter ifs scope=>Γ.top&&(ZmM NC Γ.N js Γ.sc scope&&(chki Γ it tg iter&&(Zbr iter&&(ZoX NC (ZsY scope) g tg&&(((List.range (tgk g)).all fun j=>decide (js[j]? = some none)) &&
       (chkf ⟨NC,scope,Γ.fs,false,Γ.kl⟩ c ifs&&chk ⟨NC,scope,Γ.fs,false,Γ.kl⟩ e elt))))))
 | .sorts e,x=>aCN "sorted" x fun ys=>l1 ys fun z=>aCN "set" z fun ys=>l1 ys fun y=>glb Γ "sorted" && (glb Γ "set" && (chk Γ e y&&ZaK y))
 | .maxd _ _,_=>false
 | .dictl ps,e=>aD e fun keys values=>decide (keys.length<=15)&&chkp Γ ps keys values
 | .att Cs o f,e=>aA f e fun x _=>chk Γ o x&&(Zav x&&((Cs.all fun C=>decide (C∈Γ.kl.cs))&&decide (f∈Γ.kl.ats)))
 | .mk C es,e=>aCN C e fun ys=>decide (C∈Γ.kl.is)&&(glb Γ C&&chks Γ es ys)
 | .mcl C m o es,e=>aCA m e fun x ap ys cp=>chk Γ o x&&(Zav x&&(chks Γ es ys&&(decide ((C,m)∈Γ.kl.ms)&&(decide (ys.length<29)&&(ap.endLine==cp.line)))))
 | .any,_=>true
noncomputable def chks(Γ:Gm):Exs->List Expr->Bool
 | .nil,es=>es.isEmpty
 | .cons e r,es=>match es with
   | x::xs=>chk Γ e x&&(ZaK x&&chks Γ r xs)
   | []=>false
noncomputable def chkp(Γ:Gm):Exs->List (Option Expr)->List Expr->Bool
 | .nil,ks,vs=>ks.isEmpty&&vs.isEmpty
 | .cons k r,ks,vs=>match r with
   | .cons v r'=>match ks,vs with
     | some kx::ks,vx::vs=>chk Γ k kx&&(chk Γ v vx&&chkp Γ r' ks vs)
     | _,_=>false
   | .nil=>false
noncomputable def chko(Γ:Gm):Option Ex->Option Expr->Bool
 | none,x=>x.isNone
 | some a,x=>match x with
   | some x=>chk Γ a x
   | none=>false
noncomputable def chkf(Γ:Gm):Option Tx->List Expr->Bool
 | none,x=>x.isEmpty
 | some a,x=>l1 x fun x=>chkt Γ a x
noncomputable def Zu1(Γ:Gm):Ex->Expr->Bool
 | .cmp op a b,e=>aC1 op e fun l r=>chk Γ a l&&(chk Γ b r&&Zbr r)
 | .dne a b,e=>aC1 .NotEq e fun l r=>chk Γ a l&&(chk Γ b r&&Zbr r)
 | _,_=>false
noncomputable def chkt(Γ:Gm):Tx->Expr->Bool
 | .ex e,x=>(Zii x&&chk Γ e x) || Zu1 Γ e x
 | .ands ts,x=>aO .And x fun xs=>chkts Γ ts xs
 | .ors ts,x=>aO .Or x fun xs=>chkts Γ ts xs
 | .nt t,x=>aU .Not x fun y=>chkt Γ t y
noncomputable def chkts(Γ:Gm):Txs->List Expr->Bool
 | .one t,xs=>l1 xs fun x=>chkt Γ t x
 | .cons t ts,xs=>match xs with
   | x::r=>chkt Γ t x&&(!r.isEmpty&&chkts Γ ts r)
   | _=>false
noncomputable def chki(Γ:Gm):Ix->Expr->Expr->Bool
 | .pl e,_,x=>chk Γ e x
 | .rng e,_,x=>aCN "range" x fun ys=>l1 ys fun y=>glb Γ "range" && (chk Γ e y&&ZaK y)
 | .rng2 _ _,_,_=>false
 | .enu e,tg,x=>aCN "enumerate" x fun ys=>l1 ys fun y=>glb Γ "enumerate" && (chk Γ e y&&(ZaK y&&isTup tg))
 | .rev e,_,x=>aCN "reversed" x fun ys=>l1 ys fun y=>glb Γ "reversed" && (chk Γ e y&&ZaK y)
 | .en1 _,_,_=>false
 | .zl _ _,_,_=>false
 | .zp _ _,_,_=>false
 | .en0 _,_,_=>false
 | .dk e,_,x=>chk Γ e x
end
end IV
end
section
namespace IV
open PySem PySem.Spec PyProof.Rows L2
noncomputable def leS(a b:Str):Prop:=¬ b.cps.toList<a.cps.toList
theorem ZfA(h:leS a b)(q:leS b c):leS a c:=by
 unfold leS at *;rw [List.not_lt] at *;exact List.le_trans h q
theorem Zhf(h:leS a b)(q:leS b a):a=b:=by
 unfold leS at *;rw [List.not_lt] at *;have e:=List.le_antisymm h q;obtain ⟨⟨a⟩⟩:=a;obtain ⟨⟨b⟩⟩:=b;simp at e;subst e;rfl
theorem ZgT:∀ {ss:List Str},sortedS ss=true->ss.Pairwise leS:=by
 have gen:∀ (r:List Str) (p:Str),risingS p r=true->(∀ x∈r,leS p x)/\r.Pairwise leS:=by
   intro r;induction r with
   | nil=>intro p _;exact ⟨by simp,.nil⟩
   | cons x r ih =>
     intro p h;rw [risingS,Oa] at h;obtain ⟨h1,h2⟩:=ih x h.2;have hx:leS p x:=by
       have:=h.1;rw [ltCps_eq] at this;unfold leS;simpa using this
     refine ⟨fun y hy=>?_,.cons h1 h2⟩;rcases O2.mp hy with rfl|hy
     . exact hx
     . exact ZfA hx (h1 y hy)
 intro ss h;cases ss with
 | nil=>exact .nil
 | cons x r=>obtain ⟨h1,h2⟩:=gen r x h;exact .cons h1 h2
theorem Zeu(x:Str):∀ r:List Str,(Zkl x r).Perm (x::r)
 | []=>.refl _
 | y::r=>by
   unfold Zkl;split
   . exact ((Zeu x r).cons y).trans (.swap x y r)
   . exact .refl _
theorem Z6:∀ r:List Str,(ZQ r).Perm r
 | []=>.refl _
 | x::r=>(Zeu x _).trans ((Z6 r).cons x)
theorem ZgX(x:Str):∀ r:List Str,r.Pairwise leS->(Zkl x r).Pairwise leS
 | [],_=>.cons (by simp) .nil
 | y::r,h=>by
   cases h with
   | cons h1 h2 =>
     unfold Zkl;split
     . rename_i hlt;rw [ltCps_eq] at hlt;have hlt:=of_decide_eq_true hlt;refine .cons (fun z hz=>?_) (ZgX x r h2);rcases O2.mp ((Zeu x r).mem_iff.mp hz) with rfl|hz
       . unfold leS;rw [List.not_lt];exact List.le_of_lt hlt
       . exact h1 z hz
     . rename_i hlt;have hxy:leS x y:=by
         unfold leS;rw [ltCps_eq] at hlt;simpa using hlt
       refine .cons (fun z hz=>?_) (.cons h1 h2);rcases O2.mp hz with rfl|hz
       . exact hxy
       . exact ZfA hxy (h1 z hz)
theorem Zcl:∀ r:List Str,(ZQ r).Pairwise leS
 | []=>.nil
 | x::r=>ZgX x _ (Zcl r)
theorem Zfs(hp:ss'.Perm ss)(hs:sortedS ss'=true):ss'=ZQ ss :=
 (hp.trans (Z6 ss).symm).eq_of_pairwise (fun _ _ _ _ h q=>Zhf h q) (ZgT hs) (Zcl ss)
section
variable {X:Cx}{Y:Yx}{E:XK}{T:Tb}{H:Hp}{B:List Addr}{h:Hd}
theorem ZbY:∀ {ds:List (Key×D)}{vs:List (Key×V)}{ss:List Str},RKs Y H B ds vs->Zad ds=some ss->vs.map (·.1)=ss.map Sum.inr
 | _,_,_,.nil,e=>by cases e;rfl
 | _,_,_,.cons (k:=k) a s,e=>by
   cases k with
   | inl i=>cases e
   | inr x =>
     rw [Zad] at e;obtain ⟨z,e1,rfl⟩:=Oo.mp e;rw [Op,Op,ZbY s e1]
theorem Zeb:∀ (ss:List Str),(∀ x∈ss,PyData.strOk x=true)->RDs Y H B (ss.map D.str) (ss.map V.str)
 | [],_=>.nil
 | x::r,h=>.cons (.str x (h x (by simp))) (Zeb r fun y hy=>h y (by simp [hy]))
theorem Zo2 (hc:X.A.handled=none) (G:Gk X Y T):Zaa X (.builtin "sorted") (rF Y E (ZbN T.GD)):=by
 intro pins s Z H xs us Q I r hh;obtain ⟨ds,h,B,rh,rs,f⟩:=hh;unfold ZbN at f;split at f
 . split at f
   . rename_i ss e2;obtain ⟨hz,f⟩:=f.iff;obtain ⟨kvs,e3,e4⟩:=Option.bind_eq_some_iff.mp e2;obtain ⟨x,rfl,r1⟩:=rs.one;obtain ⟨a,kvs',rfl,hd,rk⟩:=r1.dicOf G rh e3;obtain ⟨hz,hok⟩:=hz;refine Zgo hc pins s Z H _ us Q I r ⟨a,kvs',ss,rfl,hd,ZbY rk e4,hz,fun p ss' hp h1 h2=>?_⟩;rw [Zfs h1 h2];refine f.new rh hp ⟨_,Zd,Zeb _ fun y hy=>?_⟩;rw [OC] at hok;exact hok y ((Z6 ss).mem_iff.mp hy)
   . exact f.elim
 . exact f.elim
theorem Zo5 (hc:X.A.handled=none) (G:Gk X Y T):Zaa X (.type "list") (rF Y E (Zm2 T.GD)):=by
 intro pins s Z H xs us Q I r hh;obtain ⟨ds,h,B,rh,rs,f⟩:=hh;unfold Zm2 at f;split at f
 . split at f
   . rename_i ss e2;obtain ⟨hok,f⟩:=f.iff;obtain ⟨kvs,e3,e4⟩:=Option.bind_eq_some_iff.mp e2;obtain ⟨x,rfl,r1⟩:=rs.one;obtain ⟨a,kvs',rfl,hd,rk⟩:=r1.dicOf G rh e3;refine ZiP hc pins s Z H _ us Q I r ⟨a,kvs',ss,rfl,hd,ZbY rk e4,fun p hp=>?_⟩;exact f.new rh hp ⟨_,Zd,Zeb _ fun y hy=>OC.mp hok y hy⟩
   . exact f.elim
 . exact f.elim
theorem Zb5(x:Str):∀ ss:List Str,x∈ddS ss↔x∈ss
 | []=>Iff.rfl
 | y::r=>by
   rw [ddS];split
   . rename_i h;rw [Zb5 x r,O2];exact ⟨.inr,fun z=>z.elim (fun z=>z ▸ h) id⟩
   . rw [O2,O2,Zb5 x r]
theorem Zhy:∀ ss:List Str,(ddS ss).Nodup
 | []=>List.nodup_nil
 | y::r=>by
   rw [ddS];split
   . exact Zhy r
   . rename_i h;exact List.nodup_cons.mpr ⟨fun z=>h ((Zb5 y r).mp z),Zhy r⟩
theorem Zej{ks ss:List Str}(nd:ks.Nodup)(mm:∀ x,x∈ks↔x∈ss):ks.Perm (ddS ss):=(List.perm_ext_iff_of_nodup nd (Zhy ss)).mpr fun x=>(mm x).trans (Zb5 x ss).symm
theorem ZgR:∀ {ds:List D}{vs:List V}{ss:List Str},RDs Y H B ds vs->strsOf ds=some ss->vs=ss.map V.str
 | _,_,_,.nil,e=>by cases e;rfl
 | _,_,_,.cons (d:=d) a s,e=>by
   cases d with
   | str i =>
     rw [strsOf] at e;obtain ⟨z,e1,rfl⟩:=Oo.mp e;cases a;rw [ZgR s e1];rfl
   | _=>cases e
end
end IV
end
section
set_option tactic.hygienic false
namespace IV
open PySem PySem.Spec PyProof.Rows L2
noncomputable def RS(Y:Yx)(H:Hp)(B:List Addr)(S:Ev)(Z:L2.St):Prop:=Z.length=S.length/\∀ (i:Nat) (d:D),S[i]? = some (some d)->∃ v,Z[i]? = some (some v)/\RD Y H B d v
section
variable {Y:Yx}{H H':Hp}{B μ':List Addr}{h:Hd}{S:Ev}{Z:L2.St}
theorem RS.mono(rh:RH Y H B h)(g:Gr H B H' μ')(r:RS Y H B S Z):RS Y H' μ' S Z:=⟨r.1,fun i d e=>let ⟨v,h1,h2⟩:=r.2 i d e;⟨v,h1,h2.mono rh g⟩⟩
theorem RS.var(r:RS Y H B S Z){i:Nat}{d:D}(e:(S[i]?).join=some d):∃ v,Z[i]? = some (some v)/\RD Y H B d v:=by
 refine r.2 i d ?_;cases q:S[i]? with
 | none=>rw [q] at e;cases e
 | some o=>rw [q] at e;cases o with
   | none=>cases e
   | some d'=>cases e;rfl
theorem RS.set(r:RS Y H B S Z){i:Nat}{d:D}{v:V}(q:RD Y H B d v):RS Y H B (S.set i (some d)) (Z.set i (some v)):=by
 refine ⟨by simp [r.1],fun j e he=>?_⟩;by_cases hj:i=j
 . subst hj;have hl:i<S.length:=by
     have:=(Ob.mp he).1;simpa using this
   rw [Ol hl] at he;cases he;exact ⟨v,by rw [Ol (by rw [r.1];exact hl)],q⟩
 . rw [Oc hj] at he;obtain ⟨w,h1,h2⟩:=r.2 j e he;exact ⟨w,by rw [Oc hj];exact h1,h2⟩
theorem RS.capt(r:RS Y H B S Z)(js:List (Option Nat)):RS Y H B (Zbd js S) (capt js Z):=by
 refine ⟨by simp [Zbd,L2.capt],fun i d e=>?_⟩;unfold Zbd at e;unfold L2.capt;rw [On] at e ⊢;cases q:js[i]? with
 | none=>rw [q] at e;cases e
 | some o =>
   rw [q] at e;cases o with
   | none=>cases e
   | some j =>
     have e':(S[j]?).join=some d:=by simpa using e
     obtain ⟨v,h1,h2⟩:=r.var e';exact ⟨v,by simp [h1],h2⟩
end
inductive Sm(Y:Yx)(E:XK){α β:Type}(rel:Hp->List Addr->α->β->Prop)(m:Ev->Hd->R α)(Z:L2.St)(H:Hp)(Q:β->Hp->Prop):Prop
 | mk (S:Ev) (h:Hd) (B:List Addr) (rh:RH Y H B h) (rs:RS Y H B S Z) (f:Fin Y rel H B (m S h) Q E):Sm Y E rel m Z H Q
noncomputable def eqR{α:Type}:Hp->List Addr->α->α->Prop:=fun _ _ a b=>a=b
theorem Sm.bind{α β γ δ:Type}{Q:β->Hp->Prop}{rel:Hp->List Addr->γ->δ->Prop}{rel':Hp->List Addr->α->β->Prop}{m:Ev->Hd->R γ}{k:Ev->γ->Hd->R α}(s:Sm Y E rel' (fun S h=>(m S h).bind (k S)) Z H Q)
   {Q1:δ->Hp->Prop}
   (hk:∀ S d h1 v H1 μ1,RH Y H1 μ1 h1->RS Y H1 μ1 S Z->rel H1 μ1 d v->Fin Y rel' H1 μ1 (k S d h1) Q E->Q1 v H1):Sm Y E rel m Z H Q1:=by
 cases s with
 | mk S h B rh rs f=>exact ⟨S,h,B,rh,rs,f.bind fun d h1 x H1 μ1 _ g rh1 rd f1=>hk S d h1 x H1 μ1 rh1 (rs.mono rh g) rd f1⟩
section
variable (T:Tb) (Y:Yx) (E:XK)
noncomputable def Z3(e:Ex):TE:=Sm Y E (RD Y) (ev T e)
noncomputable def Zlj(e:Exs):TA:=Sm Y E (RDs Y) (evs T e)
noncomputable def Zid(e:Tx):TT:=Sm Y E eqR (tst T e)
noncomputable def Zus(e:Option Ex):TO:=Sm Y E eqR (evo T e)
noncomputable def Zut(e:Ix):TI:=Sm Y E (WJ Y) (evi T e)
noncomputable def ZdY(f:Str):Sp:=fun vs H Q E=>∃ ds h B,RH Y H B h/\RDs Y H B ds vs/\Fin Y (RD Y) H B (T.C f ds h) Q E
end
structure Gd(T:Tb)(Γ:Gm)(X:Cx)(Y:Yx)(E:XK)(k:Nat):Prop where
 gk:Gk X Y T
 N:X.N=Γ.N
 sc:Γ.top=true->X.env.scope=Γ.sc
 vis:∀ x,Znh Γ.sc x=true->Vis X.env.scope x
 glo:∀ x,Γ.sc.names.lookup x=some .globalImplicit->Gl X x
 nd:X.N.Nodup
 calm:X.calm=true
 room:Room k X.A
 h60:60<=k
 pass:Za5 (CXF X.prog X.w) X E
 defs:∀ f∈Γ.fs,∃ ps,Def X.prog X.w X.K X.mg X.base k f ps (ZdY T Y f)
 blt:∀ x∈ZjZ,X.mg x=none
 room1:Room (k+1) X.A
 cls:∀ C∈Γ.kl.cs,∃ a,X.mg C=some (.ref a)/\Cls X.K a/\∀ f∈Γ.kl.ats,Zaq X.K a f
 mts:∀ p∈Γ.kl.ms,∃ a f fd ps,X.mg p.1=some (.ref a)/\Cls X.K a/\Meth X.K a p.2 f/\FnOk X.prog X.w X.K X.mg X.base (CXF X.prog X.w) k f fd ps (ZdY T Y (mnm p.1 p.2))/\Binds X.K fd ps []
 mks:∀ C∈Γ.kl.is,∃ a f fd ps,X.mg C=some (.ref a)/\Mk X.K a f/\FnOk X.prog X.w X.K X.mg X.base (CXF X.prog X.w) k f fd ps (ZdY T Y (mnm C (O "__init__")))/\Binds X.K fd ps []
theorem _root_.L2.PE.imp(h:PE X e t)(i:∀ Z H Q,t' Z H Q->t Z H Q):PE X e t':=fun pins s Z H Q I q=>h pins s Z H Q I (i Z H Q q)
theorem _root_.L2.PT.imp(h:PT X e t)(i:∀ Z H Q,t' Z H Q->t Z H Q):PT X e t':=fun pins s Z H Q I q=>h pins s Z H Q I (i Z H Q q)
theorem _root_.L2.PW.imp(h:PW X e t)(i:∀ Z H Q,t' Z H Q->t Z H Q):PW X e t':=fun w pins s Z H Q I q=>h w pins s Z H Q I (i Z H Q q)
theorem _root_.L2.PA.imp(h:PA X e t)(i:∀ Z H Q,t' Z H Q->t Z H Q):PA X e t':=fun p pins s Z H Q I q=>h p pins s Z H Q I (i Z H Q q)
theorem _root_.L2.PO.imp(h:PO X e t)(i:∀ Z H Q,t' Z H Q->t Z H Q):PO X e t':=fun pins s Z H Q I q=>h pins s Z H Q I (i Z H Q q)
theorem _root_.L2.PI.imp(h:PI X tg e t)(i:∀ Z H Q,t' Z H Q->t Z H Q):PI X tg e t':=fun pins s Z H Q I q=>h pins s Z H Q I (i Z H Q q)
structure Kd(x:Expr):Prop where
 star:tgE x≠0->∀ xs env,starEach (x::xs) env=(false,eval x env)::starEach xs env
 set:tgE x≠18->∀ env v,foldedSetIterable x env v=pure v
 mark:tgE x≠18->∀ op,behindInMarks op x=false
 ix:tgE x≠5->ZgL x
 put:tgE x≠5->∀ o pos env v,assign (.Subscript o x pos) env v=(do
     let ov <- holding [v] (eval o env);let iv <- holding [v,ov] (eval x env)
     standAt pos
     holding [v,ov,iv] (setItem ov iv v)
     release [v,ov,iv] [])
 tr:Zii x=true->∀ env whole,isTrue x env whole=(do let v <- whole;standAt x.pos;holding [v] (truthy v))
 sw:tgE x≠13->tgE x≠19->∀ t n env,swapsWith x t n env=pure false
 st:tgE x≠8->∀ es j q env,swappedStores [.Tuple es j q] x env=pure none
theorem kdE(x:Expr):Kd x:=by
 cases x<;>exact ⟨by first|exact fun _ _ _=>rfl|exact fun h=>absurd rfl h,by first|exact fun _ _ _=>rfl|exact fun h=>absurd rfl h,by first|exact fun _ _=>rfl|exact fun h=>absurd rfl h,by first|exact fun _ _ _=>rfl|exact fun h=>absurd rfl h,
   by first|exact fun _ _ _ _ _=>rfl|exact fun h=>absurd rfl h,
   by first|exact fun _ _ _=>rfl|exact fun h=>ff h,by first|exact fun _ _ _ _ _=>rfl|exact fun h=>absurd rfl h|exact fun _ h=>absurd rfl h,by first|exact fun _ _ _ _ _=>rfl|exact fun h=>absurd rfl h⟩
theorem Zn(env:Env)(h:ZaK x=true):starEach (x::xs) env=(false,eval x env)::starEach xs env:=(kdE x).star (of_decide_eq_true h) _ _
theorem Zib(env:Env)(h:Zbr x=true):∀ v,foldedSetIterable x env v=pure v:=(kdE x).set (of_decide_eq_true h) _
theorem Zeg(h:Zbr x=true):behindInMarks op x=false:=(kdE x).mark (of_decide_eq_true h) _
theorem Zle(h:ZeA x=true):ZgL x:=(kdE x).ix (of_decide_eq_true h)
theorem Zcu(h:Zav x=true):attributeBase x n env (eval x env)=eval x env:=by
 cases x with
 | Call f as ks p =>
   cases as with
   | nil=>cases h
   | cons a as=>cases f<;>rfl
 | _=>rfl
theorem Zc2(Γ:Gm)(env:Env):∀ (es:Exs) (xs:List Expr),chks Γ es xs=true->∀ pos,(backTo pos (starEach xs env)).any (·.1)=false/\(backTo pos (starEach xs env)).all (fun x=>!x.1)=true
 | .nil,[],_,_=>⟨rfl,rfl⟩
 | .nil,_::_,h,_=>ff h
 | .cons _ _,[],h,_=>ff h
 | .cons _ r,x::xs,h,pos=>by
   rw [Zn env (bL (bR h))];exact Zc2 Γ env r xs (bR (bR h)) pos
theorem ZcK(env:Env)(h:chks Γ es (y::r)=true):starEach (y::r) env=(false,eval y env)::starEach r env/\∀ pos,(backTo pos (starEach r env)).any (·.1)=false:=by
 cases es with
 | nil=>exact ff h
 | cons e s=>exact ⟨Zn env (bL (bR h)),fun pos=>(Zc2 Γ env s r (bR (bR h)) pos).1⟩
@[elab_as_elim] theorem ZpH{P:List Expr->Prop}(h:chks Γ es ys=true)(h1:(!ys.isEmpty)=true)(k:∀ y r,chks Γ es (y::r)=true->P (y::r)):P ys:=by
 cases ys with
 | nil=>exact ff h1
 | cons y r=>exact k y r h
theorem Gd.gl {T:Tb}{Γ:Gm}{X:Cx}{Y:Yx}{E:XK}{k:Nat} (G:Gd T Γ X Y E k) {x:Str} (h:glb Γ x=true):Gl X x/\(x==("__debug__" : Str))=false:=by
 unfold glb at h;rw [Oa] at h;exact ⟨G.glo x (of_decide_eq_true h.1),by simpa using h.2⟩
theorem ZeC{f:Str->NameKind->NameKind}(x:Str):∀ names:List (Str×NameKind),(names.map fun p=>(p.1,f p.1 p.2)).lookup x=(names.lookup x).map (f x)
 | []=>rfl
 | (n,k)::r=>by
   rw [Op,OF,OF];by_cases e:x=n
   . subst e;simp
   . have:(x==n)=false:=by simpa using e
     simp only [this];exact ZeC x r
theorem ZaP(scope:Scope)(env:Env)(x:Str):(relabel scope env).names.lookup x=(scope.names.lookup x).map fun k=>if (k==NameKind.free&&env.scope.kind==.function&&env.kindOf x==some .cell) then NameKind.cell else k:=by
 have e:(relabel scope env).names=scope.names.map fun p=>(p.1,(fun (n:Str) (k:NameKind)=>if (k==NameKind.free&&env.scope.kind==.function&&env.kindOf n==some .cell) then NameKind.cell else k) p.1 p.2):=by
   unfold relabel;simp only;refine List.map_congr_left fun p _=>?_;obtain ⟨n,k⟩:=p;simp only;split<;>rfl
 rw [e];exact ZeC (f:=fun (n:Str) (k:NameKind)=>if (k==NameKind.free&&env.scope.kind==.function&&env.kindOf n==some .cell) then NameKind.cell else k) x scope.names
theorem Gd.comp{T:Tb}{Γ:Gm}{X:Cx}{Y:Yx}{E:XK}{k:Nat}(G:Gd T Γ X Y E k)(NC:List Str)(scope:Scope)(C:Addr)(s3:Shared)(H3:Hp)(fp:List Addr)(nd:NC.Nodup):Gd T ⟨NC,scope,Γ.fs,false,Γ.kl⟩ (Zw X NC scope C s3 H3 fp) Y E0 k:=by
 refine ⟨⟨G.gk.K,G.gk.mg,G.gk.gd,G.gk.g,G.gk.bare⟩,rfl,(fun h=>by cases h),fun x hx=>?_,fun x hx=>?_,nd,rfl,G.room,G.h60,Zkt,G.defs,G.blt,G.room1,G.cls,G.mts,G.mks⟩
 . show Vis (relabel scope X.env) x;unfold Vis;rw [ZaP];unfold Znh at hx;rw [Bool.or_eq_true,Bool.or_eq_true] at hx;rcases hx with (hx|hx)|hx
   . rw [of_decide_eq_true hx];exact .inl rfl
   . rw [of_decide_eq_true hx];exact .inr (.inl rfl)
   . rw [of_decide_eq_true hx];by_cases q:(X.env.scope.kind==.function&&X.env.kindOf x==some .cell)=true
     . refine .inr (.inl ?_);have:(NameKind.free==NameKind.free&&X.env.scope.kind==.function&&X.env.kindOf x==some .cell)=true:=by simpa using q
       simp only [Option.map_some,this,if_true]
     . refine .inr (.inr ?_);have:¬ ((NameKind.free==NameKind.free&&X.env.scope.kind==.function&&X.env.kindOf x==some .cell)=true):=by simpa using q
       simp only [Option.map_some,this,if_false];rfl
 . show (relabel scope X.env).names.lookup x=some .globalImplicit;rw [ZaP,hx];rfl
section
variable {T:Tb}{Y:Yx}{E:XK}{Z:L2.St}{H:Hp}{Q:VK}
theorem Zlk{a b:Ex}{f:D->D->Hd->R D}(s:Sm Y E (RD Y) (fun S h=>(ev T a S h).bind fun x h1=>(ev T b S h1).bind fun y h2=>f x y h2) Z H Q):Z3 T Y E a Z H fun x H1=>Z3 T Y E b Z H1 fun y H2=>rB Y E f x y H2 Q :=
 s.bind fun S d h1 x H1 μ1 rh1 rs1 rd f1=>⟨S,h1,μ1,rh1,rs1,f1.bind fun e h2 y H2 μ2 _ g2 rh2 re f2=>⟨d,e,h2,μ2,rh2,rd.mono rh1 g2,re,f2⟩⟩
end
theorem ZrM{T:Tb}{Γ:Gm}{X:Cx}{Y:Yx}{E:XK}{k:Nat}(G:Gd T Γ X Y E k)(f:Bf)(hb:bok f=true){e:Expr}{es:List Expr}{t:TA}{p pos:Pos}(hg:Gl X (ZjY f))(ha:PA X (e::es) t)
   (he:starEach (e::es) X.env=(false,eval e X.env)::starEach es X.env) (hpl:(backTo pos (starEach es X.env)).any (·.1)=false):PE X (.Call (.Name (ZjY f) p) (e::es) [] pos) (tCB (rF Y E (Za7 T.GD f)) t):=by
 have hY:=G.gk.K;cases f with
 | len=>exact Zc6 (Zo4 hY) hg (G.blt _ (by decide)) (by decide +kernel) ha (by decide) (by decide) he hpl
 | isi=>exact Zc6 (Zo6 hY) hg (G.blt _ (by decide)) (by decide +kernel) ha (by decide) (by decide) he hpl
 | int=>exact Zbz Zo7 hg (G.blt _ (by decide)) (by decide +kernel) ha (by decide) (by decide) he hpl
 | tup=>exact Zbz (Zo0 hY) hg (G.blt _ (by decide)) (by decide +kernel) ha (by decide) (by decide) he hpl
 | lst=>exact Zbz (Zo3 hY) hg (G.blt _ (by decide)) (by decide +kernel) ha (by decide) (by decide) he hpl
 | sum=>exact Zc6 (Zo1 G.room.hd hY) hg (G.blt _ (by decide)) (by decide +kernel) ha (by decide) (by decide) he hpl
 | all=>cases hb
 | mx=>cases hb
 | sri=>cases hb
 | dct=>exact Zbz Zo8 hg (G.blt _ (by decide)) (by decide +kernel) ha (by decide) (by decide) he hpl
 | ldk=>exact Zbz (Zo5 G.room.hd G.gk) hg (G.blt _ (by decide)) (by decide +kernel) ha (by decide) (by decide) he hpl
 | lnd=>cases hb
 | srt=>exact Zc6 (Zo2 G.room.hd G.gk) hg (G.blt _ (by decide)) (by decide +kernel) ha (by decide) (by decide) he hpl
end IV
end
section
namespace IV
open PySem PySem.Spec PyProof.Rows L2
theorem Ze1{v:V}(rd:∀ H B,RD Y H B d v)(p:PE X x (tC v)):PE X x (Z3 T Y E (.cst d)):=PE.imp p fun Z H Q s=>by
 cases s with
 | mk S h B rh rs f=>exact Fin.ok (r:=rd H B) (show Fin Y (RD Y) H B (.ok d h) Q E from f) rh
theorem ZmL(G:Gd T Γ X Y E k)(h:ZtO Γ d x=true):PE X x (Z3 T Y E (.cst d)):=by
 refine bO h (fun h=>ZuO (P:=fun x=>PE X x _) h fun c j q h=>?_) fun h=>?_
 . cases d with
   | int i=>cases c with
     | int j=>exact dS (P:=fun i=>PE X _ (Z3 T Y E (.cst (.int i)))) h (Ze1 (fun _ _=>.int _) ZqA)
     | _=>exact ff h
   | str i=>cases c with
     | str j=>exact dS (P:=fun i=>PE X _ (Z3 T Y E (.cst (.str i)))) (bL h) (Ze1 (fun _ _=>.str _ (bR h)) Zqv)
     | _=>exact ff h
   | bl i=>cases c with
     | bool j=>exact dS (P:=fun i=>PE X _ (Z3 T Y E (.cst (.bl i)))) h (Ze1 (fun _ _=>.bl _) ZsX)
     | _=>exact ff h
   | non=>cases c with
     | none=>exact Ze1 (fun _ _=>.non) Zqx
     | _=>exact ff h
   | _=>exact ff h
 . cases d with
   | ty n =>
     refine ZpQ (P:=fun x=>PE X x _) h fun p h=>?_;obtain ⟨g1,g2⟩:=G.gl (bR h);have all:(Zi5.all fun n=>decide (bootBuiltins (Str.ofString n)=some (.type n))&&(decide (Str.ofString n ≠ "__name__")&&decide (Str.ofString n∈ZjZ)))=true:=by decide +kernel
     have a:=OC.mp all n (of_decide_eq_true (bL h));exact Ze1 (fun _ _=>.ty _) (Zn3 g1 (G.blt _ (of_decide_eq_true (bR (bR a)))) (of_decide_eq_true (bL a)) rfl (of_decide_eq_true (bL (bR a))) g2)
   | _=>exact ff h
theorem R.bind_eq{α β:Type}{r:R α}{k:α->Hd->R β}{b:β}{h:Hd}(e:r.bind k=.ok b h):∃ a h1,r=.ok a h1/\k a h1=.ok b h:=by
 cases r with
 | bad=>cases e
 | ok a h1=>exact ⟨a,h1,rfl,e⟩
 | exc c h1=>cases e
theorem R.bind_assoc{α β γ:Type}{r:R α}{k:α->Hd->R β}{l:β->Hd->R γ}:(r.bind k).bind l=r.bind fun a h=>(k a h).bind l:=by cases r<;>rfl
theorem ZqN(e:opC GD op x y h=.ok r h'):∃ b,r=.bl b:=by
 have i2:∀ {f:Int->Int->Bool},Zf2 f x y h=.ok r h'->∃ b,r=.bl b:=fun e=>by
   unfold Zf2 at e;split at e
   . cases e;exact ⟨_,rfl⟩
   . cases e
 have eq:∀ {n:Bool},ZaR n x y h=.ok r h'->∃ b,r=.bl b:=fun e=>by
   unfold IV.ZaR at e;split at e
   . split at e
     . cases e;exact ⟨_,rfl⟩
     . cases e
   . cases e
 have inn:∀ {n:Bool},Zaj GD n x y h=.ok r h'->∃ b,r=.bl b:=fun e=>by
   unfold Zaj at e;split at e
   . split at e
     . cases e;exact ⟨_,rfl⟩
     . cases e
   . split at e
     . cases e;exact ⟨_,rfl⟩
     . cases e
 have n1:∀ {n:Bool},opN n x y h=.ok r h'->∃ b,r=.bl b:=fun e=>by
   unfold opN at e;split at e
   . cases e;exact ⟨_,rfl⟩
   . cases e
 unfold opC at e;split at e
 . exact eq e
 . exact eq e
 . exact i2 e
 . exact i2 e
 . exact i2 e
 . exact i2 e
 . exact inn e
 . exact inn e
 . exact n1 e
 . exact n1 e
theorem Zte (m:Mf):Slot "list" (Zl9 m) (mid m)/\typeOf (.builtin (mid m))=pure (.type "method_descriptor"):=by
 cases m with
 | app=>exact ⟨PySem.F.slot_list_append,PySem.F.type_list_append⟩
 | ext=>exact ⟨PySem.F.slot_list_extend,PySem.F.type_list_extend⟩
 | pop=>exact ⟨PySem.F.slot_list_pop,PySem.F.type_list_pop⟩
 | rev=>exact ⟨PySem.F.slot_list_reverse,PySem.F.type_list_reverse⟩
 | clr=>exact ⟨PySem.F.slot_list_clear,PySem.F.type_list_clear⟩
section
variable {Y:Yx}{α β α' β':Type}{rel:Hp->List Addr->α->β->Prop}{rel':Hp->List Addr->α'->β'->Prop}{H0 H H1:Hp}{μ0 B μ1:List Addr}{E:XK}
theorem Fin.bindB(g0:Gr H0 μ0 H B)(f:Fin Y rel' H0 μ0 (r.bind k) Q E)
   (hk:∀ a h1 b H1 μ1,r=.ok a h1->Gr H B H1 μ1->RH Y H1 μ1 h1->rel H1 μ1 a b->Fin Y rel' H0 μ0 (k a h1) Q E->Q1 b H1):Fin Y rel H B r Q1 E:=by
 cases r with
 | bad=>exact f
 | ok a h=>exact fun b H' μ' g' rh rl=>hk a h b H' μ' rfl g' rh rl f
 | exc c h=>exact fun H' μ' C g'=>f H' μ' C (g0.trans g')
theorem Fin.plain(f:Fin Y rel' H0 μ0 (r.plain.bind k) Q E)
   (hk:∀ a h1 b H1 μ1,r=.ok a h1->Gr H B H1 μ1->RH Y H1 μ1 h1->rel H1 μ1 a b->Fin Y rel' H0 μ0 (k a h1) Q E->Q1 b H1):Fin Y rel H B r Q1 E0:=by
 cases r with
 | bad=>exact f
 | ok a h=>exact fun b H' μ' g' rh rl=>hk a h b H' μ' rfl g' rh rl f
 | exc c h=>exact f.elim
end
noncomputable def Zhp:List Nat->TGs
 | []=>ZoJ
 | i::is=>Zhq (ZbP i) (Zhp is)
noncomputable def tgR(K:PySem.W.Frag):Tg->TG
 | .nm i=>ZbP i
 | .two i j=>ZoI K 2 (Zhq (ZbP i) (Zhq (ZbP j) ZoJ))
 | .many is=>ZoI K is.length (Zhp is)
theorem ZgP:∀ is:List Nat,is.foldr max 0<k->Zh2 k (Zhp is)
 | [],_=>Zi9
 | i::is,h=>by
   simp only [List.foldr_cons] at h;exact Zen (by lia) (ZgP is (by lia))
theorem Zso(K:PySem.W.Frag)(g:Tg):ZiY (tgk g) (tgR K g):=by
 cases g with
 | nm i=>exact Znn (OH i)
 | two i j=>exact Zk7 (Zen (show i<max i j+1 by lia) (Zen (show j<max i j+1 by lia) Zi9))
 | many is=>exact Zk7 (ZgP is (OH _))
theorem ZdG:∀ (is:List Nat) (es:List Expr),ZjS N own is es=true->(assignEach es env).length=is.length/\List.findIdx? (fun x=>x.fst) (assignEach es env)=none
 | [],[],_=>⟨rfl,rfl⟩
 | i::is,e::es,h=>by
   obtain ⟨a,b⟩:=ZdG (env:=env) is _ (bR h);refine Za9 (P:=fun e=>(assignEach (e::es) env).length=_/\List.findIdx? (fun x=>x.fst) (assignEach (e::es) env)=none) (bL h) fun x p _ _=>⟨congrArg (·+1) a,?_⟩
   simp only [assignEach,List.findIdx?_cons,b];rfl
 | [],_::_,h=>ff h
 | _::_,[],h=>ff h
theorem Zg1(hN:X.N=N)(nd:X.N.Nodup)(ho:∀ x,own x=true->Loc X.env.scope x/\(X.fn x=true\/X.env.scope.names.lookup x=some .local)):∀ (is:List Nat) (es:List Expr),ZjS N own is es=true->PGs X es (Zhp is)
 | [],[],_=>Zjk
 | i::is,e::es,h=>Za9 (P:=fun e=>PGs X (e::es) _) (bL h) fun x p e1 e2=>Zex (Zjm nd (by rw [hN];exact e1) (ho _ e2).1 (ho _ e2).2) (Zg1 hN nd ho is _ (bR h))
 | [],_::_,h=>ff h
 | _::_,[],h=>ff h
theorem Zjl(hN:X.N=N)(nd:X.N.Nodup)(hc:X.calm=true)(ho:∀ x,own x=true->Loc X.env.scope x/\(X.fn x=true\/X.env.scope.names.lookup x=some .local))(h:ZoX N own g tg=true):PG X tg (tgR X.K g):=by
 have nm:∀ {i x p},N[i]? = some x->own x=true->PG X (.Name x p) (ZbP i):=fun e1 e2=>Zjm nd (by rw [hN];exact e1) (ho _ e2).1 (ho _ e2).2;cases g with
 | nm i=>exact Za9 (P:=fun t=>PG X t _) h fun x p e1 e2=>nm e1 e2
 | two i j=>exact ZgQ (P:=fun t=>PG X t _) (show ZjU N own i j tg=true from h) fun xs k q h=>Ztr (P:=fun xs=>PG X (.Tuple xs k q) _) h fun a b h=>Za9 (P:=fun a=>PG X (.Tuple [a,b] k q) _) (bL h) fun x p e1 e2=>Za9 (P:=fun b=>PG X (.Tuple [_,b] k q) _) (bR h) fun y r e3 e4=>ZlJ hc (Zex (nm e1 e2) (Zex (nm e3 e4) Zjk))
 | many is=>exact ZgQ (P:=fun t=>PG X t _) (show ZjT N own is tg=true from h) fun xs k q h=>ZlJ (hn:=(ZdG _ _ h).1) (hst:=(ZdG _ _ h).2) hc (Zg1 hN nd ho _ _ h)
theorem Zjw:∀ (is:List Nat) {ds:List D}{vs:List V}{S:Ev}{Z:L2.St},RDs Y H B ds vs->RS Y H B S Z->ds.length=is.length->(∀ σ1,RS Y H B (Zic is ds S) σ1->Q σ1 H)->Zhp is vs Z H Q
 | [],ds,vs,S,Z,r,rs,hl,q=>by
   cases r with
   | nil=>exact ⟨rfl,q _ rs⟩
   | cons a s=>simp at hl
 | i::is,ds,vs,S,Z,r,rs,hl,q=>by
   cases r with
   | nil=>simp at hl
   | cons a s=>exact ⟨_,_,rfl,Zjw is s (rs.set a) (by simpa using hl) q⟩
theorem Zgv{Y:Yx}{K:PySem.W.Frag}{Q:L2.St->Hp->Prop}(hY:Y.K=K)(r:RD Y H B d v)(rs:RS Y H B S Z)(e:ZaX g d S=some ρ1)(q:∀ σ1,RS Y H B ρ1 σ1->Q σ1 H):tgR K g v Z H Q:=by
 cases g with
 | nm i =>
   cases e;exact q _ (rs.set r)
 | two i j =>
   unfold ZaX at e;simp only at e;split at e
   . cases e;obtain ⟨a,vs,rfl,t,s⟩:=r.tup_inv;obtain ⟨x,y,rfl,r1,r2⟩:=s.two;exact ⟨a,_,rfl,hY ▸ t,rfl,x,_,rfl,y,_,rfl,rfl,q _ ((rs.set r1).set r2)⟩
   . cases e
 | many is =>
   unfold ZaX at e;simp only at e;split at e
   . split at e
     . rename_i hl;cases e;obtain ⟨a,vs,rfl,t,s⟩:=r.tup_inv;exact ⟨a,vs,rfl,hY ▸ t,by rw [<- s.length,hl],Zjw is s rs hl q⟩
     . cases e
   . cases e
section
variable {Y:Yx}{H:Hp}{B:List Addr}{h:Hd}{Dd:Addr}{ys zs:List V}
theorem Zlc{K:PySem.W.Frag}(hD:H Dd=some (.lst ys))(t:SqT K H a vs):SqT K (upd H Dd (.lst zs)) a vs:=by
 rcases t with t|t
 . rcases t with t|⟨o,t⟩
   . exact .inl (.inl (by rw [Ze (fun z=>by rw [z,hD] at t;cases t)];exact t))
   . exact .inl (.inr ⟨o,by rw [Ze (fun z=>by rw [z,hD] at t;cases t)];exact t⟩)
 . exact .inr t
theorem Zmu{K:PySem.W.Frag}(hD:H Dd=some (.lst ys))(t:FzL K H a vs):FzL K (upd H Dd (.lst zs)) a vs:=by
 rcases t with ⟨o,t⟩|t
 . exact .inl ⟨o,by rw [Ze (fun z=>by rw [z,hD] at t;cases t)];exact t⟩
 . exact .inr t
theorem Tr.swap(hD:H Dd=some (.lst ys)):Tr Y H B (upd H Dd (.lst zs)) B:=⟨Zlc hD,Zmu hD,id⟩
theorem RH.swap(hD:H Dd=some (.lst ys))(hn:Dd ∉ B)(r:RH Y H B h):RH Y (upd H Dd (.lst zs)) B h :=
 r.tr (.swap hD) fun _ ha=>Ze fun z=>hn (z ▸ ha)
theorem Gr.out(g:Gr H B H' μ')(hD:H Dd=some o)(hn:Dd ∉ B):H' Dd=some o/\Dd ∉ μ' :=
 ⟨g.keep _ _ hn hD,fun hm=>(g.new _ hm).elim hn fun z=>by rw [hD] at z;cases z⟩
end
inductive CwS(Y:Yx)(H1:Hp)(μ1:List Addr)(xs:List D)(Dd:Addr)(F:List D->List D->Hd->Prop)(i m:Nat)(ys:List V)(H:Hp):Prop
 | mk (acc:List D) (h:Hd) (B:List Addr) (hi:i<=xs.length) (hm:m=xs.length - i) (g:Gr H1 μ1 H B) (rh:RH Y H B h) (ra:RDs Y H B acc ys) (nd:Dd ∉ B) (f:F (xs.drop i) acc h):CwS Y H1 μ1 xs Dd F i m ys H
theorem ZjQ{T:Tb}{Y:Yx}{E:XK}{K:PySem.W.Frag}(hY:Y.K=K){js:List (Option Nat)}{g:Tg}{c:Option Tx}{e:Ex}{tc:TT}{J:It}{w:Wk}{H1:Hp}{μ1:List Addr}{h1:Hd}{S:Ev}{Z:L2.St}{Q:VK}{Dd:Addr}
   (htc:∀ Z H Q,Sm Y E0 eqR (tsto T c) Z H Q->tc Z H Q)
   (rh:RH Y H1 μ1 h1) (rs:RS Y H1 μ1 S Z) (wj:WJ Y H1 μ1 w J) (f:Fin Y (RD Y) H1 μ1 ((Zq w.src g (tsto T c) (ev T e) w.xs (Zbd js S) [] h1).bind fun xs h2=>Zbs (.lst xs) h2) Q E) (hD:H1 Dd=none) :
   ∃ W:Nat->Nat->List V->Hp->Prop,(∃ m,W 0 m [] (upd H1 Dd (.lst []))) /\
     ∀ i m ys H,W i m ys H->H Dd=some (.lst ys)->(J.stop i H/\Q (.ref Dd) H) \/
       (J.go i H/\ys.length<sizeLine/\∀ x H',J.yld i H x H'->tgR K g x (capt js Z) H' fun σ2 H2=>tc σ2 H2 fun b H3 =>
         if b=true then Z3 T Y E0 e σ2 H3 fun y H4=>H4 Dd=some (.lst ys)/\∃ m',m'<m/\W (i+1) m' (ys++[y]) (upd H4 Dd (.lst (ys++[y])))
         else H3 Dd=some (.lst ys)/\∃ m',m'<m/\W (i+1) m' ys H3):=by
 have n1:=rh.fr hD;refine ⟨CwS Y H1 μ1 w.xs Dd fun xs acc h=>Fin Y (RD Y) H1 μ1 ((Zq w.src g (tsto T c) (ev T e) xs (Zbd js S) acc h).bind fun xs h2=>Zbs (.lst xs) h2) Q E,⟨w.xs.length,[],h1,μ1,Nat.zero_le _,(Nat.sub_zero _).symm,Gr.lay0 hD,rh.lay0 hD,.nil,n1,f⟩,?_⟩;rintro i m ys H ⟨acc,h,B,hi,rfl,g1,rh1,ra,nD,f1⟩ hl;by_cases hlt:i<w.xs.length
 . obtain ⟨d,hd⟩:∃ d,w.xs[i]? = some d:=⟨_,Og hlt⟩
   have hdrop:w.xs.drop i=d::w.xs.drop (i+1):=by
     rw [List.drop_eq_getElem_cons hlt];have:=Og hlt;rw [hd] at this;rw [<- Option.some.inj this]
   rw [hdrop,Zq] at f1;by_cases hs:Wk.stays w.src h=true/\acc.length<sizeLine
   . rw [if_pos hs] at f1;obtain ⟨go,yl⟩:=(wj H B h g1 rh1 hs.1).1 i d hd;refine .inr ⟨go,by rw [<- ra.length];exact hs.2,fun x H' hy=>?_⟩;obtain ⟨g2,rh2,rx⟩:=yl x H' hy;obtain ⟨hl2,nD2⟩:=g2.out hl nD;have g02:=g1.trans g2;split at f1
     . exact f1.elim
     . rename_i ρ1 hb;refine Zgv hY rx ((rs.mono rh g02).capt js) hb fun σ1 rs1=>htc σ1 H' _ ⟨ρ1,h,B,rh2,rs1,?_⟩;rw [R.bind_assoc] at f1;refine Fin.plain f1 fun b h3 b' H3 μ3 _ g3 rh3 eb f3=>?_;subst eb;obtain ⟨hl3,nD3⟩:=g3.out hl2 nD2;have g03:=g02.trans g3;cases b with
       | true =>
         rw [if_pos rfl] at f3 ⊢;rw [R.bind_assoc] at f3;refine ⟨ρ1,h3,μ3,rh3,rs1.mono rh2 g3,Fin.plain f3 fun y h4 y' H4 μ4 _ g4 rh4 ry f4=>?_⟩;obtain ⟨hl4,nD4⟩:=g4.out hl3 nD3;refine ⟨hl4,_,Nat.sub_lt_sub_left hlt (OH i),acc++[y],h4,μ4,hlt,rfl,(g03.trans g4).put hD,rh4.swap hl4 nD4,((((ra.mono rh1 g2).mono rh2 g3).mono rh3 g4).append (.cons ry .nil)).tr (.swap hl4),nD4,f4⟩
       | false =>
         rw [if_neg (by decide)] at f3 ⊢;exact ⟨hl3,_,Nat.sub_lt_sub_left hlt (OH i),acc,h3,μ3,hlt,rfl,g03,rh3,(ra.mono rh1 g2).mono rh2 g3,nD3,f3⟩
   . rw [if_neg hs] at f1;exact f1.elim
 . have he:i=w.xs.length:=by lia
   subst he;rw [List.drop_eq_nil_of_le (Oq _),Zq] at f1;by_cases hs:Wk.stays w.src h=true
   . rw [if_pos hs] at f1;refine .inl ⟨(wj H B h g1 rh1 hs).2,?_⟩;have f2:Fin Y (RD Y) H1 μ1 (.ok (.ref h.length) (h++[.lst acc])) Q E:=f1;exact f2.at (g1.add hD) (rh1.add nD ⟨ys,hl,ra.tr .more⟩) (.ref (by rw [rh1.len];simp))
   . rw [if_neg hs] at f1;exact f1.elim
end IV
end
section
namespace IV
open PySem PySem.Spec PyProof.Rows L2
section
variable {Y:Yx}{H:Hp}{B:List Addr}{h:Hd}
theorem RKs.look:∀ {fs:List (Str×D)}{gs:List (Str×V)},RKs Y H B fs gs->(∀ d,fs.lookup f=some d->∃ v,gs.lookup f=some v/\RD Y H B d v)/\(fs.lookup f=none->gs.lookup f=none)
 | _,_,.nil=>⟨fun d e=>by simp at e,fun _=>rfl⟩
 | _,_,.cons (k:=k) (d:=d0) (v:=v0) a s=>by
   by_cases e:f=k
   . subst e;exact ⟨fun d z=>by simp at z;subst z;exact ⟨_,by simp,a⟩,fun z=>by simp at z⟩
   . have b:(f==k)=false:=by simpa using e
     obtain ⟨q1,q2⟩:=RKs.look (f:=f) s;refine ⟨fun d z=>?_,fun z=>?_⟩
     . rw [OF,b] at z ⊢;exact q1 d z
     . rw [OF,b] at z ⊢;exact q2 z
theorem RKs.putAF(r:RD Y H B d v):∀ {fs:List (Str×D)}{gs:List (Str×V)},RKs Y H B fs gs->RKs Y H B (Zkm f d fs) (Zbp f v gs)
 | _,_,.nil=>.cons r .nil
 | _,_,.cons (k:=k) a s=>by
   unfold Zkm Zbp;by_cases e:k=f
   . rw [if_pos e,if_pos e];exact .cons r s
   . rw [if_neg e,if_neg e];exact .cons a (RKs.putAF r s)
theorem ZeH(rh:RH Y H B h)(r:RD Y H B d v)(e:ZR d h=some (C,fs)):∃ i a Ca dx gs,d=.ref i/\v=.ref a/\B[i]? = some a/\h[i]? = some (.ins C fs)/\H a=some (.ins Ca dx gs)/\Y.mg C=some (.ref Ca)/\RKs Y H B fs gs:=by
 unfold ZR at e;split at e
 . rename_i i;split at e
   . rename_i C' fs' hi;cases e;cases r with
     | ref q =>
       rename_i a;obtain ⟨Ca,dx,gs,z,m,s⟩:=rh.ob i _ a hi q;exact ⟨i,a,Ca,dx,gs,rfl,rfl,q,hi,z,m,s⟩
   . cases e
 . cases e
theorem Zos(rh:RH Y H B h)(hx:H x=none)(hd:H dx=none)(ne:dx≠x)(m:Y.mg C=some (.ref Ca)):RH Y (upd (upd H dx (.own x)) x (.ins Ca dx [])) (B++[x]) (h++[.ins C []])/\Gr H B (upd (upd H dx (.own x)) x (.ins Ca dx [])) (B++[x]):=by
 have hx':upd H dx (.own x) x=none:=by rw [Ze (fun z=>ne z.symm)];exact hx
 exact ⟨(rh.lay0 hd).lay hx' ⟨Ca,dx,[],Zd,m,.nil⟩,(Gr.lay0 hd).trans (Gr.lay hx')⟩
end
theorem ZkD(hbase:attributeBase o name env (eval o env)=eval o env)
   (hform:methodCallForm (args.length+([]:List Keyword).length) (backTo pos (starEach args env)) (backToKw pos (keywordEach [] env))=true) (hline:(apos.endLine==pos.line)=true) :
   eval (.Call (.Attribute o name apos) args [] pos) env=(do
     let ov <- eval o env
     standAt apos.atName
     let (f,first) <- holding [ov] (getMethod ov name (do return (<- importBound o env).getD true))
     callWith pos f first (backTo pos (starEach args env)) (backToKw pos (keywordEach [] env))):=by
 have hpos:methodCallPos true o env apos pos=pure pos:=by unfold methodCallPos;simp [hline]
 rw [arm_eval_Call,hbase];unfold methodCall;simp only [hform,hpos];rfl
section
variable {T:Tb}{Γ:Gm}{X:Cx}{Y:Yx}{E:XK}{k:Nat}
theorem ZrT(G:Gd T Γ X Y E k)(hc:(Cs.all fun C=>decide (C∈Γ.kl.cs))=true)(hf:f∈Γ.kl.ats)(rh:RH Y H B h)(rd:RD Y H B d x)(ff:Fin Y (RD Y) H B (Zfh Cs f d h) Q E) :
   ∃ a C dx fs v,x=.ref a/\H a=some (.ins C dx fs)/\Cls X.K C/\Zaq X.K C f/\fs.lookup f=some v/\Q v H:=by
 unfold Zfh at ff;split at ff
 . rename_i C fs e;obtain ⟨hC,ff⟩:=ff.iff;obtain ⟨i,a,Ca,dx,gs,rfl,rfl,q,hi,z,m,s⟩:=ZeH rh rd e;obtain ⟨w,e1,ff⟩:=ff.ofO;obtain ⟨v,l,rv⟩:=(s.look (f:=f)).1 w e1;rw [OC] at hc;obtain ⟨Ca',m',cl,na⟩:=G.cls C (of_decide_eq_true (hc C hC));rw [G.gk.mg,m'] at m;cases m;exact ⟨a,Ca,dx,gs,v,rfl,z,cl,na f hf,l,ff.ok rh rv⟩
 . exact ff.elim
theorem Zlg(G:Gd T Γ X Y E k)(hc:(Cs.all fun C=>decide (C∈Γ.kl.cs))=true)(hf:f∈Γ.kl.ats)(rh:RH Y H B h)(rd:RD Y H B d x)(re:RD Y H B e y)(ff:Fin Y (RD Y) H B (ZfT Cs f d e h) Q E) :
   ∃ a C dx fs,x=.ref a/\H a=some (.ins C dx fs)/\Cls X.K C/\Zaq X.K C f/\fs.length<1000/\Q .non (upd H a (.ins C dx (Zbp f y fs))):=by
 unfold ZfT at ff;split at ff
 . rename_i i;split at ff
   . rename_i C fs hi;obtain ⟨⟨hC,hl⟩,ff⟩:=ff.iff;obtain ⟨i',a,Ca,dx,gs,e1,rfl,q,hi',z,m,s⟩:=ZeH rh rd (show ZR (.ref i) h=some (C,fs) by simp [ZR,hi]);cases e1;rw [OC] at hc;obtain ⟨Ca',m',cl,na⟩:=G.cls C (of_decide_eq_true (hc C hC));have m0:=m;rw [G.gk.mg,m'] at m;cases m;refine ⟨a,Ca,dx,gs,rfl,z,cl,na f hf,by rw [<- s.length];exact hl,ff.at (Gr.write (O1 q) (by rw [z];trivial)) (rh.write q ?_ (by rw [z];trivial)) .non⟩;exact ⟨Ca,dx,_,Zd,m0,(RKs.putAF re s).mono rh (Gr.write (O1 q) (by rw [z];trivial))⟩
   . exact ff.elim
 . exact ff.elim
theorem Ztf(G:Gd T Γ X Y E k)(h2:C∈Γ.kl.is)(h3:glb Γ C=true)(h4:chks Γ es ys=true)(ha:PA X ys (Zlj T Y E es)):PE X (.Call (.Name C p) ys [] pos) (Z3 T Y E (.mk C es)):=by
 obtain ⟨a,f,fd,ps,m,M,F,B_⟩:=G.mks _ h2;obtain ⟨g1,g2⟩:=G.gl h3;have key:∀ (ds:List D) (h1:Hd) (xs:List V) (H1:Hp) (μ1:List Addr) (Q:VK),RH Y H1 μ1 h1->RDs Y H1 μ1 ds xs->Fin Y (RD Y) H1 μ1 (Zl5 T.C C ds h1) Q E->∀ x dx,H1 x=none->H1 dx=none->dx≠x ->
     ZdY T Y (mnm C (O "__init__")) (.ref x::(xs++[])) (upd (upd H1 dx (.own x)) x (.ins a dx [])) (fun v H2=>v=.non/\Q (.ref x) H2) E:=by
   intro ds h1 xs H1 μ1 Q rh1 rds f1 x dx hx hd ne;obtain ⟨rh2,g2⟩:=Zos (C:=C) (Ca:=a) rh1 hx hd ne (by rw [G.gk.mg];exact m);have px:(μ1++[x])[h1.length]? = some x:=by rw [rh1.len];simp
   refine ⟨.ref h1.length::ds,h1++[.ins C []],μ1++[x],rh2,.cons (.ref px) (by rw [List.append_nil];exact rds.mono rh1 g2),?_⟩;refine Fin.bind (Fin.mono g2 f1) fun d h3 v H3 μ3 _ g3 rh3 rd3 f3=>?_;cases d with
   | non=>cases rd3;exact ⟨rfl,f3.ok rh3 (.ref (g3.pre _ _ px))⟩
   | _=>exact f3.elim
 cases ys with
 | nil =>
   cases es with
   | nil =>
     exact (ZlO M F G.room1 g1 m B_ .nil G.pass g2).imp fun Z H Q s=>by
       cases s with
       | mk S h B rh rs f=>exact key [] h [] H B Q rh .nil f
   | cons e r=>exact ff h4
 | cons y ys=>exact (ZnY M F G.room1 g1 m B_ .nil G.pass ha g2 (ZcK X.env h4).1 ((ZcK X.env h4).2 _)).imp fun Z H Q s=>Sm.bind s fun S ds h1 xs H1 μ1 rh1 _ rds f1=>key ds h1 xs H1 μ1 Q rh1 rds f1
theorem ZqU(G:Gd T Γ X Y E k)(h5:(C,n)∈Γ.kl.ms)(h3:Zav xo=true)(h4:chks Γ es ys=true)(h6:ys.length<29)(h7:(ap.endLine==cp.line)=true)(ho:PE X xo (Z3 T Y E o))(ha:PA X ys (Zlj T Y E es)) :
   PE X (.Call (.Attribute xo n ap) ys [] cp) (Z3 T Y E (.mcl C n o es)):=by
 obtain ⟨a,f,fd,ps,mm,c,hm,F,B_⟩:=G.mts _ h5;have hform:methodCallForm (ys.length+([]:List Keyword).length) (backTo cp (starEach ys X.env)) (backToKw cp (keywordEach [] X.env))=true:=by
   unfold methodCallForm;rw [(Zc2 Γ X.env es ys h4 _).2];have h30:decide (ys.length+([]:List Keyword).length+(if (backToKw cp (keywordEach [] X.env)).isEmpty then 0 else 1)<30)=true:=by
     rw [decide_eq_true_eq];show ys.length+0+0<30
     lia
   rw [h30];rfl
 have ht:=ZkD (o:=xo) (name:=n) (apos:=ap) (pos:=cp) (args:=ys) (env:=X.env) (Zcu h3) hform h7;have key:∀ (d:D) (h1:Hd) (x:V) (H1:Hp) (μ1:List Addr) (S:Ev) (Z:L2.St) (Q:VK),RH Y H1 μ1 h1->RS Y H1 μ1 S Z->RD Y H1 μ1 d x->Fin Y (RD Y) H1 μ1 (match ZR d h1 with
       | some (C',fs)=>if C'=C/\fs.lookup n=none then (evs T es S h1).bind fun xs h2=>T.C (mnm C n) (d::xs) h2 else .bad
       | none=>.bad) Q E->∃ b dx fs,x=.ref b/\H1 b=some (.ins a dx fs)/\fs.lookup n=none/\Zlj T Y E es Z H1 fun vs H2=>ZdY T Y (mnm C n) (x::(vs++[])) H2 Q E:=by
   intro d h1 x H1 μ1 S Z Q rh1 rs1 rd f1;split at f1
   . rename_i C' fs e;obtain ⟨⟨e1,e2⟩,f1⟩:=f1.iff;subst e1;obtain ⟨i,b,Ca,dx,gs,rfl,rfl,q,hi,z,m',s⟩:=ZeH rh1 rd e;rw [G.gk.mg,mm] at m';cases m';refine ⟨b,dx,gs,rfl,z,(s.look (f:=n)).2 e2,S,h1,μ1,rh1,rs1,f1.bind fun ds h2 vs H2 μ2 _ g2 rh2 rds f2=>⟨_,h2,μ2,rh2,.cons (rd.mono rh1 g2) (by rw [List.append_nil];exact rds),f2⟩⟩
   . exact f1.elim
 cases ys with
 | nil =>
   cases es with
   | nil =>
     exact (ZlN ho c hm F G.room B_ .nil G.pass ht).imp fun Z H Q s=>Sm.bind s fun S d h1 x H1 μ1 rh1 rs1 rd f1=>by
       obtain ⟨b,dx,fs,e1,e2,e3,s⟩:=key d h1 x H1 μ1 S Z Q rh1 rs1 rd f1;cases s with
       | mk ρ' h' μ' rh' rs' f'=>exact ⟨b,dx,fs,e1,e2,e3,f'.ok rh' .nil⟩
   | cons e r=>exact ff h4
 | cons y ys=>exact (ZnX ho c hm F G.room B_ .nil G.pass ha (ZcK X.env h4).1 ((ZcK X.env h4).2 _) ht).imp fun Z H Q s=>Sm.bind s fun S d h1 x H1 μ1 rh1 rs1 rd f1=>key d h1 x H1 μ1 S Z Q rh1 rs1 rd f1
end
section
variable {X:Cx}{Y:Yx}{E:XK}{H:Hp}{B:List Addr}{h:Hd}
theorem ZfQ:∀ {xs:List D}{vs:List V}{ss:List Str},RDs Y H B xs vs->strsOf xs=some ss->vs=ss.map .str
 | [],vs,ss,r,e=>by
   cases r;cases e;rfl
 | d::ds,vs,ss,r,e=>by
   cases r with
   | cons r1 r2 =>
     cases r1 with
     | str x ok =>
       rw [strsOf] at e;obtain ⟨t,e1,rfl⟩:=Oo.mp e;rw [ZfQ r2 e1];rfl
     | _=>cases e
theorem Zp0(hY:Y.K=X.K)(ea:V.ref a=.ref b)(t:SqT Y.K H b vs)(s:RDs Y H B xs vs)(rh:RH Y H B h)(ry:RD Y H B y v)
   (f:Fin Y (RD Y) H B (Zpc (.tup xs) y h) Q E):Zig X.K (.ref a) [v] H Q:=by
 cases ry with
 | str z ok =>
   unfold Zpc at f;simp only at f;split at f
   . rename_i ss e;obtain ⟨d,e1,f⟩:=f.ofO;obtain ⟨j,e2,rfl⟩:=Oo.mp e1;have ev:=ZfQ s e;subst ev;exact ⟨b,ss,z,j,ea,rfl,hY ▸ t,e2,f.ok rh (.int _)⟩
   . exact f.elim
 | _=>exact f.elim
theorem Zov(hY:Y.K=X.K)(rh:RH Y H B h)(rd:RD Y H B d x)(il:ZcE d h=true):∃ a vs,x=.ref a/\SqL X.K H a vs:=by
 unfold ZcE at il;split at il
 . split at il
   . rename_i i xs e;obtain ⟨a,vs,rfl,hl,rv⟩:=rd.lstOf rh (xs:=xs) (by simp only [lstOf,e]);exact ⟨a,vs,rfl,hY ▸ hl⟩
   . cases il
 . cases il
theorem Zq4(hY:Y.K=X.K)(rh:RH Y H B h)(rd:RD Y H B d x)(ry:RD Y H B y v)(f:Fin Y (RD Y) H B (Zm0 d y h) Q E):ZfX X.K x [v] H Q:=by
 unfold Zm0 at f;split at f
 . rename_i xs z e;obtain ⟨a,vs,rfl,hl,rv⟩:=rd.lstOf rh e;cases ry;split at f
   . rename_i ss e3;obtain ⟨d,e1,f⟩:=f.ofO;obtain ⟨j,e2,rfl⟩:=Oo.mp e1;have ev:=ZfQ rv e3;subst ev;exact ⟨a,ss,z,j,rfl,rfl,hY ▸ hl,e2,f.ok rh (.int _)⟩
   . exact f.elim
 . exact f.elim
end
end IV
end
section
namespace IV
open PySem PySem.Spec PyProof.Rows L2
theorem Zjq{q:Prop}(X:Cx)(hx:ZsY scope x=true):Loc (relabel scope X.env) x/\(q\/(relabel scope X.env).names.lookup x=some .local):=by
 have:(relabel scope X.env).names.lookup x=some .local:=by rw [ZaP,of_decide_eq_true hx];rfl
 exact ⟨.inl this,.inr this⟩
theorem ZkX(e:Zfn (.ref i) h=some w):∃ xs,h[i]? = some (.lst xs)/\w=⟨[(i,xs)],xs⟩:=by
 unfold Zfn at e;simp only at e;split at e
 . cases e;exact ⟨_,by assumption,rfl⟩
 . cases e
theorem Zsh {X:Cx}{h1:Hd} (K:Y.K=X.K) (rh:RH Y H1 μ1 h1) (r:RD Y H1 μ1 d v) (il:ZcE d h1=true):tyV X.K "list" v H1:=by
 cases r with
 | ref q =>
   rename_i i a;have:∃ xs,h1[i]? = some (.lst xs):=by
     unfold ZcE at il;simp only at il;split at il
     . exact ⟨_,by assumption⟩
     . cases il
   obtain ⟨xs,hx⟩:=this;obtain ⟨vs,hl,_⟩:=rh.ob i _ a hx q;exact .inl ⟨rfl,vs,.of hl⟩
 | _=>cases il
theorem Zop(G:Gd T Γ X Y E k)(ho:PE X xo (Z3 T Y E o))(h3:Zav xo=true)(h4:chks Γ es ys=true)(h5:ys.length<29)(h6:(ap.endLine==cp.line)=true)(ha:PA X ys (Zlj T Y E es)) :
   PE X (.Call (.Attribute xo (Zl9 m) ap) ys [] cp) (Z3 T Y E (.meth m o es)):=by
 obtain ⟨sl,ty⟩:=Zte m;cases ys with
 | nil =>
   cases es with
   | nil=>exact (ZqD PySem.F.plainAttrs_list sl ty (Zjv (Y:=Y) (E:=E) G.gk.K m) ho (Zcu h3) h6).imp fun Z H Q s=>Sm.bind s fun S d h1 x H1 μ1 rh1 rs1 rd f1=>⟨Zsh G.gk.K rh1 rd f1.iff.1,d,[],h1,μ1,rh1,rd,.nil,f1.iff.2⟩
   | cons e r=>exact ff h4
 | cons y ys =>
   refine (ZsW PySem.F.plainAttrs_list sl ty (Zjv (Y:=Y) (E:=E) G.gk.K m) ho ha (Zcu h3) ?_ h6 (ZcK X.env h4).1 ((ZcK X.env h4).2 _)).imp fun Z H Q s=>Sm.bind s fun S d h1 x H1 μ1 rh1 rs1 rd f1=>⟨Zsh G.gk.K rh1 rd f1.iff.1,S,h1,μ1,rh1,rs1,f1.iff.2.bind fun ds h2 xs H2 μ2 _ g2 rh2 rds f2=>⟨d,ds,h2,μ2,rh2,rd.mono rh1 g2,rds,f2⟩⟩
   rw [(Zc2 Γ X.env es (y::ys) h4 _).2];have h30:decide ((y::ys).length+([]:List Keyword).length+(if ([]:List Keyword).isEmpty then 0 else 1)<30)=true:=by
     rw [decide_eq_true_eq];exact Nat.lt_succ_of_lt h5
   rw [h30];rfl
theorem Zu9(hb:∀ d h',e=.ok d h'->∃ c,d=.bl c)(f:Fin Y eqR H B (e.bind fun x h1=>R.ofO (Zdr GD x h1) h1) Q E):Fin Y (RD Y) H B e (fun v H'=>∃ c,v=.bl c/\Q c H') E :=
 f.bind fun d h1 x H1 μ1 er g rh1 rd f1=>by
   obtain ⟨c,rfl⟩:=hb d h1 er;cases rd;exact ⟨c,rfl,Fin.ok (show Fin Y eqR H1 μ1 (.ok c h1) Q E from f1) rh1 rfl⟩
theorem ZtR{f:D->D->Hd->R D}(hf:∀ x y h d h',f x y h=.ok d h'->∃ c,d=.bl c)(s:Sm Y E eqR (fun S h=>((ev T a S h).bind fun x h1=>(ev T b S h1).bind fun y h2=>f x y h2).bind fun x h1=>R.ofO (Zdr T.GD x h1) h1) Z H Q) :
   Z3 T Y E a Z H fun x H1=>Z3 T Y E b Z H1 fun y H2=>rB Y E f x y H2 fun v H3=>∃ c,v=.bl c/\Q c H3:=by
 cases s with
 | mk S h B rh rs q =>
   refine Zlk ⟨S,h,B,rh,rs,Zu9 (fun d h' er=>?_) q⟩;obtain ⟨_,_,_,er⟩:=R.bind_eq er;obtain ⟨_,_,_,er⟩:=R.bind_eq er;exact hf _ _ _ _ _ er
theorem ZoW(G:Gd T Γ X Y E k)(ha:PE X l (Z3 T Y E a))(hb:PE X r (Z3 T Y E b))(hm:Zbr r=true):PT X (.Compare l [op] [r] pos) (Zid T Y E (.ex (.cmp op a b))) :=
 (Zjj (ZlX (E:=E) G.room G.h60 G.gk op) ha hb (Zeg hm)).imp fun _ _ _ s=>ZtR (f:=opC T.GD op) (fun _ _ _ _ _=>ZqN) s
theorem ZrH(e:ZgH GD x y h=.ok r h'):∃ b,r=.bl b:=by
 unfold ZgH at e;split at e
 . split at e
   . split at e
     . cases e;exact ⟨_,rfl⟩
     . cases e
   . cases e
 . cases e
theorem ZoT(G:Gd T Γ X Y E k)(ha:PE X l (Z3 T Y E a))(hb:PE X r (Z3 T Y E b))(hm:Zbr r=true):PT X (.Compare l [.NotEq] [r] pos) (Zid T Y E (.ex (.dne a b))) :=
 (Zjj (Zg6 (E:=E) G.room G.h60 G.gk) ha hb (Zeg hm)).imp fun _ _ _ s=>ZtR (f:=ZgH T.GD) (fun _ _ _ _ _=>ZrH) s
theorem Zkp(G:Gd T Γ X Y E k)(he:PE X x (Z3 T Y E e))(h1:Zii x=true):PT X x (Zid T Y E (.ex e)) :=
 (ZlA he ((kdE x).tr h1 _)).imp fun Z H Q s=>Sm.bind s fun S d h1 x H1 μ1 rh1 rs1 rd f1=>by
   obtain ⟨b,eb,f1⟩:=f1.ofO;exact ⟨b,Znm G.gk.K rh1 rd eb,f1.ok rh1 rfl⟩
noncomputable def Zi8(T:Tb)(Y:Yx)(E:XK):Exs->List (TE×TE)
 | .nil=>[]
 | .cons k r=>match r with
   | .nil=>[]
   | .cons v r'=>(Z3 T Y E k,Z3 T Y E v)::Zi8 T Y E r'
section
variable {Y:Yx}{H:Hp}{B:List Addr}{h:Hd}{Dd:Addr}{ys zs:List (Key×V)}
theorem Zki{K:PySem.W.Frag}(hD:H Dd=some (.dK ys))(t:SqT K H a vs):SqT K (upd H Dd (.dK zs)) a vs:=by
 rcases t with t|t
 . rcases t with t|⟨o,t⟩
   . exact .inl (.inl (by rw [Ze (fun z=>by rw [z,hD] at t;cases t)];exact t))
   . exact .inl (.inr ⟨o,by rw [Ze (fun z=>by rw [z,hD] at t;cases t)];exact t⟩)
 . exact .inr t
theorem ZkL{K:PySem.W.Frag}(hD:H Dd=some (.dK ys))(t:FzL K H a vs):FzL K (upd H Dd (.dK zs)) a vs:=by
 rcases t with ⟨o,t⟩|t
 . exact .inl ⟨o,by rw [Ze (fun z=>by rw [z,hD] at t;cases t)];exact t⟩
 . exact .inr t
theorem Tr.swapD(hD:H Dd=some (.dK ys)):Tr Y H B (upd H Dd (.dK zs)) B:=⟨Zki hD,ZkL hD,id⟩
end
inductive RPs(Y:Yx)(H:Hp)(B:List Addr):List D->List (V×V)->Prop
 | nil:RPs Y H B [] []
 | cons {k v:D}{r:List D}{x y:V}{ps:List (V×V)}:RD Y H B k x->RD Y H B v y->RPs Y H B r ps->RPs Y H B (k::v::r) ((x,y)::ps)
theorem RPs.pairs:∀ {ds:List D}{ps:List (V×V)}{kvs:List (Key×D)},RPs Y H B ds ps->ZbT ds=some kvs->∃ kvs':List (Key×V),ps=kvs'.map (fun kv=>(kV kv.1,kv.2))/\RKs Y H B kvs kvs'
 | _,_,_,.nil,e=>by cases e;exact ⟨[],rfl,.nil⟩
 | _,_,_,.cons a b s,e=>by
   rw [ZbT] at e;split at e
   . rename_i k r e1 e2;cases e;obtain ⟨kvs',rfl,rk⟩:=s.pairs e2;have:=Zcq a e1;subst this;exact ⟨(k,_)::kvs',rfl,.cons b rk⟩
   . cases e
theorem RPs.keysOk:∀ {ds:List D}{ps:List (V×V)}{kvs:List (Key×D)},RPs Y H B ds ps->ZbT ds=some kvs->ZaG kvs
 | _,_,_,.nil,e=>by cases e;intro p hp;cases hp
 | _,_,_,.cons a b s,e=>by
   rw [ZbT] at e;split at e
   . rename_i k r e1 e2;cases e;intro p hp x z;rcases O2.mp hp with rfl|hp
     . exact Zmk a e1 x z
     . exact s.keysOk e2 p hp x z
   . cases e
theorem Zc9:∀ {more kvs:List (Key×D)},ZaG more->ZaG kvs->ZaG (ZcS kvs more)
 | [],kvs,_,h=>h
 | (k,d)::r,kvs,hm,h=>Zc9 (more:=r) (kvs:=putD kvs k d) (fun p hp=>hm p (Oh _ hp)) (ZeD h (fun x e=>hm (k,d) Oi x e))
theorem RKs.merge:∀ {more:List (Key×D)}{more':List (Key×V)}{kvs:List (Key×D)}{kvs':List (Key×V)},RKs Y H B more more'->RKs Y H B kvs kvs'->RKs Y H B (ZcS kvs more) (Zdy kvs' more')
 | _,_,_,_,.nil,s=>s
 | _,_,_,_,.cons (k:=k) a r,s=>by
   have z:=RKs.merge r (s.put k a);exact z
theorem ZlR:∀ (n:Nat) (ps:Exs) {K:List D->Hd->R D}{H:Hp}{B:List Addr}{h:Hd}{Q1:List (V×V)->Hp->Prop}{Γ:Gm}{ks:List (Option Expr)}{vs:List Expr},ks.length<=n->chkp Γ ps ks vs=true ->
   Gr H0 μ0 H B->RH Y H B h->RS Y H B S Z->Fin Y (RD Y) H0 μ0 ((evs T ps S h).bind K) Q E ->
   (∀ ds h1 qs H1 μ1,Gr H B H1 μ1->RH Y H1 μ1 h1->RPs Y H1 μ1 ds qs->Fin Y (RD Y) H0 μ0 (K ds h1) Q E->Q1 qs H1)->ZfP (Zi8 T Y E ps) Z H Q1:=by
 intro n;induction n with
 | zero =>
   intro ps K H B h Q1 Γ ks vs hl hc g0 rh rs f hq;cases ps with
   | nil=>exact hq [] h [] H B Gr.refl rh .nil f
   | cons k r =>
     cases r with
     | nil=>unfold chkp at hc;cases hc
     | cons v r' =>
       unfold chkp at hc;simp only at hc;split at hc
       . simp at hl
       . cases hc
 | succ n ih =>
   intro ps K H B h Q1 Γ ks vs hl hc g0 rh rs f hq;cases ps with
   | nil=>exact hq [] h [] H B Gr.refl rh .nil f
   | cons k r =>
     cases r with
     | nil=>unfold chkp at hc;cases hc
     | cons v r' =>
       unfold chkp at hc;simp only at hc;split at hc
       . rw [Oa] at hc;have f1:Fin Y (RD Y) H0 μ0 ((ev T k S h).bind fun x h1=>(ev T v S h1).bind fun y h2=>(evs T r' S h2).bind fun xs h3=>K (x::y::xs) h3) Q E:=by
           have e:(evs T (.cons k (.cons v r')) S h).bind K=(ev T k S h).bind fun x h1=>(ev T v S h1).bind fun y h2=>(evs T r' S h2).bind fun xs h3=>K (x::y::xs) h3:=by
             show ((ev T k S h).bind fun x h1=>((ev T v S h1).bind fun y h2=>(evs T r' S h2).bind fun xs h3=>R.ok (y::xs) h3).bind fun xs h2=>R.ok (x::xs) h2).bind K=_;simp only [R.bind_assoc,R.bind_ok]
           rw [<- e];exact f
         refine ⟨S,h,B,rh,rs,Fin.bindB g0 f1 fun d h1 x H1 μ1 _ g1 rh1 rd f2=>?_⟩;refine ⟨S,h1,μ1,rh1,rs.mono rh g1,Fin.bindB (g0.trans g1) f2 fun e h2 y H2 μ2 _ g2 rh2 re f3=>?_⟩;refine ih r' (by simpa using hl) (bR hc.2) ((g0.trans g1).trans g2) rh2 ((rs.mono rh g1).mono rh1 g2) f3 fun ds h3 qs H3 μ3 g3 rh3 rp f4=>?_;exact hq (d::e::ds) h3 ((x,y)::qs) H3 μ3 ((g1.trans g2).trans g3) rh3 (.cons ((rd.mono rh1 g2).mono rh2 g3) (re.mono rh2 g3) rp) f4
       . cases hc
theorem ZoU(ps:Exs)(G:Gd T Γ X Y E k)(h15:ks.length<=15)(hc:chkp Γ ps ks vs=true)(hp:PPs X pos ks vs (Zi8 T Y E ps))(hall:ks.all (·.isSome)=true)(hl:ks.length=vs.length):PE X (.Dict ks vs pos) (Z3 T Y E (.dictl ps)):=by
 by_cases h0:ks=[]
 . subst h0;cases vs with
   | cons a b=>cases hl
   | nil =>
     cases ps with
     | cons k r =>
       cases r with
       | nil=>unfold chkp at hc;cases hc
       | cons v r'=>unfold chkp at hc;cases hc
     | nil =>
       refine ZlQ.imp fun Z H Q ⟨S,h,B,rh,rs,f⟩ p hp=>?_;have f:Fin Y (RD Y) H B (Zbs (.dic []) h) Q E:=f;exact f.new rh hp ⟨[],Zd,.nil⟩ (fun p hp=>by cases hp)
 . refine (Zn0 hp hall hl h0 h15).imp fun Z H Q ⟨S,h,B,rh,rs,f⟩ p hp=>?_;have np:=rh.fr hp;refine ZlR ks.length ps (Oq _) hc (Gr.lay0 hp) (rh.lay0 hp) (rs.mono rh (Gr.lay0 hp)) f fun ds h1 qs H1 μ1 g1 rh1 rp f1=>?_;obtain ⟨hl1,nD⟩:=g1.out (Zd (H:=H)) np;have g01:Gr H B H1 μ1:=(Gr.lay0 hp).trans g1;split at f1
   . rename_i kvs ek;obtain ⟨hz,f1⟩:=f1.iff;obtain ⟨kvs',rfl,rk⟩:=rp.pairs ek;refine ⟨hl1,kvs',rfl,by rw [<- rk.length];exact hz,?_⟩;have f2:Fin Y (RD Y) H B (.ok (.ref h1.length) (h1++[.dic (ZcS [] kvs)])) Q E:=f1;exact f2.at ((g01.put hp).add hp) ((rh1.tr (.swapD hl1) fun _ ha=>Ze fun z=>nD (z ▸ ha)).add nD ⟨_,Zd,((rk.merge .nil).tr (.swapD hl1)).tr .more⟩ (show ZaG (ZcS [] kvs) from Zc9 (rp.keysOk ek) (fun p hp=>by cases hp))) (.ref (by rw [rh1.len];simp))
   . exact f1.elim
mutual
theorem Zf(e:Ex){Γ:Gm}{X:Cx}{E:XK}{k:Nat}{x:Expr}(G:Gd T Γ X Y E k)(h:chk Γ e x=true):PE X x (Z3 T Y E e):=match e,h with
 | .var i,h=>Ztc h fun x q h=>(Zqs (by rw [G.N];exact of_decide_eq_true (bL h)) (G.vis _ (bL (bR h))) (by simpa using bL (bR (bR h))) (by simpa using bR (bR (bR h)))).imp fun Z H Q s=>by
   cases s with
   | mk S h B rh rs f =>
     obtain ⟨d,e,f⟩:=Fin.ofO (show Fin Y (RD Y) H B (R.ofO (S[i]?).join h) Q E from f);obtain ⟨v,e1,rd⟩:=rs.var e;exact ⟨v,e1,f.ok rh rd⟩
 | .cst d,h=>ZmL G h
 | .glo y,h=>ZpQ h fun q h pins s Z H Q I sm=>by
   cases sm with
   | mk S h' B rh rs f =>
     obtain ⟨d,e,f⟩:=Fin.ofO (show Fin Y (RD Y) H B (R.ofO (T.G y) h') Q E from f);obtain ⟨v,u,hm,rv,rd⟩:=G.gk.g y d e;exact ZnZ (G.gl h).1 hm rv (G.gl h).2 pins s Z H Q I (f.ok rh (rd H B))
 | .bin op a b,h=>ZtP h fun l r q h=>(ZsU (ZqO G.gk.K op) (Zf a G (bL h)) (Zf b G (bR h))).imp fun _ _ _ s=>Zlk s
 | .cmp op a b,h=>ZjX h fun l r q h=>(Zjn (ZlX G.room G.h60 G.gk op) (Zf a G (bL h)) (Zf b G (bL (bR h))) (Zeg (bR (bR h)))).imp fun _ _ _ s=>Zlk s
 | .cmp2 o1 o2 a b c,h=>ff h
 | .neg a,h=>ZpW h fun x q h=>(ZsS ZpV (Zf a G h)).imp fun Z H Q s=>Sm.bind s fun S d h1 x H1 μ1 rh1 rs1 rd f1=>by
   cases rd with
   | int i=>exact ⟨i,rfl,Fin.ok f1 rh1 (.int _)⟩
   | _=>exact f1.elim
 | .nt a,h=>ZpW h fun x q h=>(Zqw (Zf a G h)).imp fun Z H Q s=>Sm.bind s fun S d h1 x H1 μ1 rh1 rs1 rd f1=>by
   cases rd with
   | bl i=>exact ⟨i,rfl,Fin.ok f1 rh1 (.bl _)⟩
   | _=>exact f1.elim
 | .ands es,h=>Zon h fun xs q h=>and_ok es G h
 | .ors es,h=>Zon h fun xs q h=>or_ok es G h
 | .ite c a b,h=>ZuQ h fun t x y q h=>(ZlP (tst_ok c G (bL h)) (Zf a G (bL (bR h))) (Zf b G (bR (bR h)))).imp fun Z H Q s=>Sm.bind s fun S d h1 v H1 μ1 rh1 rs1 rd f1=>by
   cases rd;cases d with
   | true=>exact ZiB ⟨S,h1,μ1,rh1,rs1,f1⟩
   | false=>exact ZiC ⟨S,h1,μ1,rh1,rs1,f1⟩
 | .tupl es,h=>ZgQ h fun xs j q h=>(Zqt (evs_ok es G h)).imp fun Z H Q s=>Sm.bind s fun S d h1 x H1 μ1 rh1 rs1 rd f1=>⟨by rw [<- rd.length];exact f1.iff.1,fun p hp=>f1.iff.2.tup rh1 hp rd⟩
 | .lstl es,h=>Ztk h fun xs q h=>(Zqy (evs_ok es G h)).imp fun Z H Q s=>Sm.bind s fun S d h1 x H1 μ1 rh1 rs1 rd f1=>⟨by rw [<- rd.length];exact f1.iff.1,fun p hp=>f1.iff.2.new rh1 hp ⟨_,Zd,rd.mono rh1 (Gr.lay hp)⟩⟩
 | .ix a i,h=>Zqa h fun x y q h=>(ZsV (Zoe G.gk) (Zf a G (bL h)) (Zf i G (bL (bR h))) (Zle (bR (bR h)))).imp fun _ _ _ s=>Zlk s
 | .sl a lo hi,h=>ZsB h fun x l u q r h=>(ZlL (Zob (E:=E) G.gk.K) (Zf a G (bL h)) (evo_ok lo G (bL (bR h))) (evo_ok hi G (bR (bR h)))).imp fun Z H Q s=>Sm.bind s fun S d h1 x H1 μ1 rh1 rs1 rd f1 =>
   ⟨S,h1,μ1,rh1,rs1,Fin.bind f1 fun l h2 l' H2 μ2 _ g2 rh2 rl f2=>⟨S,h2,μ2,rh2,rs1.mono rh1 g2,Fin.bind f2 fun u h3 u' H3 μ3 _ g3 rh3 ru f3=>by
     cases rl;cases ru;exact ⟨d,h3,μ3,rh3,(rd.mono rh1 g2).mono rh2 g3,f3⟩⟩⟩
 | .blt f es,h=>ZcL h fun p ys q h=>ZpH (bL (bR h)) (bR (bR h)) fun y r hs=>(ZrM G f (bL (bL h)) (G.gl (bR (bL h))).1 (evs_ok es G hs) (ZcK X.env hs).1 ((ZcK X.env hs).2 _)).imp fun Z H Q s=>Sm.bind s fun S d h1 x H1 μ1 rh1 rs1 rd f1=>⟨d,h1,μ1,rh1,rd,f1⟩
 | .call f es,h=>ZcL h fun p ys q h=>ZpH (bL (bR (bR h))) (bR (bR (bR h))) fun y r hs=>by
   obtain ⟨ps,hd⟩:=G.defs _ (of_decide_eq_true (bL h));exact (ZqC hd G.room (G.gl (bL (bR h))).1 G.pass (evs_ok es G hs) (G.gl (bL (bR h))).2 (ZcK X.env hs).1 ((ZcK X.env hs).2 _)).imp fun Z H Q s=>Sm.bind s fun S d h1 x H1 μ1 rh1 rs1 rd f1=>⟨d,h1,μ1,rh1,rd,f1⟩
 | .meth m o es,h=>ZjV h fun xo ap ys cp h=>Zop G (Zf o G (bL h)) (bL (bR h)) (bL (bR (bR h))) (of_decide_eq_true (bL (bR (bR (bR h))))) (bR (bR (bR (bR h)))) (evs_ok es G (bL (bR (bR h))))
 | .comp NC js it g c e,h=>Zpv h fun elt tg iter ifs scope q h=>by
   have S_:=ZhA (bL (bR h));rw [<- G.N,<- G.sc (bL h)] at S_;have h:=bR (bR h);have Gc:=fun C s3 H3 fp=>G.comp NC scope C s3 H3 fp S_.nd;refine (Zn1 (g:=tgR X.K g) (tc:=Sm Y E0 eqR (tsto T c)) (te:=Z3 T Y E0 e) S_ rfl G.calm (evi_ok it G (bL h)) (fun C s3 H3 fp=>⟨Zjl rfl S_.nd rfl (fun x hx=>Zjq (scope:=scope) X hx) (bL (bR (bR h))),ifs_ok c (Gc C s3 H3 fp) (bL (bR (bR (bR (bR h))))),Zf e (Gc C s3 H3 fp) (bR (bR (bR (bR (bR h)))))⟩) (Zso X.K g) (fun j hj=>of_decide_eq_true (OC.mp (bL (bR (bR (bR h)))) j (List.mem_range.mpr hj))) (Zib X.env (bL (bR h)))).imp
     fun Z H Q s=>Sm.bind s fun S w h1 J H1 μ1 rh1 rs1 wj f1 D hD=>ZjQ G.gk.K (fun _ _ _ z=>z) rh1 rs1 wj f1 hD
 | .sorts e,h=>ZcL h fun p ys q h=>ZaU h fun z h=>ZcL h fun p' ys q' h=>ZaU h fun y h =>
   (ZlK G.room.hd (G.gl (bL h)).1 (G.blt _ (by decide)) (G.gl (bL (bR h))).1 (G.blt _ (by decide)) (Zf e G (bL (bR (bR h)))) (Zn X.env (bR (bR (bR h))))).imp fun Z H Q s=>Sm.bind s fun S d h1 x H1 μ1 rh1 rs1 rd f1=>by
     split at f1
     . rename_i ss e2;obtain ⟨⟨z1,z2,z3⟩,f1⟩:=Fin.iff f1;obtain ⟨xs,e3,e4⟩:=Option.bind_eq_some_iff.mp e2;obtain ⟨a,vs,rfl,hq,rv⟩:=rd.lstOf rh1 e3;have ev:=ZgR rv e4;subst ev;rw [OC] at z3;refine ⟨a,ss,rfl,G.gk.K ▸ hq,by show ss.length+1<4096;lia,fun ks nd mm=>by rw [(Zej nd mm).length_eq];exact z2,fun p ss' hp nd mm srt=>?_⟩;rw [Zfs (Zej nd mm) srt];exact f1.new rh1 hp ⟨_,Zd,Zeb _ fun y hy=>z3 y ((Zb5 y ss).mp ((Z6 _).mem_iff.mp hy))⟩
     . exact f1.elim
 | .trev e,h=>ZcL h fun p ys q h=>ZaU h fun z h=>ZcL h fun p' ys q' h=>ZaU h fun y h =>
   (Zks G.calm (G.gl (bL h)).1 (G.blt _ (by decide)) (G.gl (bL (bR h))).1 (G.blt _ (by decide)) (ZbG (Zf e G (bL (bR (bR h)))) ZcR (Zn X.env (bR (bR (bR h))))) (Zn X.env (bR (bR (bR h))))).imp fun Z H Q s=>Sm.bind s fun S d h1 x H1 μ1 rh1 rs1 rd f1=>by
     cases d with
     | tup xs =>
       cases xs with
       | nil=>exact f1.elim
       | cons y ys =>
         obtain ⟨a,vs,rfl,t,s⟩:=rd.tup_inv;exact ⟨a,vs,rfl,G.gk.K ▸ t,(fun z=>by have:=s.length;rw [z] at this;cases this),fun p hp=>f1.tup rh1 hp s.reverse⟩
     | _=>exact f1.elim
 | .lrv e,h=>ff h
 | .tix o e,h=>ZjV h fun xo ap ys cp h=>ZaU h fun y h=>by
   have st:=bL (bR (bR (bR h)));refine (Zqu G.gk.bare (Zf o G (bL h)) (ZbG (Zf e G (bL (bR (bR h)))) ZcR (Zn X.env st)) (Zcu (bL (bR h))) ?_ (bR (bR (bR (bR h)))) (Zn X.env st)).imp fun Z H Q s=>Sm.bind s fun S d h1 x H1 μ1 rh1 rs1 rd f1=>?_
   . rw [Zn X.env st];rfl
   . obtain ⟨il,f1⟩:=f1.iff;cases d with
     | tup xs =>
       obtain ⟨a,vs,rfl,t,s⟩:=rd.tup_inv;refine ⟨⟨a,vs,rfl,G.gk.K ▸ t⟩,S,h1,μ1,rh1,rs1,f1.bind fun y h2 v H2 μ2 _ g2 rh2 ry f2=>?_⟩;obtain ⟨a2,vs2,ea,t2,s2⟩:=(rd.mono rh1 g2).tup_inv;exact Zp0 G.gk.K ea t2 s2 rh2 ry f2
     | _=>cases il
 | .lix o e,h=>ZjV h fun xo ap ys cp h=>ZaU h fun y h=>by
   have st:=bL (bR (bR (bR h)));refine (Zqz (Zf o G (bL h)) (ZbG (Zf e G (bL (bR (bR h)))) ZcR (Zn X.env st)) (Zcu (bL (bR h))) ?_ (bR (bR (bR (bR h)))) (Zn X.env st)).imp fun Z H Q s=>Sm.bind s fun S d h1 x H1 μ1 rh1 rs1 rd f1=>?_
   . rw [Zn X.env st];rfl
   . obtain ⟨il,f1⟩:=f1.iff;obtain ⟨a,vs,rfl,hq⟩:=Zov G.gk.K rh1 rd il;exact ⟨⟨a,vs,rfl,hq⟩,S,h1,μ1,rh1,rs1,f1.bind fun y h2 v H2 μ2 _ g2 rh2 ry f2=>Zq4 G.gk.K rh2 (rd.mono rh1 g2) ry f2⟩
 | .dne a b,h=>ZjX h fun l r q h=>(Zjn (Zg6 G.room G.h60 G.gk) (Zf a G (bL h)) (Zf b G (bL (bR h))) (Zeg (bR (bR h)))).imp fun _ _ _ s=>Zlk s
 | .lin a b,h=>ff h
 | .rpn a b,h=>ff h
 | .any,h=>fun pins s Z H Q I sm=>by
   cases sm with
   | mk S h B rh rs f=>exact f.elim
 | .att Cs o f,h=>Zpf h fun x q h=>(ZqB (Zf o G (bL h)) (Zcu (bL (bR h)))).imp fun Z H Q s=>Sm.bind s fun S d h1 x H1 μ1 rh1 rs1 rd f1=>ZrT G (bL (bR (bR h))) (of_decide_eq_true (bR (bR (bR h)))) rh1 rd f1
 | .mk C es,h=>ZcL h fun p ys q h=>Ztf G (of_decide_eq_true (bL h)) (bL (bR h)) (bR (bR h)) (evs_ok es G (bR (bR h)))
 | .mcl C m o es,h=>ZjV h fun xo ap ys cp h=>ZqU G (of_decide_eq_true (bL (bR (bR (bR h))))) (bL (bR h)) (bL (bR (bR h))) (of_decide_eq_true (bL (bR (bR (bR (bR h)))))) (bR (bR (bR (bR (bR h))))) (Zf o G (bL h)) (evs_ok es G (bL (bR (bR h))))
 | .maxd a d,h=>ff h
 | .dictl ps,h=>Zu0 h fun ks vs q h=>ZoU ps G (of_decide_eq_true (bL h)) (bR h) (pairs_ok ps G (bR h)).1 (pairs_ok (pos:=q) ps G (bR h)).2.1 (pairs_ok (pos:=q) ps G (bR h)).2.2
theorem evs_ok(e:Exs){Γ:Gm}{X:Cx}{E:XK}{k:Nat}{x:List Expr}(G:Gd T Γ X Y E k)(h:chks Γ e x=true):PA X x (Zlj T Y E e):=match e,x,h with
 | .nil,[],h=>ZcR.imp fun Z H Q s=>by
   cases s with
   | mk S h B rh rs f=>exact Fin.ok (show Fin Y (RDs Y) H B (.ok [] h) Q E from f) rh .nil
 | .nil,_::_,h=>ff h
 | .cons e r,[],h=>ff h
 | .cons e r,y::ys,h=>(ZbG (Zf e G (bL h)) (evs_ok r G (bR (bR h))) (Zn X.env (bL (bR h)))).imp fun Z H Q s=>Sm.bind s fun S d h1 x H1 μ1 rh1 rs1 rd f1 =>
   ⟨S,h1,μ1,rh1,rs1,f1.bind fun ds h2 xs H2 μ2 _ g2 rh2 rds f2=>f2.ok rh2 (.cons (rd.mono rh1 g2) rds)⟩
theorem and_ok(e:Exs){Γ:Gm}{X:Cx}{E:XK}{k:Nat}{x:List Expr}{pos:Pos}(G:Gd T Γ X Y E k)(h:chks Γ e x=true):PE X (.BoolOp .And x pos) (Z3 T Y E (.ands e)):=match e,x,h with
 | .nil,x,h=>fun pins s Z H Q I sm=>by
   cases sm with
   | mk S h B rh rs f=>exact f.elim
 | .cons e r,[],h=>ff h
 | .cons e .nil,[y],h=>(ZlM (Zf e G (bL h))).imp fun Z H Q q=>q
 | .cons e .nil,y::z::zs,h=>ff (bR (bR h))
 | .cons e (.cons e' r'),[y],h=>ff (bR (bR h))
 | .cons e (.cons e' r'),y::z::zs,h=>(ZqE (Zf e G (bL h)) (and_ok (.cons e' r') G (bR (bR h)))).imp fun Z H Q s=>Sm.bind s fun S d h1 x H1 μ1 rh1 rs1 rd f1=>by
   cases rd with
   | bl c =>
     refine ⟨c,rfl,?_⟩;cases c with
     | true=>exact ZiB ⟨S,h1,μ1,rh1,rs1,f1⟩
     | false=>exact ZiC (Fin.ok f1 rh1 (.bl _))
   | _=>exact f1.elim
theorem or_ok(e:Exs){Γ:Gm}{X:Cx}{E:XK}{k:Nat}{x:List Expr}{pos:Pos}(G:Gd T Γ X Y E k)(h:chks Γ e x=true):PE X (.BoolOp .Or x pos) (Z3 T Y E (.ors e)):=match e,x,h with
 | .nil,x,h=>fun pins s Z H Q I sm=>by
   cases sm with
   | mk S h B rh rs f=>exact f.elim
 | .cons e r,[],h=>ff h
 | .cons e .nil,[y],h=>(ZlM (Zf e G (bL h))).imp fun Z H Q q=>q
 | .cons e .nil,y::z::zs,h=>ff (bR (bR h))
 | .cons e (.cons e' r'),[y],h=>ff (bR (bR h))
 | .cons e (.cons e' r'),y::z::zs,h=>(ZsT (Zf e G (bL h)) (or_ok (.cons e' r') G (bR (bR h)))).imp fun Z H Q s=>Sm.bind s fun S d h1 x H1 μ1 rh1 rs1 rd f1=>by
   cases rd with
   | bl c =>
     refine ⟨c,rfl,?_⟩;cases c with
     | true=>exact ZiB (Fin.ok f1 rh1 (.bl _))
     | false=>exact ZiC ⟨S,h1,μ1,rh1,rs1,f1⟩
   | _=>exact f1.elim
theorem evo_ok(e:Option Ex){Γ:Gm}{X:Cx}{E:XK}{k:Nat}{x:Option Expr}(G:Gd T Γ X Y E k)(h:chko Γ e x=true):PO X x (Zus T Y E e):=match e,x,h with
 | none,none,h=>ZnQ.imp fun Z H Q s=>by
   cases s with
   | mk S h B rh rs f=>exact Fin.ok (show Fin Y _ H B (.ok none h) Q E from f) rh rfl
 | none,some _,h=>ff h
 | some e,none,h=>ff h
 | some e,some a,h=>(ZnP (Zf e G h)).imp fun Z H Q s=>Sm.bind s fun S d h1 x H1 μ1 rh1 rs1 rd f1=>by
   cases rd with
   | int i=>exact ⟨i,rfl,Fin.ok f1 rh1 rfl⟩
   | _=>exact f1.elim
theorem tst_ok(e:Tx){Γ:Gm}{X:Cx}{E:XK}{k:Nat}{x:Expr}(G:Gd T Γ X Y E k)(h:chkt Γ e x=true):PT X x (Zid T Y E e):=match e,h with
 | .ex e,h=>bO h (fun h=>Zkp G (Zf e G (bR h)) (bL h)) fun h=>by
   cases e with
   | cmp op a b=>exact ZjX h fun l r q h=>ZoW G (Zf a G (bL h)) (Zf b G (bL (bR h))) (bR (bR h))
   | dne a b=>exact ZjX h fun l r q h=>ZoT G (Zf a G (bL h)) (Zf b G (bL (bR h))) (bR (bR h))
   | _=>exact ff h
 | .ands ts,h=>Zon h fun xs q h=>(tand_ok ts G h).pt
 | .ors ts,h=>Zon h fun xs q h=>(tor_ok ts G h).pt
 | .nt t,h=>ZpW h fun y q h=>(Zqk (tst_ok t G h)).imp fun Z H Q s=>Sm.bind s fun S d h1 x H1 μ1 rh1 rs1 rd f1=>by
   cases rd;exact Fin.ok f1 rh1 rfl
theorem tand_ok(e:Txs){Γ:Gm}{X:Cx}{E:XK}{k:Nat}{x:List Expr}{pos:Pos}(G:Gd T Γ X Y E k)(h:chkts Γ e x=true):PW X (.BoolOp .And x pos) (Zid T Y E (.ands e)):=match e,x,h with
 | .one t,x,h=>ZaU h fun y h=>(ZnJ (tst_ok t G h)).imp fun Z H Q q=>q
 | .cons t ts,[],h=>ff h
 | .cons t ts,[_],h=>ff (bL (bR h))
 | .cons t ts,x::y::r,h=>(Zqi (tst_ok t G (bL h)) (tand_ok ts G (bR (bR h)))).imp fun Z H Q s=>Sm.bind s fun S d h1 x H1 μ1 rh1 rs1 rd f1=>by
   cases rd;cases d with
   | true=>exact ZiB ⟨S,h1,μ1,rh1,rs1,f1⟩
   | false=>exact ZiC (Fin.ok f1 rh1 rfl)
theorem tor_ok(e:Txs){Γ:Gm}{X:Cx}{E:XK}{k:Nat}{x:List Expr}{pos:Pos}(G:Gd T Γ X Y E k)(h:chkts Γ e x=true):PW X (.BoolOp .Or x pos) (Zid T Y E (.ors e)):=match e,x,h with
 | .one t,x,h=>ZaU h fun y h=>(Zqh (tst_ok t G h)).imp fun Z H Q q=>q
 | .cons t ts,[],h=>ff h
 | .cons t ts,[_],h=>ff (bL (bR h))
 | .cons t ts,x::y::r,h=>(ZsN (tst_ok t G (bL h)) (tor_ok ts G (bR (bR h)))).imp fun Z H Q s=>Sm.bind s fun S d h1 x H1 μ1 rh1 rs1 rd f1=>by
   cases rd;cases d with
   | true=>exact ZiB (Fin.ok f1 rh1 rfl)
   | false=>exact ZiC ⟨S,h1,μ1,rh1,rs1,f1⟩
theorem ifs_ok(c:Option Tx){Γ:Gm}{X:Cx}{E:XK}{k:Nat}{x:List Expr}(G:Gd T Γ X Y E k)(h:chkf Γ c x=true):PIf X x (Sm Y E eqR (tsto T c)):=match c,x,h with
 | none,[],h=>fun pins s Z H Q I sm=>by
   cases sm with
   | mk S h B rh rs f=>exact ZnU pins s Z H Q I (Fin.ok (show Fin Y eqR H B (.ok true h) Q E from f) rh rfl)
 | none,_::_,h=>ff h
 | some t,x,h=>ZaU h fun y h=>ZnT (tst_ok t G h)
theorem evi_ok(e:Ix){Γ:Gm}{X:Cx}{E:XK}{k:Nat}{x tg:Expr}(G:Gd T Γ X Y E k)(h:chki Γ e tg x=true):PI X tg x (Zut T Y E e):=match e,h with
 | .pl e,h=>(Zqq (Zf e G h)).imp fun Z H Q s=>Sm.bind s fun S d h1 x H1 μ1 rh1 rs1 rd f1=>by
   obtain ⟨w,ew,f1⟩:=f1.ofO;exact Znf G.gk.K rh1 rd ew fun J wj=>f1.ok rh1 wj
 | .rng e,h=>ZcL h fun p ys q h=>ZaU h fun y h=>(Zkr (G.gl (bL h)).1 (G.blt _ (by decide)) (ZbG (Zf e G (bL (bR h))) ZcR (Zn X.env (bR (bR h)))) (Zn X.env (bR (bR h)))).imp fun Z H Q s=>Sm.bind s fun S d h1 x H1 μ1 rh1 rs1 rd f1=>by
   cases rd with
   | int j =>
     obtain ⟨hz,f1⟩:=Fin.iff (show Fin Y (WJ Y) H1 μ1 (if ZaJ j=true then .ok ⟨[],Zab 0 j.toNat⟩ h1 else .bad) Q E from f1);exact ⟨j,rfl,of_decide_eq_true (bL hz),of_decide_eq_true (bR hz),f1.ok rh1 ZpS⟩
   | _=>exact f1.elim
 | .rng2 a b,h=>ff h
 | .enu e,h=>ZcL h fun p ys q h=>ZaU h fun y h=>Zpx (bR (bR (bR h))) fun ts j r=>(ZnW (G.gl (bL h)).1 (G.blt _ (by decide)) (ZbG (Zf e G (bL (bR h))) ZcR (Zn X.env (bL (bR (bR h))))) (Zn X.env (bL (bR (bR h))))).imp fun Z H Q s=>Sm.bind s fun S d h1 x H1 μ1 rh1 rs1 rd f1=>by
   obtain ⟨w,ew,f1⟩:=f1.ofO;obtain ⟨w0,ew0,rfl⟩:=Oo.mp ew;cases d with
   | ro xs =>
     cases ew0;cases rd with
     | ro t s=>exact ⟨_,rfl,⟨_,G.gk.K ▸ t.sq⟩,f1.ok rh1 (Zi2 (Zpk G.gk.K rh1 t s) fun H2 μ2 h2 g2 rh2 st=>⟨_,G.gk.K ▸ (g2.rdF rh1 t).sq,s.mono rh1 g2⟩)⟩
   | ref i =>
     obtain ⟨xs,hi,rfl⟩:=ZkX ew0;obtain ⟨a,vs,rfl,hm,hl,s⟩:=rd.lst rh1 hi;refine ⟨a,rfl,⟨vs,.of hl⟩,f1.ok rh1 (Zi2 (ZkY hm) fun H2 μ2 h2 g2 rh2 st=>?_)⟩;obtain ⟨vs2,hl2,s2⟩:=rh2.ob i _ a (Zep st) (g2.pre i a hm);exact ⟨vs2,.of hl2,s2⟩
   | _=>cases ew0
 | .rev e,h=>ZcL h fun p ys q h=>ZaU h fun y h=>(ZnV (G.gl (bL h)).1 (G.blt _ (by decide)) (ZbG (Zf e G (bL (bR h))) ZcR (Zn X.env (bR (bR h)))) (Zn X.env (bR (bR h)))).imp fun Z H Q s=>Sm.bind s fun S d h1 x H1 μ1 rh1 rs1 rd f1=>by
   obtain ⟨w,ew,f1⟩:=f1.ofO;obtain ⟨w0,ew0,rfl⟩:=Oo.mp ew;cases d with
   | tup xs =>
     cases ew0;obtain ⟨a,vs,rfl,t,s⟩:=rd.tup_inv;exact ⟨a,vs,rfl,.inl ⟨G.gk.K ▸ t,f1.ok rh1 (ZpT G.gk.K rh1 t s)⟩⟩
   | ref i =>
     obtain ⟨xs,hi,rfl⟩:=ZkX (show Zfn (.ref i) h1=some w0 from ew0);obtain ⟨a,vs,rfl,hm,hl,s⟩:=rd.lst rh1 hi;exact ⟨a,vs,rfl,.inr ⟨.of hl,by rw [<- s.length];exact f1.ok rh1 (Znc hm)⟩⟩
   | _=>cases ew0
 | .en1 e,h=>ff h
 | .zl a b,h=>ff h
 | .zp a b,h=>ff h
 | .en0 e,h=>ff h
 | .dk e,h=>(ZsR (Zf e G h)).imp fun Z H Q s=>Sm.bind s fun S d h1 x H1 μ1 rh1 rs1 rd f1=>Zrp rh1 rd f1
theorem pairs_ok(ps:Exs){Γ:Gm}{X:Cx}{E:XK}{k:Nat}{ks:List (Option Expr)}{vs:List Expr}{pos:Pos}(G:Gd T Γ X Y E k)(h:chkp Γ ps ks vs=true):PPs X pos ks vs (Zi8 T Y E ps)/\ks.all (·.isSome)=true/\ks.length=vs.length:=match ps,ks,vs,h with
 | .nil,[],[],h=>⟨ZnO,rfl,rfl⟩
 | .nil,[],_::_,h=>ff h
 | .nil,_::_,_,h=>ff h
 | .cons e .nil,ks,vs,h=>ff h
 | .cons e (.cons v r'),[],vs,h=>ff h
 | .cons e (.cons v r'),none::_,vs,h=>ff h
 | .cons e (.cons v r'),some _::_,[],h=>ff h
 | .cons e (.cons v r'),some kx::ks,vx::vs,h =>
   let z:=pairs_ok r' (pos:=pos) G (bR (bR h))
   ⟨ZlG (Zf e G (bL h)) (Zf v G (bL (bR h))) z.1,z.2.1,congrArg (·+1) z.2.2⟩
end
end IV
end
section
namespace IV
open PySem PySem.Spec PyProof.Rows L2
noncomputable def Zco(e:Expr):Bool:=decide (tgE e≠13)&&decide (tgE e≠19)
noncomputable def Zip(e:Expr):Bool:=decide (tgE e≠8)
structure PsS where
 a:Expr:=default
 b:Expr:=default
 o:Option Expr:=none
 c:Option Expr:=none
 ts:List Expr:=[]
 xs:List Stmt:=[]
 ys:List Stmt:=[]
 zs:List Stmt:=[]
 hs:List ExceptHandler:=[]
 op:Operator:=.Add
 p:Pos:=default
 s:Stmt:=default
noncomputable def tgS:Stmt->Nat
 | .Return _ _=>1|.Assign _ _ _=>2|.AugAssign _ _ _ _=>3|.Expr _ _=>4|.If _ _ _ _=>5|.While _ _ _ _=>6|.For _ _ _ _ _=>7|.Pass _=>8|.Break _=>9|.Continue _=>10|.Raise _ _ _=>11|.Try _ _ _ _ _=>12|_=>0
noncomputable def prS(s:Stmt):PsS:=match s with
 | .Return o p=>{o:=o,p:=p}
 | .Assign ts a p=>{ts:=ts,a:=a,p:=p}
 | .AugAssign a op b p=>{a:=a,op:=op,b:=b,p:=p}
 | .Expr a p=>{a:=a,p:=p}
 | .If a xs ys p=>{a:=a,xs:=xs,ys:=ys,p:=p}
 | .While a xs ys p=>{a:=a,xs:=xs,ys:=ys,p:=p}
 | .For a b xs ys p=>{a:=a,b:=b,xs:=xs,ys:=ys,p:=p}
 | .Pass p=>{p:=p}
 | .Break p=>{p:=p}
 | .Continue p=>{p:=p}
 | .Raise o c p=>{o:=o,c:=c,p:=p}
 | .Try xs hs ys zs p=>{xs:=xs,hs:=hs,ys:=ys,zs:=zs,p:=p}
 | _=>{s:=s}
noncomputable def mkS(n:Nat)(p:PsS):Stmt:=match n with
 | 1=>.Return p.o p.p|2=>.Assign p.ts p.a p.p|3=>.AugAssign p.a p.op p.b p.p|4=>.Expr p.a p.p|5=>.If p.a p.xs p.ys p.p|6=>.While p.a p.xs p.ys p.p|7=>.For p.a p.b p.xs p.ys p.p
 | 8=>.Pass p.p|9=>.Break p.p|10=>.Continue p.p|11=>.Raise p.o p.c p.p|12=>.Try p.xs p.hs p.ys p.zs p.p|_=>p.s
theorem rbS(s:Stmt):mkS (tgS s) (prS s)=s:=by cases s<;>rfl
@[irreducible] noncomputable def anS(n:Nat)(s:Stmt)(f:PsS->Bool):Bool:=decide (tgS s=n)&&f (prS s)
section
variable {P:Stmt->Prop}{s:Stmt}
theorem Za4(h:anS n s f=true)(k:∀ p,f p=true->P (mkS n p)):P s:=by
 unfold anS at h;exact rbS s ▸ dS (P:=fun m=>P (mkS m (prS s))) (bL h) (k _ (bR h))
noncomputable def oSm{α:Type}(o:Option α)(f:α->Bool):Bool:=match o with
 | some x=>f x
 | none=>false
theorem ZqP{α:Type}{P:Option α->Prop}{o:Option α}{f:α->Bool}(h:oSm o f=true)(k:∀ x,f x=true->P (some x)):P o:=by
 cases o with
 | none=>exact ff h
 | some x=>exact k x h
@[irreducible] noncomputable def aAs(s:Stmt)(f:Expr->Expr->Bool):Bool:=anS 2 s fun p=>l1 p.ts fun g=>f g p.a
theorem Zm5(h:aAs s f=true)(k:∀ g x q,f g x=true->P (.Assign [g] x q)):P s:=by
 unfold aAs at h;exact Za4 h fun p h=>ZaU (P:=fun ts=>P (.Assign ts p.a p.p)) h fun _ h=>k _ _ _ h
end
noncomputable def Ztu:Ex->Bool
 | .comp _ _ _ _ _ _|.any=>true
 | _=>false
mutual
noncomputable def ZtN(Γ:Gm):Sx->Stmt->Bool
 | .ret e,s=>anS 1 s fun p=>oSm p.o fun x=>chk Γ e x
 | .set g e,s=>aAs s fun tg x=>ZoX Γ.N (ownD Γ.sc) g tg&&(chk Γ e x&&((Zco x&&(!isTup tg || Zip x)) || (decide (tgE tg=6)&&Ztu e)))
 | .put o i e,s=>aAs s fun tg x=>aS tg fun xo xi=>chk Γ o xo&&(chk Γ i xi&&(chk Γ e x&&(ZeA xi&&Zco x)))
 | .aug i op e,s=>anS 3 s fun p=>ZkA Γ.N (ownD Γ.sc) i p.a&&(decide (p.op=.Add)&&(decide (op=.Add)&&chk Γ e p.b))
 | .drp e,s=>anS 4 s fun p=>chk Γ e p.a&&Zco p.a
 | .iff c a b,s=>anS 5 s fun p=>chkt Γ c p.a&&(chkSs Γ a p.xs&&chkSs Γ b p.ys)
 | .whl c b,s=>anS 6 s fun p=>l0 p.ys (chkt Γ c p.a&&chkSs Γ b p.xs)
 | .forr g it b,s=>anS 7 s fun p=>l0 p.ys (chki Γ it p.a p.b&&(Zbr p.b&&(ZoX Γ.N (ownD Γ.sc) g p.a&&chkSs Γ b p.xs)))
 | .pas,s=>anS 8 s fun _=>true
 | .brk,s=>anS 9 s fun _=>true
 | .cnt,s=>anS 10 s fun _=>true
 | .seta Cs o f e,s=>aAs s fun tg x=>aA f tg fun xo _=>chk Γ o xo&&(chk Γ e x&&(Zco x&&((Cs.all fun C=>decide (C∈Γ.kl.cs))&&decide (f∈Γ.kl.ats))))
 | .auga Cs o f e,s=>anS 3 s fun p=>decide (p.op=.Add)&&aA f p.a fun xo _=>chk Γ o xo&&(chk Γ e p.b&&((Cs.all fun C=>decide (C∈Γ.kl.cs))&&decide (f∈Γ.kl.ats)))
 | .any,_=>true
 | .rai _ _,_=>false
 | .trs _ _ _ _,_=>false
 | .trw _ _ _ _ _ _ _,_=>false
 | .unl _ _ _,_=>false
noncomputable def chkSs(Γ:Gm):Sxs->List Stmt->Bool
 | .nil,ss=>ss.isEmpty
 | .cons s r,ss=>match ss with
   | x::xs=>ZtN Γ s x&&chkSs Γ r xs
   | []=>false
end
noncomputable def ZK(Y:Yx)(H:Hp)(B:List Addr)(r:R (Fl×Ev))(D:Ends)(E:XK):Prop:=match r with
 | .bad=>False
 | .ok p h'=>∀ H' μ',Gr H B H' μ'->RH Y H' μ' h'->match p.1 with
   | .nx=>∀ σ',RS Y H' μ' p.2 σ'->D.nx σ' H'
   | .bk=>∀ σ',RS Y H' μ' p.2 σ'->D.bk σ' H'
   | .ct=>∀ σ',RS Y H' μ' p.2 σ'->D.ct σ' H'
   | .rt d=>∀ v,RD Y H' μ' d v->D.rt v H'
 | .exc c h'=>∀ H' μ' C,Gr H B H' μ'->RH Y H' μ' h'->Y.mg c=some (.ref C)->E (.ref C) none H'
section
variable {Y:Yx}{α β:Type}{rel:Hp->List Addr->α->β->Prop}{H H1:Hp}{B μ1:List Addr}{E:XK}{D:Ends}
theorem ZK.mono(g:Gr H B H1 μ1)(f:ZK Y H B r D E):ZK Y H1 μ1 r D E:=by
 cases r with
 | bad=>exact f
 | ok a h=>exact fun H' μ' g'=>f H' μ' (g.trans g')
 | exc c h=>exact fun H' μ' C g'=>f H' μ' C (g.trans g')
theorem ZK.bind(f:ZK Y H B (r.bind k) D E)
   (hk:∀ a h1 b H1 μ1,r=.ok a h1->Gr H B H1 μ1->RH Y H1 μ1 h1->rel H1 μ1 a b->ZK Y H1 μ1 (k a h1) D E->Q1 b H1):Fin Y rel H B r Q1 E:=by
 cases r with
 | bad=>exact f
 | ok a h=>exact fun b H' μ' g' rh rl=>hk a h b H' μ' rfl g' rh rl (ZK.mono g' f)
 | exc c h=>exact f
theorem ZK.ofO(f:ZK Y H B ((R.ofO o h).bind k) D E):∃ a,o=some a/\ZK Y H B (k a h) D E:=by
 cases o with
 | none=>exact f.elim
 | some a=>exact ⟨a,rfl,f⟩
theorem ZK.nx(f:ZK Y H B (.ok (.nx,S) h) D E)(rh:RH Y H B h)(rs:RS Y H B S Z):D.nx Z H:=f H B Gr.refl rh Z rs
theorem ZK.part(f:ZK Y H B (r.bind k) D E)
   (hk:∀ p h1 H1 μ1,r=.ok p h1->Gr H B H1 μ1->RH Y H1 μ1 h1->ZK Y H1 μ1 (k p h1) D E->match p.1 with
     | .nx=>∀ σ',RS Y H1 μ1 p.2 σ'->D1.nx σ' H1
     | .bk=>∀ σ',RS Y H1 μ1 p.2 σ'->D1.bk σ' H1
     | .ct=>∀ σ',RS Y H1 μ1 p.2 σ'->D1.ct σ' H1
     | .rt d=>∀ v,RD Y H1 μ1 d v->D1.rt v H1):ZK Y H B r D1 E:=by
 cases r with
 | bad=>exact f
 | ok p h=>exact fun H' μ' g' rh=>hk p h H' μ' rfl g' rh (ZK.mono g' f)
 | exc c h=>exact f
end
inductive SmS(Y:Yx)(E:XK)(m:Ev->Hd->R (Fl×Ev))(D:Ends)(Z:L2.St)(H:Hp):Prop
 | mk (S:Ev) (h:Hd) (B:List Addr) (rh:RH Y H B h) (rs:RS Y H B S Z) (f:ZK Y H B (m S h) D E):SmS Y E m D Z H
noncomputable def Znx(T:Tb)(Y:Yx)(E:XK)(s:Sx):TS:=SmS Y E (xs1 T s)
noncomputable def Zjf(T:Tb)(Y:Yx)(E:XK)(s:Sxs):TS:=SmS Y E (xs2 T s)
theorem SmS.bind{D:Ends}{γ δ:Type}{rel:Hp->List Addr->γ->δ->Prop}{m:Ev->Hd->R γ}{k:Ev->γ->Hd->R (Fl×Ev)}{Q1:δ->Hp->Prop}(s:SmS Y E (fun S h=>(m S h).bind (k S)) D Z H)
   (hk:∀ S d h1 v H1 μ1,RH Y H1 μ1 h1->RS Y H1 μ1 S Z->rel H1 μ1 d v->ZK Y H1 μ1 (k S d h1) D E->Q1 v H1):Sm Y E rel m Z H Q1:=by
 cases s with
 | mk S h B rh rs f=>exact ⟨S,h,B,rh,rs,f.bind fun d h1 x H1 μ1 _ g rh1 rd f1=>hk S d h1 x H1 μ1 rh1 (rs.mono rh g) rd f1⟩
theorem Sm.at{α β:Type}{rel:Hp->List Addr->α->β->Prop}{m:Ev->Hd->R α}{Q1:β->Hp->Prop}{Q:Prop}(s:Sm Y E rel m Z H Q1)(hk:∀ S h B,RH Y H B h->RS Y H B S Z->Fin Y rel H B (m S h) Q1 E->Q):Q:=by
 cases s with
 | mk S h B rh rs f=>exact hk S h B rh rs f
theorem SmS.at{D:Ends}{Q:Prop}(s:SmS Y E m D Z H)(hk:∀ S h B,RH Y H B h->RS Y H B S Z->ZK Y H B (m S h) D E->Q):Q:=by
 cases s with
 | mk S h B rh rs f=>exact hk S h B rh rs f
theorem _root_.L2.PS.imp(h:PS X s t)(i:∀ D Z H,t' D Z H->t D Z H):PS X s t':=fun pins s Z H D I q=>h pins s Z H D I (i D Z H q)
theorem _root_.L2.PSs.imp(h:PSs X s t)(i:∀ D Z H,t' D Z H->t D Z H):PSs X s t':=fun pins s Z H D I q=>h pins s Z H D I (i D Z H q)
structure XOk(K:PySem.W.Frag)(a:Addr):Prop extends ExcN K a where
 own:PySem.W.excIn K a [.type "ValueError",.type "Exception",.type "BaseException",.type "object"] "ValueError.__new__" = true
 sub:PySem.W.subIn K (.ref a) (.ref a)=some true
structure GdS(T:Tb)(Γ:Gm)(X:Cx)(Y:Yx)(E:XK)(k:Nat):Prop extends Gd T Γ X Y E k where
 top:Γ.top=true
 fnt:∀ x,X.fn x=true
 own:PassesOwn (model X.prog X.w) X.A X.env X.xe
 bk:X.env.blockKind=.function
 rz:Zj8 X E
 stk:X.stack=X.env::X.outer
 frm:X.env.frame=some X.env.locals
 xcs:∀ C∈Γ.kl.xs,∃ a,X.mg C=some (.ref a)/\XOk X.K a
 xas:∀ p∈Γ.kl.xa,∃ a b,X.mg p.1=some (.ref a)/\X.mg p.2=some (.ref b)/\XAs X.K a b
theorem GdS.ownD(G:GdS T Γ X Y E k):∀ x,ownD Γ.sc x=true->Loc X.env.scope x/\(X.fn x=true\/X.env.scope.names.lookup x=some .local):=by
 intro x h;refine ⟨?_,.inl (G.fnt x)⟩;unfold IV.ownD at h;rw [G.sc G.top];rw [Bool.or_eq_true] at h;exact h.imp of_decide_eq_true of_decide_eq_true
theorem Zc1(h:Zco x=true):swapsWith x t n env=pure false:=(kdE x).sw (of_decide_eq_true (bL h)) (of_decide_eq_true (bR h)) _ _ _
theorem Zli(G:GdS T Γ X Y E k)(hi:Γ.N[i]? = some y)(ho:ownD Γ.sc y=true)(hx:Ztu e=true)(h:chk Γ e x=true):PS X (.Assign [.Name y py] x spos) (Zh8 (Z3 T Y E e) (ZbP i)):=by
 obtain ⟨o1,o2⟩:=G.ownD y ho;have hy:X.N[i]? = some y:=by rw [G.N];exact hi
 cases e with
 | comp NC js it g c e =>
   refine Zpv h (fun elt tg iter ifs scope q h pe=>?_) (Zf _ G.toGd h);cases sw:(X.env.blockKind==.function&&X.env.kindOf y==some .local&&py.line==q.line&&!(scope.names.any fun (n,k)=>n==y&&(k==.local || k==.cell))) with
   | true =>
     have S_:=ZhA (bL (bR h));rw [<- G.N,<- G.sc (bL h)] at S_;have Gc:=fun C s3 H3 fp=>G.toGd.comp NC scope C s3 H3 fp S_.nd;have h':=bR (bR h);exact (Zih (g:=tgR X.K g) (tc:=Sm Y E0 eqR (tsto T c)) (te:=Z3 T Y E0 e) G.nd hy o1 o2 S_ rfl G.calm (evi_ok it G.toGd (bL h')) (fun C s3 H3 fp=>⟨Zjl rfl S_.nd rfl (fun x hx=>Zjq (scope:=scope) X hx) (bL (bR (bR h'))),ifs_ok c (Gc C s3 H3 fp) (bL (bR (bR (bR (bR h'))))),Zf e (Gc C s3 H3 fp) (bR (bR (bR (bR (bR h')))))⟩) (Zso X.K g) (fun j hj=>of_decide_eq_true (OC.mp (bL (bR (bR (bR h')))) j (List.mem_range.mpr hj))) (Zib X.env (bL (bR h'))) (congrArg pure sw)).imp
       fun D Z H s=>Sm.bind s fun S w h1 J H1 μ1 rh1 rs1 wj f1 D hD=>ZjQ G.gk.K (fun _ _ _ z=>z) rh1 rs1 wj f1 hD
   | false=>exact ZlD G.nd hy o1 pe (congrArg pure sw) o2
 | any=>exact fun pins s Z H D I s=>Sm.at s fun _ _ _ _ _ f=>f.elim
 | _=>exact ff hx
theorem Zje(ht:isTup tg=true)(pg:PG X tg g)(he:PE X x te)(h3:(Zco x&&(!isTup tg || Zip x))=true):PS X (.Assign [tg] x pos) (Zh8 te g) :=
 Zpx (P:=fun tg=>PG X tg g->(!isTup tg || Zip x)=true->PS X (.Assign [tg] x pos) (Zh8 te g)) ht (fun _ _ _ pg h3=>ZlF he pg (by unfold swapsWithSole;exact Zc1 (bL ‹_›)) ((kdE x).st (of_decide_eq_true h3) _ _ _ _) rfl) pg (bR h3)
theorem ZrS{T:Tb}(G:Gd T Γ X Y E k)(hc:(Cs.all fun C=>decide (C∈Γ.kl.cs))=true)(hf:f∈Γ.kl.ats){D:Ends}(rh1:RH Y H1 μ1 h1)(rs1:RS Y H1 μ1 S Z)(rd:RD Y H1 μ1 d x)
   (f1:ZK Y H1 μ1 ((Zfh Cs f d h1).bind fun v h2=>(ev T e S h2).bind fun y h3=>match v,y with
     | .int a,.int b=>if (ZR d h1).map (·.1)=(ZR d h3).map (·.1) then (ZfT Cs f d (.int (a+b)) h3).bind fun _ h4=>.ok (.nx,S) h4 else .bad
     | _,_=>.bad) D E) :
   ∃ a C dx fs v,x=.ref a/\H1 a=some (.ins C dx fs)/\Cls X.K C/\Zaq X.K C f/\fs.lookup f=some v /\
     Z3 T Y E e Z H1 fun y H2=>ZsM v y H2 fun z H3=>∃ dx' fs',H3 a=some (.ins C dx' fs')/\fs'.length<1000/\D.nx Z (upd H3 a (.ins C dx' (Zbp f z fs'))):=by
 unfold Zfh at f1;cases ei:ZR d h1 with
 | none=>rw [ei] at f1;exact f1.elim
 | some p =>
   obtain ⟨C,fs⟩:=p;rw [ei] at f1;simp only at f1;by_cases hC:C∈Cs
   . rw [if_pos hC] at f1;obtain ⟨w,e1,f1⟩:=f1.ofO;obtain ⟨i,a,Ca,dx,gs,rfl,rfl,q,hi,z,m,s⟩:=ZeH rh1 rd ei;obtain ⟨v,l,rv⟩:=(s.look (f:=f)).1 w e1;have hc':=hc;rw [OC] at hc';obtain ⟨Ca',m',cl,na⟩:=G.cls C (of_decide_eq_true (hc' C hC));have m0:=m;rw [G.gk.mg,m'] at m;cases m;refine ⟨a,Ca,dx,gs,v,rfl,z,cl,na f hf,l,S,h1,μ1,rh1,rs1,ZK.bind f1 fun y h3 u H3 μ3 _ g3 rh3 ry f3=>?_⟩;cases w with
     | int p =>
       cases y with
       | int r =>
         cases rv;cases ry;refine ⟨p,r,rfl,rfl,?_⟩;simp only at f3;by_cases hk:Option.map (·.1) (some (C,fs))=(ZR (.ref i) h3).map (·.1)
         . rw [if_pos hk] at f3;obtain ⟨a',C',dx',fs',e4,z',_,_,l',nx⟩:=Zlg (Q:=fun _ H'=>D.nx Z H') G hc hf rh3 (rd.mono rh1 g3) (.int _) (ZK.bind f3 fun _ h4 _ H4 μ4 _ g4 rh4 _ f4=>f4.nx rh4 ((rs1.mono rh1 g3).mono rh3 g4));cases e4;cases e5:ZR (.ref i) h3 with
           | none=>rw [e5] at hk;cases hk
           | some p3 =>
             obtain ⟨C3,fs3⟩:=p3;rw [e5] at hk;cases hk;obtain ⟨i3,a3,Ca3,dx3,gs3,e6,e7,_,_,z3,m3,_⟩:=ZeH rh3 (rd.mono rh1 g3) e5;cases e7;rw [m0] at m3;cases m3;rw [z'] at z3;cases z3;exact ⟨dx',fs',z',l',nx⟩
         . rw [if_neg hk] at f3;exact f3.elim
       | _=>exact f3.elim
     | _=>exact f3.elim
   . rw [if_neg hC] at f1;exact f1.elim
theorem Zjo{D D1:Ends}{k:Ev->Hd->R (Fl×Ev)} (f:ZK Y H B (r.bind fun p h2=>match p with
     | (.nx,ρ2)=>k ρ2 h2
     | (.ct,ρ2)=>k ρ2 h2
     | (.bk,ρ2)=>.ok (.nx,ρ2) h2
     | (.rt d,ρ2)=>.ok (.rt d,ρ2) h2) D E) (hn:∀ ρ2 h2 H2 μ2 σ',Gr H B H2 μ2->RH Y H2 μ2 h2->RS Y H2 μ2 ρ2 σ'->ZK Y H2 μ2 (k ρ2 h2) D E->D1.nx σ' H2) (hc:D1.ct=D1.nx) (hb:D1.bk=D.nx) (hr:D1.rt=D.rt):ZK Y H B r D1 E :=
 ZK.part f fun p h2 H2 μ2 _ g2 rh2 f2=>by
   obtain ⟨fl,ρ2⟩:=p;cases fl with
   | nx=>exact fun σ' rs'=>hn ρ2 h2 H2 μ2 σ' g2 rh2 rs' f2
   | ct=>rw [hc];exact fun σ' rs'=>hn ρ2 h2 H2 μ2 σ' g2 rh2 rs' f2
   | bk=>rw [hb];exact fun σ' rs'=>ZK.nx f2 rh2 rs'
   | rt d=>rw [hr];exact fun v rv=>f2 H2 μ2 Gr.refl rh2 v rv
theorem ZpU{D:Ends}(s:Znx T Y E (.whl c b) D Z H):Zk8 (Zid T Y E c) (Zjf T Y E b) D Z H:=by
 refine ⟨fun m=>SmS Y E (ZP (tst T c) (xs2 T b) m) D,⟨T.L,s⟩,fun m Z H s=>?_⟩;cases m with
 | zero=>exact SmS.at s fun _ _ _ _ _ f=>f.elim
 | succ m =>
   refine SmS.bind s fun S t h1 v H1 μ1 rh1 rs1 rd f1=>?_;cases rd;cases t with
   | false=>exact ZiC (ZK.nx f1 rh1 rs1)
   | true=>exact ZiB ⟨SmS Y E (ZP (tst T c) (xs2 T b) m) D,fun σ' H' q=>⟨m,OH m,q⟩,S,h1,μ1,rh1,rs1,Zjo f1 (fun ρ2 h2 H2 μ2 σ' _ rh2 rs2 f2=>⟨ρ2,h2,μ2,rh2,rs2,f2⟩) rfl rfl rfl⟩
inductive FwS(Y:Yx)(E:XK)(H1:Hp)(μ1:List Addr)(n i:Nat)(F:Ev->Hd->R (Fl×Ev))(D:Ends)(m:Nat)(Z:L2.St)(H:Hp):Prop
 | mk (S:Ev) (h:Hd) (B:List Addr) (hi:i<=n) (hm:m=n - i) (g:Gr H1 μ1 H B) (rh:RH Y H B h) (rs:RS Y H B S Z) (f:ZK Y H B (F S h) D E):FwS Y E H1 μ1 n i F D m Z H
theorem Zrr{K:PySem.W.Frag}{g:Tg}{D:Ends}(hY:Y.K=K)(rh1:RH Y H1 μ1 h1)(rs1:RS Y H1 μ1 S Z)(wj:WJ Y H1 μ1 w J)(f1:ZK Y H1 μ1 (ZG w.src g (xs2 T b) w.xs S h1) D E):∃ W:Nat->Nat->L2.St->Hp->Prop,(∃ m,W 0 m Z H1)/\∀ i m Z H,W i m Z H ->
   (J.stop i H/\D.nx Z H)\/(J.go i H/\∃ B_:L2.St->Hp->Prop,(∀ σ' H',B_ σ' H'->∃ m',m'<m/\W (i+1) m' σ' H')/\∀ x H',J.yld i H x H'->tgR K g x Z H' fun σ' H''=>Zjf T Y E b {D with nx:=B_,ct:=B_,bk:=D.nx} σ' H''):=by
 refine ⟨fun i=>FwS Y E H1 μ1 w.xs.length i (fun S=>ZG w.src g (xs2 T b) (w.xs.drop i) S) D,⟨w.xs.length,S,h1,μ1,Nat.zero_le _,(Nat.sub_zero _).symm,Gr.refl,rh1,rs1,f1⟩,fun i m Z H s=>?_⟩;cases s with
 | mk S h B hi hm g0 rh rs f =>
   subst hm;by_cases hs:Wk.stays w.src h=true
   . by_cases hlt:i<w.xs.length
     . have hd:=Og hlt;rw [List.drop_eq_getElem_cons hlt,ZG,if_pos hs] at f;obtain ⟨go,yl⟩:=(wj H B h g0 rh hs).1 i _ hd;refine .inr ⟨go,FwS Y E H1 μ1 w.xs.length (i+1) (fun S=>ZG w.src g (xs2 T b) (w.xs.drop (i+1)) S) D (w.xs.length - (i+1)),fun σ' H' q=>⟨_,Nat.sub_lt_sub_left hlt (OH i),q⟩,fun x H' hy=>?_⟩;obtain ⟨g2,rh2,rx⟩:=yl x H' hy;split at f
       . exact f.elim
       . rename_i ρ1 hb;exact Zgv hY rx (rs.mono rh g2) hb fun σ1 rs1=>⟨ρ1,h,B,rh2,rs1,Zjo (ZK.mono g2 f) (fun ρ2 h3 H3 μ3 σ' g3 rh3 rs3 f3=>⟨ρ2,h3,μ3,hlt,rfl,(g0.trans g2).trans g3,rh3,rs3,f3⟩) rfl rfl rfl⟩
     . have he:i=w.xs.length:=Nat.le_antisymm hi (Nat.le_of_not_lt hlt);subst he;rw [List.drop_eq_nil_of_le (Oq _),ZG,if_pos hs] at f;exact .inl ⟨(wj H B h g0 rh hs).2,ZK.nx f rh rs⟩
   . cases e:w.xs.drop i with
     | nil=>rw [e,ZG,if_neg hs] at f;exact f.elim
     | cons _ _=>rw [e,ZG,if_neg hs] at f;exact f.elim
mutual
theorem Zsz(s:Sx){Γ:Gm}{X:Cx}{E:XK}{k:Nat}{x:Stmt}(G:GdS T Γ X Y E k)(h:ZtN Γ s x=true):PS X x (Znx T Y E s):=match s,h with
 | .ret e,h=>Za4 (P:=fun x=>PS X x _) h fun p h=>ZqP (P:=fun o=>PS X (.Return o p.p) _) h fun y h=>(Zql (Zf e G.toGd h)).imp fun D Z H s=>SmS.bind s fun S d h1 v H1 μ1 rh1 rs1 rd f1=>f1 H1 μ1 Gr.refl rh1 v rd
 | .set g e,h=>Zm5 (P:=fun x=>PS X x _) h fun tg xe pos h=>by
   have fin:∀ {D:Ends}{Z:L2.St}{H:Hp},Znx T Y E (.set g e) D Z H->Zh8 (Z3 T Y E e) (tgR X.K g) D Z H:=fun {D Z H} s=>SmS.bind s fun S d h1 v H1 μ1 rh1 rs1 rd f1=>by
     obtain ⟨ρ1,eb,f1⟩:=f1.ofO;exact Zgv G.gk.K rd rs1 eb fun σ1 rs2=>f1.nx rh1 rs2
   have pg:=Zjl (X:=X) G.N G.nd G.calm G.ownD (bL h);refine bO (bR (bR h)) (fun h3=>?_) fun h3=>?_
   . cases g with
     | nm i=>exact Za9 (P:=fun t=>PS X (.Assign [t] _ _) _) (bL h) fun y py e1 e2=>(ZlD G.nd (by rw [G.N];exact e1) (G.ownD y e2).1 (Zf e G.toGd (bL (bR h))) (Zc1 (bL h3)) (G.ownD y e2).2).imp fun D Z H q=>fin q
     | two i j=>exact (Zje (ZgQ (P:=fun t=>isTup t=true) (show ZjU Γ.N (ownD Γ.sc) i j tg=true from bL h) fun _ _ _ _=>rfl) pg (Zf e G.toGd (bL (bR h))) h3).imp fun D Z H q=>fin q
     | many is=>exact (Zje (ZgQ (P:=fun t=>isTup t=true) (show ZjT Γ.N (ownD Γ.sc) is tg=true from bL h) fun _ _ _ _=>rfl) pg (Zf e G.toGd (bL (bR h))) h3).imp fun D Z H q=>fin q
   . cases g with
     | nm i=>exact Za9 (P:=fun t=>PS X (.Assign [t] _ _) _) (bL h) fun y py e1 e2=>(Zli G e1 e2 (bR h3) (bL (bR h))).imp fun D Z H q=>fin q
     | two i j=>exact ff (ZgQ (P:=fun t=>decide (tgE t=6)=true->false=true) (show ZjU Γ.N (ownD Γ.sc) i j tg=true from bL h) (fun _ _ _ _ z=>z) (bL h3))
     | many is=>exact ff (ZgQ (P:=fun t=>decide (tgE t=6)=true->false=true) (show ZjT Γ.N (ownD Γ.sc) is tg=true from bL h) (fun _ _ _ _ z=>z) (bL h3))
 | .put o i e,h=>Zm5 (P:=fun x=>PS X x _) h fun tg xe p2 h=>Zqa (P:=fun t=>PS X (.Assign [t] _ _) _) h fun xo xi p1 h =>
   (ZlF (pos:=p2) (Zf e G.toGd (bL (bR (bR h)))) (Zqr (pos:=p1) (Zf o G.toGd (bL h)) (Zf i G.toGd (bL (bR h))) (Zqj (Y:=Y) (E:=E)) ((kdE xi).put (of_decide_eq_true (bL (bR (bR (bR h))))) _ _ _)) (by unfold swapsWithSole;exact Zc1 (bR (bR (bR (bR h))))) rfl rfl).imp fun D Z H s=>SmS.bind s fun S d h1 v H1 μ1 rh1 rs1 rd f1 =>
     ⟨S,h1,μ1,rh1,rs1,f1.bind fun d2 h2 v2 H2 μ2 _ g2 rh2 rd2 f2=>⟨S,h2,μ2,rh2,rs1.mono rh1 g2,f2.bind fun d3 h3 v3 H3 μ3 _ g3 rh3 rd3 f3 =>
       ⟨d2,d3,d,h3,μ3,rh3,rd2.mono rh2 g3,rd3,(rd.mono rh1 g2).mono rh2 g3,f3.bind fun _ h4 _ H4 μ4 _ g4 rh4 _ f4=>f4.nx rh4 (((rs1.mono rh1 g2).mono rh2 g3).mono rh3 g4)⟩⟩⟩
 | .aug i op e,h=>Za4 (P:=fun x=>PS X x _) h fun p h=>Za9 (P:=fun a=>PS X (.AugAssign a _ _ _) _) (bL h) fun y py e1 e2=>dS (P:=fun o=>PS X (.AugAssign _ o _ _) _) (bL (bR h)) <| dS (P:=fun o=>PS X _ (Znx T Y E (.aug i o e))) (bL (bR (bR h))) <|
   (Zqo G.nd (by rw [G.N];exact e1) (G.ownD _ e2).1 (Zf e G.toGd (bR (bR (bR h)))) Zri (G.ownD _ e2).2).imp fun D Z H s=>SmS.at s fun S h B rh rs f=>by
     obtain ⟨d,ed,f⟩:=ZK.ofO f;obtain ⟨v,ev,rd⟩:=rs.var ed;refine ⟨v,ev,S,h,B,rh,rs,ZK.bind f fun d2 h2 v2 H2 μ2 _ g2 rh2 rd2 f2=>?_⟩;cases rd with
     | int a =>
       cases rd2 with
       | int b=>exact ⟨a,b,rfl,rfl,ZK.nx f2 rh2 ((rs.mono rh g2).set (.int _))⟩
       | _=>exact f2.elim
     | _=>exact f2.elim
 | .drp e,h=>Za4 (P:=fun x=>PS X x _) h fun p h=>(ZnN (Zf e G.toGd (bL h)) (Zc1 (bR h))).imp fun D Z H s=>SmS.bind s fun S d h1 v H1 μ1 rh1 rs1 rd f1=>f1.nx rh1 rs1
 | .iff c a b,h=>Za4 (P:=fun x=>PS X x _) h fun p h=>(ZsQ (tst_ok c G.toGd (bL h)) (sts_ok a G (bL (bR h))) (sts_ok b G (bR (bR h)))).imp fun D Z H s=>SmS.bind s fun S t h1 v H1 μ1 rh1 rs1 rd f1=>by
   cases rd;cases t with
   | true=>exact ZiB ⟨S,h1,μ1,rh1,rs1,f1⟩
   | false=>exact ZiC ⟨S,h1,μ1,rh1,rs1,f1⟩
 | .whl c b,h=>Za4 (P:=fun x=>PS X x _) h fun p h=>Zjz (P:=fun ys=>PS X (.While _ _ ys _) _) h fun h=>(ZlC G.own (tst_ok c G.toGd (bL h)) (sts_ok b G (bR h))).imp fun D Z H s=>ZpU s
 | .forr g it b,h=>Za4 (P:=fun x=>PS X x _) h fun p h=>Zjz (P:=fun ys=>PS X (.For _ _ _ ys _) _) h fun h=>(Zqm G.own G.calm (evi_ok it G.toGd (bL h)) (Zjl (X:=X) G.N G.nd G.calm G.ownD (bL (bR (bR h)))) (sts_ok b G (bR (bR (bR h)))) (Zib X.env (bL (bR h)))).imp fun D Z H s=>SmS.bind s fun S w h1 J H1 μ1 rh1 rs1 wj f1=>Zrr G.gk.K rh1 rs1 wj f1
 | .pas,h=>Za4 (P:=fun x=>PS X x _) h fun p h=>ZnM.imp fun D Z H s=>SmS.at s fun S h B rh rs f=>ZK.nx f rh rs
 | .brk,h=>Za4 (P:=fun x=>PS X x _) h fun p h=>ZlE.imp fun D Z H s=>SmS.at s fun S h B rh rs f=>f H B Gr.refl rh Z rs
 | .cnt,h=>Za4 (P:=fun x=>PS X x _) h fun p h=>ZgZ.imp fun D Z H s=>SmS.at s fun S h B rh rs f=>f H B Gr.refl rh Z rs
 | .any,h=>fun pins s Z H D I s=>SmS.at s fun S h B rh rs f=>f.elim
 | .rai C e,h=>ff h
 | .trs i f es C,h=>ff h
 | .trw i n f es C W w,h=>ff h
 | .seta Cs o f e,h=>Zm5 (P:=fun x=>PS X x _) h fun tg xe pos h=>Zpf (P:=fun t=>PS X (.Assign [t] _ _) _) h fun xo q h=>(Zqn (Zf o G.toGd (bL h)) (Zf e G.toGd (bL (bR h))) (Zc1 (bL (bR (bR h))))).imp fun D Z H s=>SmS.bind s fun S d h1 v H1 μ1 rh1 rs1 rd f1=>⟨S,h1,μ1,rh1,rs1,ZK.bind f1 fun d2 h2 v2 H2 μ2 _ g2 rh2 rd2 f2 =>
     Zlg (Q:=fun _ H'=>D.nx Z H') G.toGd (bL (bR (bR (bR h)))) (of_decide_eq_true (bR (bR (bR (bR h))))) rh2 rd2 (rd.mono rh1 g2) (ZK.bind f2 fun _ h3 _ H3 μ3 _ g3 rh3 _ f3=>f3.nx rh3 ((rs1.mono rh1 g2).mono rh2 g3))⟩
 | .auga Cs o f e,h=>Za4 (P:=fun x=>PS X x _) h fun p h=>dS (P:=fun o=>PS X (.AugAssign _ o _ _) _) (bL h) <| Zpf (P:=fun t=>PS X (.AugAssign t _ _ _) _) (bR h) fun xo q h=>(Zkn (Zf o G.toGd (bL h)) (Zf e G.toGd (bL (bR h))) Zrj).imp fun D Z H s=>SmS.bind s fun S d h1 x H1 μ1 rh1 rs1 rd f1=>ZrS G.toGd (bL (bR (bR h))) (of_decide_eq_true (bR (bR (bR h)))) rh1 rs1 rd f1
 | .unl i j e,h=>ff h
theorem sts_ok(s:Sxs){Γ:Gm}{X:Cx}{E:XK}{k:Nat}{x:List Stmt}(G:GdS T Γ X Y E k)(h:chkSs Γ s x=true):PSs X x (Zjf T Y E s):=match s,x,h with
 | .nil,[],h=>ZnL.imp fun D Z H s=>SmS.at s fun S h B rh rs f=>ZK.nx f rh rs
 | .nil,_::_,h=>ff h
 | .cons s r,[],h=>ff h
 | .cons s r,x::xs,h=>(ZlB (Zsz s G (bL h)) (sts_ok r G (bR h))).imp fun D Z H s=>SmS.at s fun S h B rh rs f=>⟨S,h,B,rh,rs,ZK.part f fun p h1 H1 μ1 _ g1 rh1 f1=>by
     obtain ⟨fl,ρ1⟩:=p;cases fl with
     | nx=>exact fun σ' rs'=>⟨ρ1,h1,μ1,rh1,rs',f1⟩
     | bk=>exact fun σ' rs'=>f1 H1 μ1 Gr.refl rh1 σ' rs'
     | ct=>exact fun σ' rs'=>f1 H1 μ1 Gr.refl rh1 σ' rs'
     | rt d=>exact fun v rv=>f1 H1 μ1 Gr.refl rh1 v rv⟩
end
end IV
end
section
set_option tactic.hygienic false
namespace IV
open PySem PySem.Spec PyProof.Rows L2
structure BodyOk(K:PySem.W.Frag)(kl:Kl)(fs:List Str)(x q:Str)(fd:Fd)(st:Stmt)(f:Addr)(fdd:FuncData):Prop where
 fn:Fun K x q st f fdd
 sc:FnScope fd.N fd.ps (ZM st)
 hb:∀ (kV doc pm:Value) (an:Option Addr) (cdv ct:Value) (us:List Value),us.length=fd.ps.length->bindArgs (PySem.W.fnOf x q (Zct st) (Zbc st) (ZM st) .none kV doc pm an cdv ct) ⟨us,[]⟩=pure (fd.ps.zip us)
 ck:chkSs ⟨fd.N,ZM st,fs,true,kl⟩ fd.body (Zbc st)=true
structure DefOk(K:PySem.W.Frag)(mg:Str->Option Value)(kl:Kl)(fs:List Str)(x:Str)(fd:Fd)(st:Stmt)(f:Addr)(fdd:FuncData):Prop where
 bd:BodyOk K kl fs x x fd st f fdd
 mg:mg x=some (.ref f)
structure Md(Pr:Program)(w:World)(K:PySem.W.Frag)(mg:Str->Option Value)(P:Pg)(kl:Kl):Prop where
 bare:Zbx K=true
 gd:∀ x kvs,P.GD x=some kvs->∃ a kvs',mg x=some (.ref a)/\DkK Pr w K a kvs'/\∀ H B,RKs ⟨K,mg⟩ H B kvs kvs'
 g:∀ x d,P.G x=some d->∃ v u,mg x=some u/\RelV v u/\∀ H B,RD ⟨K,mg⟩ H B d v
 blt:∀ x∈ZjZ,mg x=none
 defs:∀ x fd,P.tb.lookup x=some fd->∃ st f fdd,DefOk K mg kl (P.tb.map (·.1)) x fd st f fdd
 cls:∀ C∈kl.cs,∃ a,mg C=some (.ref a)/\Cls K a/\∀ f∈kl.ats,Zaq K a f
 mts:∀ p∈kl.ms,∃ a f fdd fd st q,mg p.1=some (.ref a)/\Cls K a/\Meth K a p.2 f/\P.look (mnm p.1 p.2)=some fd/\BodyOk K kl (P.tb.map (·.1)) p.2 q fd st f fdd
 mks:∀ C∈kl.is,∃ a f fdd fd st q,mg C=some (.ref a)/\Mk K a f/\P.look (mnm C (O "__init__"))=some fd/\BodyOk K kl (P.tb.map (·.1)) (O "__init__") q fd st f fdd
 xcs:∀ C∈kl.xs,∃ a,mg C=some (.ref a)/\XOk K a
 xas:∀ p∈kl.xa,∃ a b,mg p.1=some (.ref a)/\mg p.2=some (.ref b)/\XAs K a b
theorem Zla(r:RDs Y H B ds vs):RS Y H B (ZL N ds) (L2.start N vs):=by
 refine ⟨by simp [ZL,L2.start,r.length],fun i d e=>?_⟩;unfold ZL at e;unfold L2.start;by_cases hi:i<ds.length
 . rw [Oe (by simpa using hi),On] at e;rw [Oe (by simpa [<- r.length] using hi),On];obtain ⟨d',e1,e2⟩:=Oo.mp e;cases e2;obtain ⟨v,h1,h2⟩:=r.get e1;exact ⟨v,by rw [h1];rfl,h2⟩
 . rw [Om (by simpa using hi)] at e;have:=O1 e;rw [List.mem_replicate] at this;cases this.2
theorem Znz(f:Fin Y (RD Y) H B (Zt r) Q E):ZK Y H B r {nx:=fun _ H'=>Q .non H',rt:=Q} E:=by
 cases r with
 | bad=>exact f.elim
 | exc c h=>exact f
 | ok p h =>
   obtain ⟨fl,S⟩:=p;cases fl with
   | nx=>exact fun H' μ' g rh σ' _=>f .non H' μ' g rh .non
   | bk=>exact f.elim
   | ct=>exact f.elim
   | rt d=>exact fun H' μ' g rh v rv=>f v H' μ' g rh rv
section
variable {Pr:Program}{w:World}{K:PySem.W.Frag}{mg:Str->Option Value}{base:Heap}{P:Pg}{kl:Kl}
theorem Zf8(h:P.tb.lookup x=some fd):P.look x=some fd:=by unfold Pg.look;rw [h]
theorem Zld(hl:P.look x=some fd)(h:ZdY (P.tbl n) ⟨K,mg⟩ x vs H Q E):vs.length=fd.ps.length:=by
 obtain ⟨ds,h,B,rh,rs,f⟩:=h;cases n with
 | zero=>exact f.elim
 | succ n =>
   have f:Fin ⟨K,mg⟩ (RD ⟨K,mg⟩) H B (run P (n+1) x ds h) Q E:=f;rw [run,hl] at f;obtain ⟨hz,_⟩:=f.iff;rw [<- rs.length];exact hz
structure Lev(Pr:Program)(w:World)(K:PySem.W.Frag)(mg:Str->Option Value)(base:Heap)(P:Pg)(kl:Kl)(n:Nat):Prop where
 defs:∀ y∈P.tb.map (·.1),∃ ps,Def Pr w K mg base (2 * n+61) y ps (ZdY (P.tbl n) ⟨K,mg⟩ y)
 mts:∀ p∈kl.ms,∃ a f fd ps,mg p.1=some (.ref a)/\Cls K a/\Meth K a p.2 f/\FnOk Pr w K mg base (CXF Pr w) (2 * n+61) f fd ps (ZdY (P.tbl n) ⟨K,mg⟩ (mnm p.1 p.2))/\Binds K fd ps []
 mks:∀ C∈kl.is,∃ a f fd ps,mg C=some (.ref a)/\Mk K a f/\FnOk Pr w K mg base (CXF Pr w) (2 * n+61) f fd ps (ZdY (P.tbl n) ⟨K,mg⟩ (mnm C (O "__init__")))/\Binds K fd ps []
theorem Zgl(M:Md Pr w K mg P kl){x nm q:Str}{fd:Fd}{st:Stmt}{f:Addr}{fdd:FuncData}(hl:P.look x=some fd)(o:BodyOk K kl (P.tb.map (·.1)) nm q fd st f fdd) :
   ∀ n,Lev Pr w K mg base P kl n->FnOk Pr w K mg base (CXF Pr w) (2 * (n+1)+61) f fdd fd.ps (ZdY (P.tbl (n+1)) ⟨K,mg⟩ x):=by
 intro n ih;obtain ⟨oc,od,kV,doc,pm,an,cdv,ct,osl,rfl,lk,hcd⟩:=o.fn.ex;have S_:=o.sc;rw [show 2 * (n+1)+61=(2 * n+61+1)+1 by lia];refine Ztz lk hcd S_ (fun vs H Q E h=>Zld hl h) fun A outer s H vs Q E hr hsp=>?_;refine ZoZ (t:=Zjf (P.tbl n) ⟨K,mg⟩ E fd.body) (sts_ok fd.body (k:=2 * n+61) (Γ:=⟨fd.N,ZM st,P.tb.map (·.1),true,kl⟩) ⟨⟨⟨rfl,rfl,M.gd,M.g,M.bare⟩,rfl,fun _=>rfl,fun y hy=>?_,fun y hy=>hy,S_.nd,rfl,hr.mono (by lia),by lia,Zn4 fun _ _ z=>z,ih.defs,M.blt,hr,M.cls,ih.mts,ih.mks⟩,rfl,fun _=>rfl,PassesOwn.leaving,?_,Zln,rfl,rfl,M.xcs,M.xas⟩ o.ck) ?_
 . unfold Znh at hy;rw [Bool.or_eq_true,Bool.or_eq_true] at hy;rcases hy with (hy|hy)|hy
   . exact .inl (of_decide_eq_true hy)
   . exact .inr (.inl (of_decide_eq_true hy))
   . exact .inr (.inr (of_decide_eq_true hy))
 . show (if (ZM st).kind.isAnnotationScope then ScopeKind.function else (ZM st).kind)=.function;rw [S_.kind];rfl
 . obtain ⟨ds,h,B,rh,rs,f⟩:=hsp;have f:Fin ⟨K,mg⟩ (RD ⟨K,mg⟩) H B (run P (n+1) x ds h) Q E:=f;rw [run,hl] at f;obtain ⟨hz,f⟩:=f.iff;exact ⟨ZL fd.N ds,h,B,rh,Zla rs,Znz f⟩
theorem mem_lookup{α:Type}{l:List (Str×α)}{x:Str}(h:x∈l.map (·.1)):∃ a,l.lookup x=some a:=by
 induction l with
 | nil=>simp at h
 | cons p r ih =>
   rw [OF];by_cases e:x=p.1
   . have:(x==p.1)=true:=by simpa using e
     rw [this];exact ⟨_,rfl⟩
   . have:(x==p.1)=false:=by simpa using e
     rw [this];exact ih (by simpa [e] using h)
theorem Zge{x:Str}{fd:Fd}{f:Addr}{fdd:FuncData}(hl:P.look x=some fd):FnOk Pr w K mg base (CXF Pr w) (2 * 0+61) f fdd fd.ps (ZdY (P.tbl 0) ⟨K,mg⟩ x) :=
 ⟨fun vs H Q E h=>Zld hl h,fun A outer s H args us vs Q E _ _ _ _ h=>by obtain ⟨ds,h,B,rh,rs,f⟩:=h;exact f.elim⟩
theorem Zm9(M:Md Pr w K mg P kl):∀ n,Lev Pr w K mg base P kl n:=by
 intro n;induction n with
 | zero =>
   refine ⟨fun y hy=>?_,fun p hp=>?_,fun C hC=>?_⟩
   . obtain ⟨fd,hl⟩:=mem_lookup hy;obtain ⟨st,f,fdd,o⟩:=M.defs y fd hl;exact ⟨fd.ps,f,fdd,o.mg,o.bd.fn.kp,o.bd.fn.binds o.bd.hb,Zge (Zf8 hl)⟩
   . obtain ⟨a,f,fdd,fd,st,q,m,c,me,hl,o⟩:=M.mts p hp;exact ⟨a,f,fdd,fd.ps,m,c,me,Zge hl,o.fn.binds o.hb⟩
   . obtain ⟨a,f,fdd,fd,st,q,m,me,hl,o⟩:=M.mks C hC;exact ⟨a,f,fdd,fd.ps,m,me,Zge hl,o.fn.binds o.hb⟩
 | succ n ih =>
   refine ⟨fun y hy=>?_,fun p hp=>?_,fun C hC=>?_⟩
   . obtain ⟨fd,hl⟩:=mem_lookup hy;obtain ⟨st,f,fdd,o⟩:=M.defs y fd hl;exact ⟨fd.ps,f,fdd,o.mg,o.bd.fn.kp,o.bd.fn.binds o.bd.hb,Zgl M (Zf8 hl) o.bd n ih⟩
   . obtain ⟨a,f,fdd,fd,st,q,m,c,me,hl,o⟩:=M.mts p hp;exact ⟨a,f,fdd,fd.ps,m,c,me,Zgl M hl o n ih,o.fn.binds o.hb⟩
   . obtain ⟨a,f,fdd,fd,st,q,m,me,hl,o⟩:=M.mks C hC;exact ⟨a,f,fdd,fd.ps,m,me,Zgl M hl o n ih,o.fn.binds o.hb⟩
theorem Zq6(M:Md Pr w K mg P kl){x:Str}{a:Str}{fd:Fd}{fa:Addr}(n:Nat)(hl:P.tb.lookup x=some fd)(hps:fd.ps=[a])(hm:mg x=some (.ref fa)) :
   ∃ fdd:FuncData,(∀ (s:Shared) (v:Value),BindsTo s fdd ⟨[v],[]⟩ [(a,v)])/\∀ base:Heap,FnOk Pr w K mg base (CXF Pr w) (2 * (n+1)+61) fa fdd [a] (ZdY (P.tbl (n+1)) ⟨K,mg⟩ x):=by
 obtain ⟨st,f,fdd,o⟩:=M.defs x fd hl;have e:=hm.symm.trans o.mg;cases e;refine ⟨fdd,fun s v=>?_,fun base=>hps ▸ Zgl M (Zf8 hl) o.bd n (Zm9 M n)⟩;obtain ⟨oc,od,kV,doc,pm,an,cdv,ct,osl,rfl,lk,hcd⟩:=o.bd.fn.ex;have:=o.bd.hb kV doc pm an cdv ct [v] (by rw [hps];rfl);rw [hps] at this;exact BindsTo.of_eq this
end
theorem Zsf{α:Type}{us:List α}(h:us.length=0):us=[]:=List.length_eq_zero_iff.mp h
theorem Zka{α:Type}{us:List α}{n:Nat}(h:us.length=n+1):∃ a r,us=a::r/\r.length=n:=by
 cases us with
 | nil=>cases h
 | cons a r=>exact ⟨a,r,rfl,Nat.succ.inj h⟩
theorem Zse{α:Type}{us:List α}(h:us.length=1):∃ a0,us=[a0]:=by
 obtain ⟨a0,r,rfl,h2⟩:=Zka h;exact ⟨a0,by rw [Zsf h2]⟩
theorem Zsd{α:Type}{us:List α}(h:us.length=2):∃ a0 a1,us=[a0,a1]:=by
 obtain ⟨a0,r,rfl,h2⟩:=Zka h;obtain ⟨a1,rfl⟩:=Zse h2;exact ⟨a0,a1,rfl⟩
theorem Zsc{α:Type}{us:List α}(h:us.length=3):∃ a0 a1 a2,us=[a0,a1,a2]:=by
 obtain ⟨a0,r,rfl,h2⟩:=Zka h;obtain ⟨a1,a2,rfl⟩:=Zsd h2;exact ⟨a0,a1,a2,rfl⟩
theorem Zsb{α:Type}{us:List α}(h:us.length=4):∃ a0 a1 a2 a3,us=[a0,a1,a2,a3]:=by
 obtain ⟨a0,r,rfl,h2⟩:=Zka h;obtain ⟨a1,a2,a3,rfl⟩:=Zsc h2;exact ⟨a0,a1,a2,a3,rfl⟩
theorem Zsa{α:Type}{us:List α}(h:us.length=5):∃ a0 a1 a2 a3 a4,us=[a0,a1,a2,a3,a4]:=by
 obtain ⟨a0,r,rfl,h2⟩:=Zka h;obtain ⟨a1,a2,a3,a4,rfl⟩:=Zsb h2;exact ⟨a0,a1,a2,a3,a4,rfl⟩
theorem Zt7{α:Type}{us:List α}(h:us.length=6):∃ a0 a1 a2 a3 a4 a5,us=[a0,a1,a2,a3,a4,a5]:=by
 obtain ⟨a0,r,rfl,h2⟩:=Zka h;obtain ⟨a1,a2,a3,a4,a5,rfl⟩:=Zsa h2;exact ⟨a0,a1,a2,a3,a4,a5,rfl⟩
end IV
end
section
namespace IV
open PySem PySem.Spec PyProof.Rows L2
noncomputable def All(p:α->Prop):List α->Prop
 | []=>True
 | a::l=>p a/\All p l
theorem All.mem:∀ {l:List α},All p l->∀ a∈l,p a
 | [],_,a,h=>by simp at h
 | b::l,⟨h1,h2⟩,a,h=>by
   rcases O2.mp h with rfl|h
   . exact h1
   . exact All.mem h2 a h
theorem lookup_mem{α:Type}{l:List (Str×α)}{a:α}(h:l.lookup x=some a):(x,a)∈l:=by
 induction l with
 | nil=>cases h
 | cons p r ih =>
   rw [OF] at h;by_cases e:x=p.1
   . have:(x==p.1)=true:=by simpa using e
     rw [this] at h;cases h;subst e;exact Oi
   . have:(x==p.1)=false:=by simpa using e
     rw [this] at h;exact Oh _ (ih h)
noncomputable def spL(K:PySem.W.Frag):Sp:=fun vs H Q _=>∃ (a:Addr) (ns:List Int),vs=[.ref a]/\SqL K H a (ns.map V.int)/\ns.length<=63/\Zpj H/\∀ H',Q (.bl true) H'
theorem ZjG:∀ ns:List Int,RDs Y H B (ns.map D.int) (ns.map V.int)
 | []=>.nil
 | n::r=>.cons (.int n) (ZjG r)
theorem Zr9 {l:PySem.W.OpenLaw}{q:Program}{loose:List Str}{XP:(Str->Option Value)->Heap->Prop}{YP:World->Heap->Prop}{d:DefRec}{K:Params->PySem.W.Frag}{P:Pg}{kl:Kl}{fd:Fd} (n:Nat) (hn:l.most=some 63) (hdf:d.params.defaults=[]) (hd:d.name=O "law") (hr:Room (2 * (n+1)+61) callerA)
   (hY:∀ (w:World) (h:Heap),YP w h->(K w.params).In h) (hl:P.tb.lookup (O "law")=some fd) (hps:fd.ps=[O "_law_script"])
   (hrun:∀ ns:List Int,ns.length<=63->∃ h',run P (n+1) (O "law") [.ro (ns.map .int)] []=.ok (.bl true) h')
   (M:∀ (w:World) (mg:Str->Option Value) (h:Heap),(K w.params).In h->h.Ns mainGlobals mg->Md l.prog w (K w.params) mg P kl) :
   PySem.W.WalkO q loose XP YP l.row.toRowW d [] (fun f vs=>PySem.call f vs):=by
 refine L2.Zng (n:=63) (k:=2 * (n+1)+61) (x := "_law_script") (CX:=fun w=>CXF l.prog w) (sp:=fun w=>spL (K w.params)) hn (by decide) hdf hr hY (fun w mg fa h KX G hmg=>?_) (fun _ _ a ns hl hO hS=>⟨a,ns,rfl,hS,hl,hO,fun _=>rfl⟩) fun _ _ _ _ _ z=>by obtain ⟨_,_,_,_,_,_,_,_,_,_,_,_,_,z⟩:=z;exact z
 rw [hd] at hmg;obtain ⟨fdd,hb,F⟩:=Zq6 (M w mg h KX G) n hl hps hmg;refine ⟨fdd,hb,fun base _ _=>(F base).imp fun vs H Q E hsp=>?_⟩;obtain ⟨a,ns,rfl,hS,hz,hO,hq⟩:=hsp;obtain ⟨h',e⟩:=hrun ns hz;refine ⟨[.ro (ns.map .int)],[],[],⟨rfl,.nil,fun i o a e=>by simp at e,fun i o e=>by simp at e⟩,.cons (.ro ?_ (ZjG ns)) .nil,?_⟩
 . rcases hS with hS|hS
   . rcases hS with hS|hS
     . rcases hO a with z|⟨o,xs,z⟩<;>(rw [z] at hS;cases hS)
     . exact .inl hS
   . exact .inr hS
 . show Fin _ _ H [] (run P (n+1) (O "law") [.ro (ns.map .int)] []) Q E;rw [e];exact fun b H' μ' _ _ r=>by cases r;exact hq H'
theorem ZsA {K:PySem.W.Frag} (h:K.lookup a=some ⟨.type "tuple",od,.seq its n,sl⟩) (hz:its.size<=sizeLine) (r:Zh vs its.toList):SqT K H a vs :=
 .inr ⟨_,its,n,h,rfl,rfl,hz,r⟩
end IV
end
section
namespace IV
open PySem L2 PyProof.Rows
structure Chk(kl:Kl)(fs:List Str)(x q:Str)(fd:Fd)(st:Stmt):Prop where
 sc:FnScope fd.N fd.ps (ZM st)
 hb:∀ (kV doc pm:Value) (an:Option Addr) (cdv ct:Value) (us:List Value),us.length=fd.ps.length->bindArgs (PySem.W.fnOf x q (Zct st) (Zbc st) (ZM st) .none kV doc pm an cdv ct) ⟨us,[]⟩=pure (fd.ps.zip us)
 ck:chkSs ⟨fd.N,ZM st,fs,true,kl⟩ fd.body (Zbc st)=true
variable {K:PySem.W.Frag}{h:Heap}{mg:Str->Option Value}{kl:Kl}{fs:List Str}{x q C:Str}{fd:Fd}{st:Stmt}{ca:Addr}{P:Pg}
theorem Chk.bd(c:Chk kl fs x q fd st)(F:Fun K x q st f fdd):BodyOk K kl fs x q fd st f fdd:=⟨F,c.sc,c.hb,c.ck⟩
noncomputable def ZrZ(K:PySem.W.Frag)(x:Str)(st:Stmt):Prop:=∃ f fdd,PySem.W.nsIn K mainGlobals x=some (some (.ref f))/\Fun K x x st f fdd
noncomputable def Zna(K:PySem.W.Frag)(ca:Addr)(x q:Str)(st:Stmt):Prop:=∃ f fdd,PySem.W.findIn K (.ref ca) x=some (some (.ref f))/\PySem.W.isFn K (.ref f)=true/\PySem.W.keepIn K (.ref f)=true/\Fun K x q st f fdd
theorem ZoV(X:K.In h)(G:h.Ns mainGlobals mg)(d:ZrZ K x st)(c:Chk kl fs x x fd st):∃ st f fdd,DefOk K mg kl fs x fd st f fdd:=by
 obtain ⟨f,fdd,a,F⟩:=d;exact ⟨st,f,fdd,c.bd F,PySem.W.mg_of X G a⟩
theorem Zoq(X:K.In h)(G:h.Ns mainGlobals mg)(y:PySem.W.nsIn K mainGlobals C=some (some (.ref ca)))(cl:Cls K ca)(d:Zna K ca x q st)(c:Chk kl (P.tb.map (·.1)) x q fd st)(e:P.look (mnm C x)=some fd):∃ a f fdd fd st q,mg C=some (.ref a)/\Cls K a/\Meth K a x f/\P.look (mnm C x)=some fd/\BodyOk K kl (P.tb.map (·.1)) x q fd st f fdd:=by
 obtain ⟨f,fdd,u1,u2,u3,F⟩:=d;exact ⟨ca,f,fdd,fd,st,q,PySem.W.mg_of X G y,cl,⟨u1,u2,u3⟩,e,c.bd F⟩
theorem ZqT (X:K.In h) (G:h.Ns mainGlobals mg) (y:PySem.W.nsIn K mainGlobals C=some (some (.ref ca))) (m:PySem.W.makesIn K ca=true) (k:PySem.W.keepIn K (.ref ca)=true) (d:Zna K ca (O "__init__") q st) (c:Chk kl (P.tb.map (·.1)) (O "__init__") q fd st) (e:P.look (mnm C (O "__init__"))=some fd):∃ a f fdd fd st q,mg C=some (.ref a)/\Mk K a f/\P.look (mnm C (O "__init__"))=some fd/\BodyOk K kl (P.tb.map (·.1)) (O "__init__") q fd st f fdd:=by
 obtain ⟨f,fdd,u1,u2,u3,F⟩:=d;exact ⟨ca,f,fdd,fd,st,q,PySem.W.mg_of X G y,⟨m,u1,u2,k⟩,e,c.bd F⟩
end IV
end
section
namespace IV
open PySem L2 PyProof.Rows
noncomputable abbrev Ml:=Str×Str×Fd×Nat×Nat
variable {K:PySem.W.Frag}{h:Heap}{mg:Str->Option Value}{kl:Kl}{fs:List Str}{C:Str}{ca:Addr}{P:Pg}
theorem ZjO(X:K.In h)(G:h.Ns mainGlobals mg){top:Nat->Stmt}:∀ {l:List (Str×Fd×Nat)},All (fun p=>ZrZ K p.1 (top p.2.2)) l->All (fun p=>Chk kl fs p.1 p.1 p.2.1 (top p.2.2)) l->All (fun p:Str×Fd=>∃ st f fdd,DefOk K mg kl fs p.1 p.2 st f fdd) (l.map fun p=>(p.1,p.2.1))
 | [],_,_=>trivial
 | _::_,d,c=>⟨ZoV X G d.1 c.1,ZjO X G d.2 c.2⟩
theorem Zju(X:K.In h)(G:h.Ns mainGlobals mg)(y:PySem.W.nsIn K mainGlobals C=some (some (.ref ca)))(cl:Cls K ca){mt:Nat->Nat->Stmt}:∀ {l:List Ml},All (fun p=>Zna K ca p.1 p.2.1 (mt p.2.2.2.1 p.2.2.2.2)) l->All (fun p=>Chk kl (P.tb.map (·.1)) p.1 p.2.1 p.2.2.1 (mt p.2.2.2.1 p.2.2.2.2)) l->All (fun p=>P.look (mnm C p.1)=some p.2.2.1) l->All (fun p:Str×Str=>∃ a f fdd fd st q,mg p.1=some (.ref a)/\Cls K a/\Meth K a p.2 f/\P.look (mnm p.1 p.2)=some fd/\BodyOk K kl (P.tb.map (·.1)) p.2 q fd st f fdd) (l.map fun p=>(C,p.1))
 | [],_,_,_=>trivial
 | _::_,d,c,e=>⟨Zoq X G y cl d.1 c.1 e.1,Zju X G y cl d.2 c.2 e.2⟩
theorem Zg8(X:K.In h)(G:h.Ns mainGlobals mg):∀ {l:List Str},All (fun x=>PySem.W.nsIn K mainGlobals x=some none) l->All (fun x=>mg x=none) l
 | [],_=>trivial
 | _::_,d=>⟨PySem.W.mg_none_of X G d.1,Zg8 X G d.2⟩
end IV
end
section
set_option tactic.hygienic false
namespace IV
open PySem L2
theorem Zf5(h:Str.ofString a=Str.ofString b):a=b:=by
 have e:∀ s:String,(Str.ofString s).cps.toList=s.toList.map Char.toNat:=fun s=>by
   show (cpsOfBytes 0 0 s.toByteArray.data.toList).toArray.toList=_;rw [cpsOfBytes_string]
 have h1:=congrArg (fun s:Str=>s.cps.toList) h;simp only [e] at h1;have h2:a.toList=b.toList:=by
   have inj:∀ {x y:Char},x.toNat=y.toNat->x=y:=fun {x y} q=>by
     have:x.val=y.val:=UInt32.toNat_inj.mp q;exact Char.ext this
   exact (List.map_inj_right fun x y q=>inj q).mp h1
 exact String.toList_inj.mp h2
@[simp] theorem ofString_eq(a b:String):(Str.ofString a=Str.ofString b)↔a=b:=⟨Zf5,fun h=>h ▸ rfl⟩
@[simp] theorem Zom(a b:String):(Str.ofString a==Str.ofString b)=(a==b):=by
 rw [Bool.eq_iff_iff];simp
noncomputable def Un(k:γ):Type:=Unit
noncomputable def un:Un k:=()
noncomputable def R.bnd(r:R α)(k:α->Hd->R β)(u:Un k:=un):R β:=r.bind k
@[simp] theorem Zr:R.bnd (.ok a h) k u=k a h:=rfl
@[simp] theorem Zt4:R.bnd (R.bad:R α) k u=.bad:=rfl
section
variable {T:Tb}{S:Ev}{h:Hd}
@[simp] theorem bind_ok:(R.ok a h).bind k=k a h:=rfl
@[simp] theorem bind_bad:(R.bad:R α).bind k=.bad:=rfl
@[simp] theorem ofO_some:R.ofO (some a) h=.ok a h:=rfl
@[simp] theorem Zkq:(R.ok a h).plain=.ok a h:=rfl
@[simp] theorem ZmD{i}:ev T (.var i) S h=R.ofO (S[i]?).join h:=rfl
@[simp] theorem Zry{d}:ev T (.cst d) S h=.ok d h:=rfl
@[simp] theorem ZmE{x}:ev T (.glo x) S h=R.ofO (T.G x) h:=rfl
@[simp] theorem ZmF{op a b}:ev T (.bin op a b) S h=(ev T a S h).bnd fun x h1=>(ev T b S h1).bnd fun y h2=>opB op x y h2:=rfl
@[simp] theorem Zrz{op a b}:ev T (.cmp op a b) S h=(ev T a S h).bnd fun x h1=>(ev T b S h1).bnd fun y h2=>opC T.GD op x y h2:=rfl
@[simp] theorem ZuW{a}:ev T (.neg a) S h=(ev T a S h).bnd fun x h1=>match x with
   | .int i=>.ok (.int (-i)) h1
   | _=>.bad:=rfl
@[simp] theorem Zvf{a}:ev T (.nt a) S h=(ev T a S h).bnd fun x h1=>match x with
   | .bl b=>.ok (.bl (!b)) h1
   | _=>.bad:=rfl
@[simp] theorem Zt3{es}:ev T (.ands es) S h=evAnd T es S h:=rfl
@[simp] theorem ZuV{es}:ev T (.ors es) S h=evOr T es S h:=rfl
@[simp] theorem Zr4{e}:evAnd T (.cons e .nil) S h=ev T e S h:=rfl
@[simp] theorem Zr3{e e' r}:evAnd T (.cons e (.cons e' r)) S h=(ev T e S h).bnd fun x h1=>match x with
     | .bl true=>evAnd T (.cons e' r) S h1
     | .bl false=>.ok (.bl false) h1
     | _=>.bad:=rfl
@[simp] theorem ZtI{e}:evOr T (.cons e .nil) S h=ev T e S h:=rfl
@[simp] theorem ZtH{e e' r}:evOr T (.cons e (.cons e' r)) S h=(ev T e S h).bnd fun x h1=>match x with
     | .bl true=>.ok (.bl true) h1
     | .bl false=>evOr T (.cons e' r) S h1
     | _=>.bad:=rfl
@[simp] theorem ZuX{c a b}:ev T (.ite c a b) S h=(tst T c S h).bnd fun c h1=>if c then ev T a S h1 else ev T b S h1:=rfl
@[simp] theorem ZoR{es}:ev T (.tupl es) S h=(evs T es S h).bnd fun xs h1=>if xs.length<=sizeLine then .ok (.tup xs) h1 else .bad:=rfl
@[simp] theorem ZjM{es}:ev T (.lstl es) S h=(evs T es S h).bnd fun xs h1=>if xs.length<=sizeLine then Zbs (.lst xs) h1 else .bad:=rfl
@[simp] theorem Zhu{a i}:ev T (.ix a i) S h=(ev T a S h).bnd fun x h1=>(ev T i S h1).bnd fun y h2=>ZaE T.GD x y h2:=rfl
@[simp] theorem ZtF{a lo hi}:ev T (.sl a lo hi) S h=(ev T a S h).bnd fun x h1=>(evo T lo S h1).bnd fun l h2=>(evo T hi S h2).bnd fun u h3=>Zg5 x l u h3:=rfl
@[simp] theorem ZrB{f es}:ev T (.blt f es) S h=(evs T es S h).bnd fun xs h1=>Za7 T.GD f xs h1:=rfl
@[simp] theorem Zgi{f es}:ev T (.call f es) S h=(evs T es S h).bnd fun xs h1=>T.C f xs h1:=rfl
@[simp] theorem ZoS{m o es}:ev T (.meth m o es) S h=(ev T o S h).bnd fun x h1=>if ZcE x h1 then (evs T es S h1).bnd fun xs h2=>ZaI m x xs h2 else .bad:=rfl
@[simp] theorem Zei{NC js it g c e}:ev T (.comp NC js it g c e) S h=(evi T it S h).bnd fun w h1=>(Zq w.src g (tsto T c) (ev T e) w.xs (Zbd js S) [] h1).bnd fun xs h2=>Zbs (.lst xs) h2:=rfl
@[simp] theorem Zt2{e d}:ev T (.maxd e d) S h=(ev T e S h).bnd fun x h1=>(ev T d S h1).bnd fun y h2=>ZpO x y h2:=rfl
@[simp] theorem ZtG{ps}:ev T (.dictl ps) S h=(evs T ps S h).bnd fun xs h1=>match ZbT xs with
   | some kvs=>if kvs.length<=15 then Zbs (.dic (ZcS [] kvs)) h1 else .bad
   | none=>.bad:=rfl
@[simp] theorem ZuY{Cs o f}:ev T (.att Cs o f) S h=(ev T o S h).bnd fun x h1=>Zfh Cs f x h1:=rfl
@[simp] theorem Zvg{C es}:ev T (.mk C es) S h=(evs T es S h).bnd fun xs h1=>Zl5 T.C C xs h1:=rfl
@[simp] theorem Zrv{C m o es}:ev T (.mcl C m o es) S h=(ev T o S h).bnd fun x h1=>match ZR x h1 with
   | some (C',fs)=>if C'=C/\fs.lookup m=none then (evs T es S h1).bnd fun xs h2=>T.C (mnm C m) (x::xs) h2 else .bad
   | none=>.bad:=rfl
@[simp] theorem Zt1{e}:ev T (.trev e) S h=(ev T e S h).bnd fun x h1=>ZpN x h1:=rfl
@[simp] theorem ZuT{o e}:ev T (.tix o e) S h=(ev T o S h).bnd fun x h1=>if Ztt x then (ev T e S h1).bnd fun y h2=>Zpc x y h2 else .bad:=rfl
@[simp] theorem Zrw{o e}:ev T (.lix o e) S h=(ev T o S h).bnd fun x h1=>if ZcE x h1 then (ev T e S h1).bnd fun y h2=>Zm0 x y h2 else .bad:=rfl
@[simp] theorem Zrx{a b}:ev T (.dne a b) S h=(ev T a S h).bnd fun x h1=>(ev T b S h1).bnd fun y h2=>ZgH T.GD x y h2:=rfl
@[simp] theorem Zr7{Cs o f e}:xs1 T (.seta Cs o f e) S h=(ev T e S h).bnd fun d h1=>(ev T o S h1).bnd fun x h2=>(ZfT Cs f x d h2).bnd fun _ h3=>.ok (.nx,S) h3:=rfl
@[simp] theorem Zr8{Cs o f e}:xs1 T (.auga Cs o f e) S h=(ev T o S h).bnd fun x h1=>(Zfh Cs f x h1).bnd fun v h2=>(ev T e S h2).bnd fun y h3=>match v,y with
   | .int a,.int b=>if (ZR x h1).map (·.1)=(ZR x h3).map (·.1) then (ZfT Cs f x (.int (a+b)) h3).bnd fun _ h4=>.ok (.nx,S) h4 else .bad
   | _,_=>.bad:=rfl
@[simp] theorem ZjL:evs T .nil S h=.ok [] h:=rfl
@[simp] theorem ZeU{e es}:evs T (.cons e es) S h=(ev T e S h).bnd fun x h1=>(evs T es S h1).bnd fun xs h2=>.ok (x::xs) h2:=rfl
@[simp] theorem ZtD:evo T none S h=.ok none h:=rfl
@[simp] theorem ZmB{e}:evo T (some e) S h=(ev T e S h).bnd fun x h1=>match x with
   | .int i=>.ok (some i) h1
   | _=>.bad:=rfl
@[simp] theorem Zk6{e}:tst T (.ex e) S h=(ev T e S h).bnd fun x h1=>R.ofO (Zdr T.GD x h1) h1:=rfl
@[simp] theorem ZgO{ts}:tst T (.ands ts) S h=tstAnd T ts S h:=rfl
@[simp] theorem Zi6{ts}:tst T (.ors ts) S h=tstOr T ts S h:=rfl
@[simp] theorem Zt9{a}:tst T (.nt a) S h=(tst T a S h).bnd fun c h1=>.ok (!c) h1:=rfl
@[simp] theorem ZpY{t}:tstAnd T (.one t) S h=tst T t S h:=rfl
@[simp] theorem ZdN{t ts}:tstAnd T (.cons t ts) S h=(tst T t S h).bnd fun c h1=>if c then tstAnd T ts S h1 else .ok false h1:=rfl
@[simp] theorem Zr2{t}:tstOr T (.one t) S h=tst T t S h:=rfl
@[simp] theorem Zem{t ts}:tstOr T (.cons t ts) S h=(tst T t S h).bnd fun c h1=>if c then .ok true h1 else tstOr T ts S h1:=rfl
@[simp] theorem Zke:tsto T none S h=.ok true h:=rfl
@[simp] theorem Zr1{t}:tsto T (some t) S h=tst T t S h:=rfl
@[simp] theorem ZmC{e}:evi T (.pl e) S h=(ev T e S h).bnd fun x h1=>R.ofO (ZaD x h1) h1:=rfl
@[simp] theorem ZoO{e}:evi T (.rng e) S h=(ev T e S h).bnd fun x h1=>match x with
   | .int j=>if ZaJ j then .ok ⟨[],Zab 0 j.toNat⟩ h1 else .bad
   | _=>.bad:=rfl
@[simp] theorem ZuU{a b}:ev T (.rpn a b) S h=(ev T a S h).bnd fun x h1=>(shD x h1).bnd fun p h1=>(ev T b S h1).bnd fun y h2=>(shD y h2).bnd fun q h3=>.ok (.bl (!decide (p=q))) h3:=rfl
@[simp] theorem ZoQ{e}:evi T (.enu e) S h=(ev T e S h).bnd fun x h1=>R.ofO ((Zfn x h1).map fun w=>⟨w.src,Zb4 w.xs⟩) h1:=rfl
@[simp] theorem ZoP{e}:evi T (.rev e) S h=(ev T e S h).bnd fun x h1=>R.ofO ((Zi4 x h1).map fun w=>⟨w.src,w.xs.reverse⟩) h1:=rfl
@[simp] theorem Znb{e}:xs1 T (.ret e) S h=(ev T e S h).bnd fun x h1=>.ok (.rt x,S) h1:=rfl
@[simp] theorem ZfK{g e}:xs1 T (.set g e) S h=(ev T e S h).bnd fun x h1=>(R.ofO (ZaX g x S) h1).bnd fun ρ1 h2=>.ok (.nx,ρ1) h2:=rfl
@[simp] theorem ZfL{o i e}:xs1 T (.put o i e) S h=(ev T e S h).bnd fun x h1=>(ev T o S h1).bnd fun y h2=>(ev T i S h2).bnd fun z h3=>(ZaQ y z x h3).bnd fun _ h4=>.ok (.nx,S) h4:=rfl
@[simp] theorem Zi1{e}:xs1 T (.drp e) S h=(ev T e S h).bnd fun _ h1=>.ok (.nx,S) h1:=rfl
@[simp] theorem Zi0{c a b}:xs1 T (.iff c a b) S h=(tst T c S h).bnd fun t h1=>if t then xs2 T a S h1 else xs2 T b S h1:=rfl
@[simp] theorem ZtX{c b}:xs1 T (.whl c b) S h=ZP (tst T c) (xs2 T b) T.L S h:=rfl
@[simp] theorem ZkV{g it b}:xs1 T (.forr g it b) S h=(evi T it S h).bnd fun w h1=>ZG w.src g (xs2 T b) w.xs S h1:=rfl
@[simp] theorem ZtW:xs2 T .nil S h=.ok (.nx,S) h:=rfl
@[simp] theorem Zek{s r}:xs2 T (.cons s r) S h=(xs1 T s S h).bnd fun p h1=>match p with
   | (.nx,ρ1)=>xs2 T r ρ1 h1
   | p=>.ok p h1:=rfl
theorem Za(e:xs1 T s S h=.ok (.nx,ρ1) h1):xs2 T (.cons s r) S h=xs2 T r ρ1 h1:=by rw [Zek,e];rfl
theorem Zc(e:xs1 T s S h=.ok (.rt d,ρ1) h1):xs2 T (.cons s r) S h=.ok (.rt d,ρ1) h1:=by rw [Zek,e];rfl
@[simp] theorem Zt5{i d}:ZaX (.nm i) d S=some (S.set i (some d)):=rfl
@[simp] theorem ZmV{i j a b}:ZaX (.two i j) (.tup [a,b]) S=some ((S.set i (some a)).set j (some b)):=rfl
@[simp] theorem Zuv:Zt (.ok (.rt d,S) h)=.ok d h:=rfl
@[simp] theorem Zuw:Zt (.ok (.nx,S) h)=.ok .non h:=rfl
end
@[simp] theorem Zfv:seqOf (.tup xs) h=some xs:=rfl
@[simp] theorem Zs4:Zf2 f (.int i) (.int j) h=.ok (.bl (f i j)) h:=rfl
section
variable {GD:Str->Option (List (Key×D))}{h:Hd}
@[simp] theorem Zin{x y}:opC GD .Eq x y h=ZaR false x y h:=rfl
@[simp] theorem Zim{x y}:opC GD .NotEq x y h=ZaR true x y h:=rfl
@[simp] theorem ZuJ{i j}:opC GD .Lt (.int i) (.int j) h=.ok (.bl (decide (i<j))) h:=rfl
@[simp] theorem ZuK{i j}:opC GD .LtE (.int i) (.int j) h=.ok (.bl (decide (i<=j))) h:=rfl
@[simp] theorem ZuL{i j}:opC GD .Gt (.int i) (.int j) h=.ok (.bl (decide (j<i))) h:=rfl
@[simp] theorem ZuM{i j}:opC GD .GtE (.int i) (.int j) h=.ok (.bl (decide (j<=i))) h:=rfl
@[simp] theorem ZlY{x}:opC GD .Is x .non h=.ok (.bl (decide (x=.non))) h:=rfl
@[simp] theorem Zs6{x}:opC GD .IsNot x .non h=.ok (.bl (!decide (x=.non))) h:=rfl
@[simp] theorem Zf3{s n}:opC GD .NotIn (.str s) (.kd n) h=match GD n with
   | some kvs=>.ok (.bl (!(ZX kvs (.inr s)).isSome)) h
   | none=>.bad:=by
 show Zaj GD true (.str s) (.kd n) h=_;unfold Zaj;simp only [seqOf,lstOf,dicOf,keyOf];cases GD n<;>rfl
theorem ZbF(ss:List Str):(ss.map D.str).all D.flat=true:=by
 rw [OC];intro x hx;obtain ⟨s,_,rfl⟩:=List.mem_map.mp hx;rfl
theorem any_words(ss:List Str)(x:Str):((ss.map D.str).any fun z=>eqF z (.str x))=decide (x∈ss):=by
 induction ss with
 | nil=>rfl
 | cons s r ih =>
   rw [Op,List.any_cons,ih];show ((s==x) || decide (x∈r))=_;by_cases e:s=x
   . subst e;simp
   . have:(s==x)=false:=by simpa using e
     rw [this];have e':¬ x=s:=fun q=>e q.symm;simp [e']
theorem Zf4{ss:List Str}{x:Str}:opC GD .In (.str x) (.tup (ss.map .str)) h=.ok (.bl (decide (x∈ss))) h:=by
 show Zaj GD false (.str x) (.tup (ss.map .str)) h=_;unfold Zaj;rw [Zfv];simp only [ZbF,any_words];rfl
theorem ZbO{ss:List Str}{x:Str}:opC GD .NotIn (.str x) (.tup (ss.map .str)) h=.ok (.bl (!decide (x∈ss))) h:=by
 show Zaj GD true (.str x) (.tup (ss.map .str)) h=_;unfold Zaj;rw [Zfv];simp only [ZbF,any_words];rfl
@[simp] theorem ZlU{xs i}:ZaE GD (.tup xs) (.int i) h=R.ofO (atI xs i) h:=rfl
@[simp] theorem Zod{xs i}:ZaE GD (.ro xs) (.int i) h=R.ofO (atI xs i) h:=rfl
@[simp] theorem Zof{n s}:ZaE GD (.kd n) (.str s) h=match GD n with
   | some kvs=>R.ofO (ZX kvs (.inr s)) h
   | none=>.bad:=rfl
theorem ZB{i k xs}(e:h[i]? = some (.lst xs)):ZaE GD (.ref i) (.int k) h=R.ofO (atI xs k) h:=by
 unfold ZaE;simp only [seqOf,lstOf,e]
@[simp] theorem ZtQ{α:Type}{x:α}{l:List α}:atI (x::l) 0=some x:=by simp [atI,ixN]
theorem Z2{α:Type}{l:List α}{k:Nat}:atI l (k:Int)=l[k]? := by
 unfold atI ixN;by_cases hk:k<l.length
 . simp [hk]
 . simp [hk]
@[simp] theorem Zvj{α:Type}{x y:α}{l:List α}:atI (x::y::l) 1=some y:=Z2 (k:=1)
@[simp] theorem Zvi{α:Type}{x y z:α}{l:List α}:atI (x::y::z::l) 2=some z:=Z2 (k:=2)
@[simp] theorem Zvh{α:Type}{x y z w:α}{l:List α}:atI (x::y::z::w::l) 3=some w:=Z2 (k:=3)
theorem Zm4{α:Type}{l:List α}{x:α}:atI (l++[x]) (-1)=some x:=by
 unfold atI ixN;rw [if_neg (by decide),if_pos (by simp;lia)];have:(-1+((l++[x]).length:Int)).toNat=l.length:=by simp;lia
 simp only [Option.bind_some,this];simp
@[simp] theorem Zez{xs l u}:Zg5 (.tup xs) l u h=.ok (.tup (cutD xs l u)) h:=rfl
@[simp] theorem ZtZ{b}:Zdr GD (.bl b) h=some b:=rfl
@[simp] theorem Zsn{i}:Zdr GD (.int i) h=some (i != 0):=rfl
@[simp] theorem Zsl{xs}:Zdr GD (.tup xs) h=some (!xs.isEmpty):=rfl
@[simp] theorem Zsm:Zdr GD .non h=some false:=rfl
@[simp] theorem Zoj{i j}:opB .Add (.int i) (.int j) h=.ok (.int (i+j)) h:=rfl
@[simp] theorem Zt0{i j}:opB .Sub (.int i) (.int j) h=.ok (.int (i - j)) h:=rfl
theorem ZH(hj:0<j):opB .Mod (.int i) (.int j) h=.ok (.int (i % j)) h:=if_pos hj
theorem Zac(hj:0<j/\j<1073741824):opB .FloorDiv (.int i) (.int j) h=.ok (.int (i / j)) h:=if_pos hj
theorem Zef(hj:i.natAbs<2 ^ 2000/\j.natAbs<2 ^ 2000):opB .Mult (.int i) (.int j) h=.ok (.int (i * j)) h:=if_pos hj
theorem Zee(hl:xs.length+ys.length<=sizeLine):opB .Add (.tup xs) (.tup ys) h=.ok (.tup (xs++ys)) h:=if_pos hl
@[simp] theorem ZlV:ZaR n (.str x) (.str y) h=.ok (.bl (if n then !decide (x=y) else decide (x=y))) h:=by
 have e:PyData.eqv (.str x) (.str y)=decide (x=y):=by
   show (x==y)=_;rw [Bool.beq_eq_decide_eq]
 have q:ZaR n (.str x) (.str y) h=if min (PyData.str x).depth (PyData.str y).depth<=1100 then .ok (.bl (if n then !PyData.eqv (.str x) (.str y) else PyData.eqv (.str x) (.str y))) h else .bad:=rfl;rw [q,if_pos (by simp [PyData.depth]),e]
@[simp] theorem ZlW:ZaR n (.int x) (.int y) h=.ok (.bl (if n then !decide (x=y) else decide (x=y))) h:=by
 have e:PyData.eqv (.int x) (.int y)=decide (x=y):=by
   show (x==y)=_;rw [Bool.beq_eq_decide_eq]
 have q:ZaR n (.int x) (.int y) h=if min (PyData.int x).depth (PyData.int y).depth<=1100 then .ok (.bl (if n then !PyData.eqv (.int x) (.int y) else PyData.eqv (.int x) (.int y))) h else .bad:=rfl;rw [q,if_pos (by simp [PyData.depth]),e]
end
theorem Zj(e:P.tb.lookup f=some fd)(hl:ds.length=fd.ps.length):run P (n+1) f ds h=Zt (xs2 ⟨P.G,P.GD,run P n,P.L⟩ fd.body (ZL fd.N ds) h):=by
 rw [run,show P.look f=some fd by unfold Pg.look;rw [e]];simp only;rw [if_pos hl]
theorem ZfU(hn:P.tb.lookup f=none)(e:P.ms.lookup f=some fd)(hl:ds.length=fd.ps.length):run P (n+1) f ds h=Zt (xs2 ⟨P.G,P.GD,run P n,P.L⟩ fd.body (ZL fd.N ds) h):=by
 rw [run,show P.look f=some fd by unfold Pg.look;rw [hn];exact e];simp only;rw [if_pos hl]
end IV
namespace IV
open PySem L2
section
variable {h:Hd}{x y z w:DO}{r:List DO}
@[simp] theorem ZgI:(h++x::r)[h.length]? = some x:=by simp
end
@[simp] theorem Zoo:Zbs o h=.ok (.ref h.length) (h++[o]):=rfl
section
variable {h:Hd}
theorem ZaS(e:h[i]? = some (.lst ys))(hz:ys.length<sizeLine):ZaI .app (.ref i) [d] h=.ok .non (h.set i (.lst (ys++[d]))):=by
 simp only [ZaI,e,Zff,ZqW];rw [if_pos hz]
theorem Zhd(e:h[i]? = some (.lst (ys++[d]))):ZaI .pop (.ref i) [] h=.ok d (h.set i (.lst ys)):=by
 simp only [ZaI,e,Zff,ZqV];simp
theorem Zcr(e:h[i]? = some (.lst ys)):ZcE (.ref i) h=true:=by simp [ZcE,e]
theorem Znl(e:h[i]? = some (.lst ys)):Zdr GD (.ref i) h=some (!ys.isEmpty):=by simp [Zdr,e]
@[simp] theorem Zty:ZG [] g body [] S h=.ok (.nx,S) h:=rfl
theorem ZdC:ZG [] g body (d::ds) S h=match ZaX g d S with
     | none=>.bad
     | some ρ1=>(body ρ1 h).bnd fun p h2=>match p with
       | (.nx,ρ2)=>ZG [] g body ds ρ2 h2
       | (.ct,ρ2)=>ZG [] g body ds ρ2 h2
       | (.bk,ρ2)=>.ok (.nx,ρ2) h2
       | (.rt d,ρ2)=>.ok (.rt d,ρ2) h2:=rfl
theorem Zx:Zq src g test elt (d::ds) S acc h=if Wk.stays src h/\acc.length<sizeLine then match ZaX g d S with
     | none=>.bad
     | some ρ1=>(test ρ1 h).plain.bnd fun b h1=>if b then (elt ρ1 h1).plain.bnd fun x h2=>Zq src g test elt ds S (acc++[x]) h2 else Zq src g test elt ds S acc h1
   else .bad:=rfl
theorem ZbS:ZP test body (n+1) S h=(test S h).bnd fun b h1=>if b then (body S h1).bnd fun p h2=>match p with
     | (.nx,ρ2)=>ZP test body n ρ2 h2
     | (.ct,ρ2)=>ZP test body n ρ2 h2
     | (.bk,ρ2)=>.ok (.nx,ρ2) h2
     | (.rt d,ρ2)=>.ok (.rt d,ρ2) h2
   else .ok (.nx,S) h1:=rfl
end
inductive Wd where
 | add|sub|mul|lt
 deriving DecidableEq
noncomputable def Wd.s:Wd->Str
 | .add=>O "+"
 | .sub=>O "-"
 | .mul=>O "*"
 | .lt=>O "<"
inductive T where
 | num (n:Int)|name (x:Str)|fn (x:Str) (e:T)|rcc (f x:Str) (e:T)|call (f a:T)|iff (c t e:T)|op (w:Wd) (a b:T)
noncomputable def T.d:T->D
 | .num n=>.tup [.str (O "num"),.int n]
 | .name x=>.tup [.str (O "name"),.str x]
 | .fn x e=>.tup [.str (O "fn"),.str x,e.d]
 | .rcc f x e=>.tup [.str (O "rec"),.str f,.str x,e.d]
 | .call f a=>.tup [.str (O "call"),f.d,a.d]
 | .iff c t e=>.tup [.str (O "if"),c.d,t.d,e.d]
 | .op w a b=>.tup [.str w.s,a.d,b.d]
noncomputable def T.parts:T->List T
 | .num _|.name _=>[]
 | .fn _ e|.rcc _ _ e=>[e]
 | .call f a=>[f,a]
 | .iff c t e=>[c,t,e]
 | .op _ a b=>[a,b]
noncomputable def T.places:T->List T
 | .num n=>[.num n]
 | .name x=>[.name x]
 | .fn x e=>.fn x e::e.places
 | .rcc f x e=>.rcc f x e::e.places
 | .call f a=>.call f a::(f.places++a.places)
 | .iff c t e=>.iff c t e::(c.places++(t.places++e.places))
 | .op w a b=>.op w a b::(a.places++b.places)
noncomputable def T.size(t:T):Nat:=t.places.length
theorem T.places_parts(t:T):t.places=t::t.parts.flatMap T.places:=by
 cases t<;>simp [T.places,T.parts]
end IV
end
section
namespace IV
open PySem L2
section
variable {U:Tb}{S:Ev}{h h1:Hd}{f:Str}{as:List D}{r:R D}
noncomputable abbrev Tb.say(U:Tb)(r:R D):Tb:=⟨U.G,U.GD,fun _ _ _=>r,U.L⟩
theorem Zah(e:U.C f as h1=r)(q:xs1 U s S h=xs1 (U.say (U.C f as h1)) s S h)(z:xs1 (U.say r) s S h=y):xs1 U s S h=y:=by rw [q,e,z]
theorem Zy(e:tst U c S h=.ok true h1):xs1 U (.iff c a b) S h=xs2 U a S h1:=by rw [Zi0,e];rfl
theorem Zu(e:tst U c S h=.ok false h1):xs1 U (.iff c a b) S h=xs2 U b S h1:=by rw [Zi0,e];rfl
theorem ZD(q:ev U e S h=.ok d h1):xs1 U (.ret e) S h=.ok (.rt d,S) h1:=by rw [Znb,q];rfl
theorem Zl(q:ev U e S h=.ok d h1):xs1 U (.set (.nm i) e) S h=.ok (.nx,S.set i (some d)) h1:=by rw [ZfK,q];rfl
theorem ZcU(q:evi U it S h=.ok w h1):xs1 U (.forr g it b) S h=ZG w.src g (xs2 U b) w.xs S h1:=by rw [ZkV,q];rfl
theorem Zg(p:ev U a S h=.ok x h1)(q:ev U b S h1=.ok y h2):ev U (.bin op a b) S h=opB op x y h2:=by rw [ZmF,p];simp only [Zr,q]
theorem Zv(p:ev U a S h=.ok x h1)(q:ev U b S h1=.ok y h2):ev U (.cmp op a b) S h=opC U.GD op x y h2:=by rw [Zrz,p];simp only [Zr,q]
theorem Zbu(q:ev U e S h=.ok (.bl b) h1):tst U (.ex e) S h=.ok b h1:=by rw [Zk6,q];rfl
theorem Zm{b c:Bool}{y:R Bool}(q:y=.ok b h1)(e:b=c):y=.ok c h1:=e ▸ q
noncomputable def hdS:Sxs->Sx
 | .cons s _=>s
 | .nil=>.pas
noncomputable def tlS:Sxs->Sxs
 | .cons _ r=>r
 | .nil=>.nil
theorem rt1(e:xs1 U (hdS ss) S h=.ok (.rt d,ρ1) h2)(hs:ss=.cons (hdS ss) (tlS ss)):Zt (xs2 U ss S h)=.ok d h2:=by rw [hs,Zc e];rfl
theorem nx1(e:xs1 U (hdS ss) S h=.ok (.nx,ρ1) h2)(hs:ss=.cons (hdS ss) (tlS ss)):xs2 U ss S h=xs2 U (tlS ss) ρ1 h2:=by rw [hs,Za e];rfl
theorem Zb(p:ev U a S h=.ok x h1)(q:evs U es S h1=.ok xs h2):evs U (.cons a es) S h=.ok (x::xs) h2:=by rw [ZeU,p,Zr,q];rfl
theorem ZrA(p:evs U es S h=.ok xs h1):ev U (.call g es) S h=U.C g xs h1:=by rw [Zgi,p];rfl
theorem ZfF(a:atI xs z=some d)(p:evs U es S h=.ok xs h)(q:ev U e S (h++[.lst xs])=.ok (.int z) (h++[.lst xs]))(hz:xs.length<=1000):ev U (.ix (.lstl es) e) S h=.ok d (h++[.lst xs]):=by
 rw [Zhu,ZjM,p,Zr,if_pos (OE hz (by decide)),Zoo,Zr,q,Zr,ZB (xs:=xs) (by simp),a];rfl
theorem ZC(e:U.C g xs h1=y)(p:evs U es S h=.ok xs h1):ev U (.call g es) S h=y:=(ZrA p).trans e
theorem ZaF(p:evs U es S h=.ok xs h1)(hz:xs.length<=1000):ev U (.tupl es) S h=.ok (.tup xs) h1:=by rw [ZoR,p,Zr,if_pos (OE hz (by decide))]
theorem ZuP(p:ev U e S h=.ok x h1)(n:x≠.non):tst U (.ex (.cmp .Is e (.cst .non))) S h=.ok false h1:=Zbu ((Zv p rfl).trans (by rw [ZlY,decide_eq_false n]))
theorem Zts(p:ev U e S h=.ok .non h1):tst U (.ex (.cmp .Is e (.cst .non))) S h=.ok true h1:=Zbu ((Zv p rfl).trans (by rw [ZlY,decide_eq_true rfl]))
theorem ZaM(p:ev U a S h=.ok (.str x) h1)(q:ev U b S h1=.ok (.str y) h2):tst U (.ex (.cmp .Eq a b)) S h=.ok (decide (x=y)) h2:=Zbu ((Zv p q).trans (by rw [Zin,ZlV];rfl))
theorem Zdf(p:ev U a S h=.ok (.int x) h1)(q:ev U b S h1=.ok (.int y) h2):tst U (.ex (.cmp .Eq a b)) S h=.ok (decide (x=y)) h2:=Zbu ((Zv p q).trans (by rw [Zin,ZlW];rfl))
theorem ZJ(p:ev U a S h=.ok x h1)(q:ev U b S h1=.ok y h2):ev U (.ix a b) S h=ZaE U.GD x y h2:=by rw [Zhu,p,Zr,q,Zr]
theorem Zj5(p:tst U a S h=.ok true h1)(q:tst U b S h1=.ok c h2):tst U (.ands (.cons a (.one b))) S h=.ok c h2:=by rw [ZgO,ZdN,p];exact q
theorem Zm8(p:tst U a S h=.ok false h1):tst U (.ands (.cons a (.one b))) S h=.ok false h1:=by rw [ZgO,ZdN,p];rfl
theorem ZqF(p:tst U a S h=.ok true h1):tst U (.ors (.cons a (.one b))) S h=.ok true h1:=by rw [Zi6,Zem,p];rfl
theorem Zg4(p:tst U a S h=.ok false h1)(q:tst U b S h1=.ok c h2):tst U (.ors (.cons a (.one b))) S h=.ok c h2:=by rw [Zi6,Zem,p];exact q
theorem ZmU(A:Tb->β)(e:U.C f as h1=r)(q:A U=A (U.say (U.C f as h1)))(z:A (U.say r)=y):A U=y:=by rw [q,e,z]
end
end IV
end
section
set_option tactic.hygienic false
namespace Gn
open PySem L2 IV
noncomputable def ZaY:Sxs:=(.cons (.iff (.ex (.cmp .NotIn (.ix (.var 0) (.cst (.int 0))) (.glo (O "FORMS")))) (.cons (.ret (.tupl .nil)) .nil) .nil) (.cons (.ret (.sl (.var 0) (some (.bin .Add (.cst (.int 1)) (.ix (.ix (.glo (O "FORMS")) (.ix (.var 0) (.cst (.int 0)))) (.cst (.int 0))))) none)) .nil))
noncomputable def ZeP:Fd:=⟨[(O "E")],[(O "E")],ZaY⟩
noncomputable def ZdX:Sxs:=(.cons (.set (.nm 2) (.bin .Add (.bin .Pow (.cst (.int 10)) (.cst (.int 30))) (.cst (.int 57)))) (.cons (.set (.nm 3) (.bin .Mult (.bin .Mod (.var 0) (.var 2)) (.cst (.int 271828182845904523536028747135)))) (.cons (.set (.nm 3) (.bin .Add (.var 3) (.bin .Mult (.bin .Mult (.var 1) (.var 1)) (.cst (.int 314159265358979323846264338327))))) (.cons (.ret (.bin .Mod (.bin .Add (.var 3) (.cst (.int 577215664901532860606512090082))) (.var 2))) .nil))))
noncomputable def Zb2:Fd:=⟨[(O "_law_cell"),(O "_law_k")],[(O "_law_cell"),(O "_law_k"),(O "_law_big"),(O "_law_number_here")],ZdX⟩
noncomputable def ZcW:Sxs:=(.cons (.set (.nm 1) (.ix (.var 0) (.cst (.int 1)))) (.cons (.put (.var 0) (.cst (.int 1)) (.bin .Add (.var 1) (.cst (.int 1)))) (.cons (.iff (.ex (.cmp .Lt (.var 1) (.blt .len (.cons (.ix (.var 0) (.cst (.int 0))) .nil)))) (.cons (.ret (.ix (.ix (.var 0) (.cst (.int 0))) (.var 1))) .nil) .nil) (.cons (.ret (.call (O "_law_mixed") (.cons (.var 1) (.cons (.cst (.int 7)) .nil)))) .nil))))
noncomputable def ZeQ:Fd:=⟨[(O "_law_state")],[(O "_law_state"),(O "_law_at")],ZcW⟩
noncomputable def ZdW:Sxs:=(.cons (.set (.nm 1) (.cst (.str (O "abcdefghijklmnopqrstuvwxyz")))) (.cons (.set (.nm 2) (.bin .Add (.cst (.int 1)) (.bin .Mod (.var 0) (.cst (.int 8))))) (.cons (.set (.nm 3) (.bin .Mod (.bin .FloorDiv (.var 0) (.cst (.int 8))) (.var 2))) (.cons (.set (.nm 4) (.bin .FloorDiv (.var 0) (.cst (.int 64)))) (.cons (.set (.nm 5) (.cst (.str (O "")))) (.cons (.forr (.nm 6) (.rng (.cst (.int 8))) (.cons (.set (.nm 5) (.bin .Add (.var 5) (.ix (.var 1) (.bin .Mod (.var 4) (.cst (.int 26)))))) (.cons (.set (.nm 4) (.bin .FloorDiv (.var 4) (.cst (.int 26)))) .nil))) (.cons (.set (.nm 7) (.lstl .nil)) (.cons (.forr (.nm 6) (.rng (.cst (.int 5))) (.cons (.set (.nm 8) (.ix (.var 1) (.bin .Mod (.bin .Add (.var 4) (.bin .Mult (.cst (.int 5)) (.var 6))) (.cst (.int 26))))) (.cons (.set (.nm 9) (.bin .Add (.bin .Add (.sl (.var 5) none (some (.var 3))) (.var 8)) (.sl (.var 5) (some (.bin .Add (.var 3) (.cst (.int 1)))) (some (.var 2))))) (.cons (.iff (.ex (.cmp .Eq (.bin .Mod (.bin .FloorDiv (.var 4) (.cst (.int 26))) (.cst (.int 4))) (.cst (.int 1)))) (.cons (.set (.nm 9) (.sl (.var 5) none (some (.bin .Sub (.cst (.int 8)) (.var 6))))) .nil) .nil) (.cons (.iff (.ex (.cmp .In (.var 9) (.tupl (.cons (.cst (.str (O "fn"))) (.cons (.cst (.str (O "rec"))) (.cons (.cst (.str (O "call"))) (.cons (.cst (.str (O "if"))) .nil))))))) (.cons (.set (.nm 9) (.bin .Mult (.cst (.str (O "q"))) (.blt .len (.cons (.var 9) .nil)))) .nil) .nil) (.cons (.drp (.meth .app (.var 7) (.cons (.var 9) .nil))) .nil)))))) (.cons (.ret (.var 7)) .nil)))))))))
noncomputable def Zb1:Fd:=⟨[(O "_law_number_here")],[(O "_law_number_here"),(O "_law_letters"),(O "_law_long"),(O "_law_place"),(O "_law_rest"),(O "_law_base"),(O "_law_k"),(O "_law_found"),(O "_law_sign"),(O "_law_word")],ZdW⟩
noncomputable def ZdV:Sxs:=(.cons (.set (.nm 2) (.dictl .nil)) (.cons (.forr (.two 3 4) (.pl (.var 0)) (.cons (.put (.var 2) (.var 3) (.var 4)) .nil)) (.cons (.ret (.comp [(O "_law_name"),(O "_law_wish"),(O "_law_known")] [none,some 1,some 2] (.pl (.blt .srt (.cons (.var 2) .nil))) (.nm 0) (some (.ex (.cmp .Eq (.ix (.var 2) (.var 0)) (.var 1)))) (.var 0))) .nil)))
noncomputable def Zb0:Fd:=⟨[(O "_law_scope"),(O "_law_wish")],[(O "_law_scope"),(O "_law_wish"),(O "_law_known"),(O "_law_name"),(O "_law_held")],ZdV⟩
noncomputable def Z8:Sxs:=(.cons (.iff (.ex (.cmp .Eq (.var 0) (.cst (.str (O "n"))))) (.cons (.ret (.tupl (.cons (.cst (.str (O "num"))) (.cons (.ix (.lstl (.cons (.cst (.int 0)) (.cons (.cst (.int 1)) (.cons (.cst (.int 2)) (.cons (.bin .Mod (.bin .FloorDiv (.var 1) (.cst (.int 7))) (.cst (.int 1000000))) .nil))))) (.bin .Mod (.var 1) (.cst (.int 4)))) .nil)))) .nil) .nil) (.cons (.iff (.ex (.cmp .Eq (.var 0) (.cst (.str (O "f"))))) (.cons (.ret (.tupl (.cons (.cst (.str (O "fn"))) (.cons (.cst (.str (O "w"))) (.cons (.tupl (.cons (.cst (.str (O "-"))) (.cons (.tupl (.cons (.cst (.str (O "name"))) (.cons (.cst (.str (O "w"))) .nil))) (.cons (.tupl (.cons (.cst (.str (O "num"))) (.cons (.bin .Mod (.var 1) (.cst (.int 3))) .nil))) .nil)))) .nil))))) .nil) .nil) (.cons (.ret (.tupl (.cons (.cst (.str (O "fn"))) (.cons (.cst (.str (O "w"))) (.cons (.tupl (.cons (.cst (.str (O "call"))) (.cons (.tupl (.cons (.cst (.str (O "name"))) (.cons (.cst (.str (O "w"))) .nil))) (.cons (.tupl (.cons (.cst (.str (O "num"))) (.cons (.bin .Mod (.var 1) (.cst (.int 5))) .nil))) .nil)))) .nil))))) .nil)))
noncomputable def ZdS:Fd:=⟨[(O "_law_wish"),(O "_law_number_here")],[(O "_law_wish"),(O "_law_number_here")],Z8⟩
noncomputable def Zap:Sx:=(.set (.nm 6) (.ix (.var 4) (.bin .Mod (.var 1) (.cst (.int 5)))))
noncomputable def ZW:Sx:=(.iff (.ex (.cmp .Eq (.var 0) (.cst (.str (O "g"))))) (.cons (.ret (.tupl (.cons (.cst (.str (O "fn"))) (.cons (.var 6) (.cons (.call (O "_law_any") (.cons (.cst (.str (O "n"))) (.cons (.bin .Add (.var 2) (.lstl (.cons (.tupl (.cons (.var 6) (.cons (.cst (.str (O "f"))) .nil))) .nil))) (.cons (.var 3) (.cons (.var 4) (.cons (.var 5) .nil)))))) .nil))))) .nil) .nil)
noncomputable def ZV:Sx:=(.iff (.ex (.cmp .Eq (.bin .Mod (.bin .FloorDiv (.var 1) (.cst (.int 5))) (.cst (.int 3))) (.cst (.int 0)))) (.cons (.ret (.tupl (.cons (.cst (.str (O "fn"))) (.cons (.var 6) (.cons (.call (O "_law_any") (.cons (.cst (.str (O "n"))) (.cons (.bin .Add (.var 2) (.lstl (.cons (.tupl (.cons (.var 6) (.cons (.cst (.str (O "n"))) .nil))) .nil))) (.cons (.var 3) (.cons (.var 4) (.cons (.var 5) .nil)))))) .nil))))) .nil) .nil)
noncomputable def Zao:Sx:=(.set (.nm 7) (.ix (.var 4) (.bin .Mod (.bin .Add (.bin .Add (.bin .Mod (.var 1) (.cst (.int 5))) (.cst (.int 1))) (.bin .Mod (.bin .FloorDiv (.var 1) (.cst (.int 15))) (.cst (.int 4)))) (.cst (.int 5)))))
noncomputable def Zan:Sx:=(.set (.nm 8) (.bin .Add (.var 2) (.lstl (.cons (.tupl (.cons (.var 7) (.cons (.cst (.str (O "f"))) .nil))) (.cons (.tupl (.cons (.var 6) (.cons (.cst (.str (O "n"))) .nil))) .nil)))))
noncomputable def Zam:Sx:=(.set (.nm 9) (.tupl (.cons (.cst (.str (O "call"))) (.cons (.tupl (.cons (.cst (.str (O "name"))) (.cons (.var 7) .nil))) (.cons (.tupl (.cons (.cst (.str (O "-"))) (.cons (.tupl (.cons (.cst (.str (O "name"))) (.cons (.var 6) .nil))) (.cons (.tupl (.cons (.cst (.str (O "num"))) (.cons (.cst (.int 1)) .nil))) .nil)))) .nil)))))
noncomputable def ZU:Sx:=(.iff (.ex (.cmp .Eq (.bin .Mod (.bin .FloorDiv (.var 1) (.cst (.int 60))) (.cst (.int 3))) (.cst (.int 0)))) (.cons (.set (.nm 9) (.call (O "_law_any") (.cons (.cst (.str (O "n"))) (.cons (.var 8) (.cons (.var 3) (.cons (.var 4) (.cons (.var 5) .nil))))))) .nil) (.cons (.iff (.ex (.cmp .Eq (.bin .Mod (.bin .FloorDiv (.var 1) (.cst (.int 60))) (.cst (.int 3))) (.cst (.int 1)))) (.cons (.set (.nm 9) (.tupl (.cons (.ix (.lstl (.cons (.cst (.str (O "+"))) (.cons (.cst (.str (O "*"))) .nil))) (.bin .Mod (.bin .FloorDiv (.var 1) (.cst (.int 180))) (.cst (.int 2)))) (.cons (.call (O "_law_any") (.cons (.cst (.str (O "n"))) (.cons (.var 8) (.cons (.var 3) (.cons (.var 4) (.cons (.bin .Sub (.var 5) (.cst (.int 1))) .nil)))))) (.cons (.var 9) .nil))))) .nil) .nil) .nil))
noncomputable def ZT:Sx:=(.ret (.tupl (.cons (.cst (.str (O "rec"))) (.cons (.var 7) (.cons (.var 6) (.cons (.tupl (.cons (.cst (.str (O "if"))) (.cons (.tupl (.cons (.cst (.str (O "name"))) (.cons (.var 6) .nil))) (.cons (.var 9) (.cons (.call (O "_law_any") (.cons (.cst (.str (O "n"))) (.cons (.var 8) (.cons (.var 3) (.cons (.var 4) (.cons (.bin .Sub (.var 5) (.cst (.int 1))) .nil)))))) .nil))))) .nil))))))
noncomputable def Ze9:Sxs:=(.cons Zap (.cons ZW (.cons ZV (.cons Zao (.cons Zan (.cons Zam (.cons ZU (.cons ZT .nil))))))))
noncomputable def Zb3:Fd:=⟨[(O "_law_wish"),(O "_law_rest"),(O "_law_scope"),(O "_law_state"),(O "_law_names_here"),(O "_law_room")],[(O "_law_wish"),(O "_law_rest"),(O "_law_scope"),(O "_law_state"),(O "_law_names_here"),(O "_law_room"),(O "_law_x"),(O "_law_f"),(O "_law_inner"),(O "_law_again")],Ze9⟩
noncomputable def Zce:Sx:=(.set (.nm 5) (.bin .Mod (.var 0) (.cst (.int 6))))
noncomputable def Za0:Sx:=(.iff (.ex (.cmp .Eq (.var 5) (.cst (.int 0)))) (.cons (.ret (.call (O "_law_plain") (.cons (.cst (.str (O "n"))) (.cons (.bin .FloorDiv (.var 0) (.cst (.int 6))) .nil)))) .nil) .nil)
noncomputable def ZaZ:Sx:=(.iff (.ex (.cmp .Lt (.var 5) (.cst (.int 3)))) (.cons (.set (.nm 6) (.call (O "_law_any") (.cons (.cst (.str (O "n"))) (.cons (.var 1) (.cons (.var 2) (.cons (.var 3) (.cons (.var 4) .nil))))))) (.cons (.ret (.tupl (.cons (.ix (.lstl (.cons (.cst (.str (O "+"))) (.cons (.cst (.str (O "-"))) (.cons (.cst (.str (O "*"))) (.cons (.cst (.str (O "<"))) .nil))))) (.bin .Mod (.bin .FloorDiv (.var 0) (.cst (.int 6))) (.cst (.int 4)))) (.cons (.var 6) (.cons (.call (O "_law_any") (.cons (.cst (.str (O "n"))) (.cons (.var 1) (.cons (.var 2) (.cons (.var 3) (.cons (.var 4) .nil)))))) .nil))))) .nil)) .nil)
noncomputable def Zcd:Sx:=(.set (.nm 7) (.ix (.lstl (.cons (.cst (.str (O "f"))) (.cons (.cst (.str (O "f"))) (.cons (.cst (.str (O "g"))) .nil)))) (.bin .Sub (.var 5) (.cst (.int 3)))))
noncomputable def Zcc:Sx:=(.set (.nm 8) (.call (O "_law_any") (.cons (.var 7) (.cons (.var 1) (.cons (.var 2) (.cons (.var 3) (.cons (.var 4) .nil)))))))
noncomputable def Zcb:Sx:=(.ret (.tupl (.cons (.cst (.str (O "call"))) (.cons (.var 8) (.cons (.call (O "_law_any") (.cons (.ix (.dictl (.cons (.cst (.str (O "f"))) (.cons (.cst (.str (O "n"))) (.cons (.cst (.str (O "g"))) (.cons (.cst (.str (O "f"))) .nil))))) (.var 7)) (.cons (.var 1) (.cons (.var 2) (.cons (.var 3) (.cons (.var 4) .nil)))))) .nil)))))
noncomputable def ZbL:Sxs:=(.cons Zce (.cons Za0 (.cons ZaZ (.cons Zcd (.cons Zcc (.cons Zcb .nil))))))
noncomputable def Zdc:Fd:=⟨[(O "_law_rest"),(O "_law_scope"),(O "_law_state"),(O "_law_names_here"),(O "_law_room")],[(O "_law_rest"),(O "_law_scope"),(O "_law_state"),(O "_law_names_here"),(O "_law_room"),(O "_law_way"),(O "_law_one"),(O "_law_wish"),(O "_law_fun")],ZbL⟩
noncomputable def ZaB:Sx:=(.put (.var 2) (.cst (.int 2)) (.bin .Sub (.ix (.var 2) (.cst (.int 2))) (.cst (.int 1))))
noncomputable def Zbm:Sx:=(.set (.nm 5) (.call (O "_law_next") (.cons (.var 2) .nil)))
noncomputable def ZaA:Sx:=(.iff (.ex (.cmp .Eq (.bin .Mod (.var 5) (.cst (.int 29))) (.cst (.int 0)))) (.cons (.set (.nm 0) (.ix (.lstl (.cons (.cst (.str (O "n"))) (.cons (.cst (.str (O "f"))) (.cons (.cst (.str (O "g"))) .nil)))) (.bin .Mod (.bin .FloorDiv (.var 5) (.cst (.int 29))) (.cst (.int 3))))) .nil) .nil)
noncomputable def Zbl:Sx:=(.set (.nm 6) (.bin .FloorDiv (.var 5) (.cst (.int 87))))
noncomputable def Zaz:Sx:=(.set (.nm 7) (.call (O "_law_there") (.cons (.var 1) (.cons (.var 0) .nil))))
noncomputable def Zay:Sx:=(.iff (.ands (.cons (.ex (.cmp .NotEq (.var 7) (.lstl .nil))) (.one (.ex (.cmp .Eq (.bin .Mod (.var 6) (.cst (.int 3))) (.cst (.int 0))))))) (.cons (.ret (.tupl (.cons (.cst (.str (O "name"))) (.cons (.ix (.var 7) (.bin .Mod (.bin .FloorDiv (.var 6) (.cst (.int 3))) (.blt .len (.cons (.var 7) .nil)))) .nil)))) .nil) .nil)
noncomputable def Z9:Sx:=(.iff (.ors (.cons (.ex (.cmp .Lt (.var 4) (.cst (.int 1)))) (.one (.ex (.cmp .Lt (.ix (.var 2) (.cst (.int 2))) (.cst (.int 0))))))) (.cons (.ret (.call (O "_law_plain") (.cons (.var 0) (.cons (.bin .FloorDiv (.var 6) (.cst (.int 3))) .nil)))) .nil) .nil)
noncomputable def Zbk:Sx:=(.set (.nm 6) (.bin .FloorDiv (.var 6) (.cst (.int 30))))
noncomputable def Zax:Sx:=(.iff (.ex (.cmp .Eq (.bin .Mod (.var 6) (.cst (.int 8))) (.cst (.int 0)))) (.cons (.set (.nm 8) (.call (O "_law_any") (.cons (.cst (.str (O "n"))) (.cons (.var 1) (.cons (.var 2) (.cons (.var 3) (.cons (.bin .Sub (.var 4) (.cst (.int 1))) .nil))))))) (.cons (.set (.nm 9) (.call (O "_law_any") (.cons (.var 0) (.cons (.var 1) (.cons (.var 2) (.cons (.var 3) (.cons (.bin .Sub (.var 4) (.cst (.int 1))) .nil))))))) (.cons (.ret (.tupl (.cons (.cst (.str (O "if"))) (.cons (.var 8) (.cons (.var 9) (.cons (.call (O "_law_any") (.cons (.var 0) (.cons (.var 1) (.cons (.var 2) (.cons (.var 3) (.cons (.bin .Sub (.var 4) (.cst (.int 1))) .nil)))))) .nil)))))) .nil))) .nil)
noncomputable def Zai:Sx:=(.iff (.ex (.cmp .Eq (.var 0) (.cst (.str (O "n"))))) (.cons (.ret (.call (O "_law_number") (.cons (.bin .FloorDiv (.var 6) (.cst (.int 8))) (.cons (.var 1) (.cons (.var 2) (.cons (.var 3) (.cons (.bin .Sub (.var 4) (.cst (.int 1))) .nil))))))) .nil) .nil)
noncomputable def ZaN:Sx:=(.ret (.call (O "_law_function") (.cons (.var 0) (.cons (.bin .FloorDiv (.var 6) (.cst (.int 8))) (.cons (.var 1) (.cons (.var 2) (.cons (.var 3) (.cons (.bin .Sub (.var 4) (.cst (.int 1))) .nil))))))))
noncomputable def ZkS:Sxs:=(.cons ZaB (.cons Zbm (.cons ZaA (.cons Zbl (.cons Zaz (.cons Zay (.cons Z9 (.cons Zbk (.cons Zax (.cons Zai (.cons ZaN .nil)))))))))))
noncomputable def Zcs:Fd:=⟨[(O "_law_wish"),(O "_law_scope"),(O "_law_state"),(O "_law_names_here"),(O "_law_room")],[(O "_law_wish"),(O "_law_scope"),(O "_law_state"),(O "_law_names_here"),(O "_law_room"),(O "_law_number_here"),(O "_law_rest"),(O "_law_there_here"),(O "_law_asked_of"),(O "_law_first")],ZkS⟩
noncomputable def Zb7:Sxs:=(.cons (.ret (.bin .Add (.cst (.int 1)) (.blt .sum (.cons (.comp [(O "_law_part")] [none] (.pl (.var 0)) (.nm 0) (some (.ex (.blt .isi (.cons (.var 0) (.cons (.cst (.ty "tuple")) .nil))))) (.call (O "_law_width") (.cons (.var 0) .nil))) .nil)))) .nil)
noncomputable def Zbb:Fd:=⟨[(O "_law_told")],[(O "_law_told")],Zb7⟩
noncomputable def ZbC:List (Key×D):=[(.inr (O "fn"),.tup [.int 1,.int 1]),(.inr (O "rec"),.tup [.int 2,.int 1]),(.inr (O "call"),.tup [.int 0,.int 2]),(.inr (O "if"),.tup [.int 0,.int 3]),(.inr (O "+"),.tup [.int 0,.int 2]),(.inr (O "-"),.tup [.int 0,.int 2]),(.inr (O "*"),.tup [.int 0,.int 2]),(.inr (O "<"),.tup [.int 0,.int 2])]
structure Tre(P:Pg):Prop where
 parts:P.tb.lookup (O "parts_of")=some ZeP
 g:P.G (O "FORMS")=some (.kd (O "FORMS"))
 gd:P.GD (O "FORMS")=some ZbC
 big:1000000<=P.L
theorem Za8 (H:Tre P) (hU:U.G=P.G/\U.GD=P.GD) (q:ev U e S h=.ok (.str w) h) (f:ZX ZbC (.inr w)=x):tst U (.ex (.cmp .NotIn e (.glo (O "FORMS")))) S h=.ok (!x.isSome) h:=by
 have g:ev U (.glo (O "FORMS")) S h=.ok (.kd (O "FORMS")) h:=by
   rw [ZmE,hU.1,H.g];rfl
 refine Zbu ((Zv q g).trans ?_);rw [Zf3,hU.2,H.gd];simp only [f]
theorem ZjJ (H:Tre P) (hU:U.G=P.G/\U.GD=P.GD) (q:ev U e S h=.ok (.str w) h) (f:ZX ZbC (.inr w)=some x):ev U (.ix (.glo (O "FORMS")) e) S h=.ok x h:=by
 have g:ev U (.glo (O "FORMS")) S h=.ok (.kd (O "FORMS")) h:=by
   rw [ZmE,hU.1,H.g];rfl
 rw [Zhu,g,Zr,q,Zr,Zof,hU.2,H.gd];simp only [f];rfl
theorem ZcD:ev U (.ix (.var 0) (.cst (.int 0))) (some (.tup (.str w::ds))::S) h=.ok (.str w) h:=by
 show R.ofO (atI (D.str w::ds) 0) h=_;rw [ZtQ];rfl
theorem ZiH (H:Tre P) (hU:U.G=P.G/\U.GD=P.GD) (e:ZX ZbC (.inr w)=some (.tup [.int a,.int b])):ev U (.bin .Add (.cst (.int 1)) (.ix (.ix (.glo (O "FORMS")) (.ix (.var 0) (.cst (.int 0)))) (.cst (.int 0)))) [some (.tup (.str w::ds))] h=.ok (.int (1+a)) h:=by
 refine (Zg (x:=.int 1) (y:=.int a) rfl ?_).trans rfl;rw [Zhu,ZjJ H hU ZcD e];rfl
theorem Zgh(q:ev U e S h=.ok (.int l) h):evo U (some e) S h=.ok (some l) h:=by
 rw [ZmB,q];rfl
theorem Zfu(p:ev U a S h=.ok x h)(q:evo U lo S h=.ok l h)(r:evo U hi S h=.ok u h):ev U (.sl a lo hi) S h=Zg5 x l u h:=by
 simp only [ZtF,p,Zr,q,r]
theorem Zg2 (H:Tre P) (n:Nat) (h:Hd) (w:Str) (ds:List D) (e:ZX ZbC (.inr w)=none):run P (n+1) (O "parts_of") [.tup (.str w::ds)] h=.ok (.tup []) h:=by
 rw [Zj H.parts rfl];show Zt (xs2 (P.tbl n) ZaY [some (.tup (.str w::ds))] h)=_;rw [ZaY,Zc ((Zy (Za8 H ⟨rfl,rfl⟩ ZcD e)).trans (Zc (ZD (d:=.tup []) rfl)))];rfl
theorem ZbA (H:Tre P) (n:Nat) (h:Hd) (w:Str) (ds:List D) (a b:Int) (e:ZX ZbC (.inr w)=some (.tup [.int a,.int b])):run P (n+1) (O "parts_of") [.tup (.str w::ds)] h=.ok (.tup (cutD (.str w::ds) (some (1+a)) none)) h:=by
 rw [Zj H.parts rfl];show Zt (xs2 (P.tbl n) ZaY [some (.tup (.str w::ds))] h)=_;have q:=ZiH H (U:=P.tbl n) ⟨rfl,rfl⟩ (ds:=ds) (h:=h) e;have r:ev (P.tbl n) (.sl (.var 0) (some (.bin .Add (.cst (.int 1)) (.ix (.ix (.glo (O "FORMS")) (.ix (.var 0) (.cst (.int 0)))) (.cst (.int 0))))) none) [some (.tup (.str w::ds))] h=.ok (.tup (cutD (.str w::ds) (some (1+a)) none)) h:=by
   exact (Zfu (a:=.var 0) (x:=.tup (.str w::ds)) rfl (Zgh q) rfl).trans rfl
 rw [ZaY,Za ((Zu (Za8 H ⟨rfl,rfl⟩ ZcD e)).trans rfl),Zc (ZD r)];rfl
theorem Zjh (H:Tre P) (n:Nat) (t:T) (h:Hd):run P (n+1) (O "parts_of") [t.d] h=.ok (.tup (t.parts.map T.d)) h:=by
 cases t with
 | num z=>exact Zg2 H n h (O "num") _ rfl
 | name x=>exact Zg2 H n h (O "name") _ rfl
 | fn x e=>exact ZbA H n h (O "fn") _ 1 1 rfl
 | rcc f x e=>exact ZbA H n h (O "rec") _ 2 1 rfl
 | call f a=>exact ZbA H n h (O "call") _ 0 2 rfl
 | iff c a b=>exact ZbA H n h (O "if") _ 0 3 rfl
 | op w a b=>exact ZbA H n h w.s _ 0 2 (by cases w<;>rfl)
end Gn
end
section
namespace IV
open PySem L2
section
variable {U:Tb}{S:Ev}{h h1 h2 h3:Hd}
theorem ZeW(p:ev U o S h=.ok (.ref i) h1)(l:h1[i]? = some (.lst ys))(q:evs U es S h1=.ok xs h2)(e:ZaI m (.ref i) xs h2=r):ev U (.meth m o es) S h=r:=by rw [ZoS,p,Zr,Zcr l,if_pos rfl,q];exact e
theorem Zdg(q:ev U e S h=.ok d h1):xs1 U (.drp e) S h=.ok (.nx,S) h1:=by rw [Zi1,q];rfl
theorem ZpC(p:ev U o S h=.ok (.ref i) h1)(l:h1[i]? = some (.ins C fs))(f:fs.lookup m=none)(q:evs U es S h1=.ok xs h2)(e:U.C (mnm C m) (.ref i::xs) h2=r):ev U (.mcl C m o es) S h=r:=by
 rw [Zrv,p,Zr,show ZR (.ref i) h1=some (C,fs) by simp [ZR,l]];simp only [f,and_self,if_true,q];exact e
theorem ZeY(p:evi U it S h=.ok w h1)(q:Zq w.src g (tsto U c) (ev U e) w.xs (Zbd js S) [] h1=.ok xs h2):ev U (.comp NC js it g c e) S h=.ok (.ref h2.length) (h2++[.lst xs]):=by rw [Zei,p,Zr,q];rfl
theorem Zru(p:ev U e S h=.ok (.tup xs) h1):evi U (.rev e) S h=.ok ⟨[],xs.reverse⟩ h1:=by rw [ZoP,p];rfl
theorem ZeV(p:ev U e S h=.ok (.tup xs) h1):evi U (.pl e) S h=.ok ⟨[],xs⟩ h1:=by rw [ZmC,p];rfl
theorem ZeX(p:evs U es S h=.ok xs h1)(hz:xs.length<=1000):ev U (.lstl es) S h=.ok (.ref h1.length) (h1++[.lst xs]):=by rw [ZjM,p,Zr,if_pos (OE hz (by decide))];rfl
theorem Zgj(p:evs U es S h=.ok xs h1)(q:Za7 U.GD f xs h1=r):ev U (.blt f es) S h=r:=by rw [ZrB,p];exact q
theorem Ztp(e:h[i]? = some (.lst ys)):Za7 GD .len [.ref i] h=.ok (.int ys.length) h:=by simp only [Za7,Zm1,seqOf,lstOf,e];rfl
theorem Zsk(e:h[i]? = some (.lst ys)):Za7 GD .tup [.ref i] h=.ok (.tup ys) h:=by simp only [Za7,ZiW,lstOf,e];rfl
theorem Zi7(p:ev U e S h=.ok (.ref i) h1)(l:h1[i]? = some (.lst ys)):tst U (.ex e) S h=.ok (!ys.isEmpty) h1:=by rw [Zk6,p,Zr,Znl l];rfl
theorem ZfM(e:test S h=.ok true h1)(q:body S h1=.ok (.nx,ρ1) h2):ZP test body (n+1) S h=ZP test body n ρ1 h2:=by rw [ZbS,e,Zr,if_pos rfl,q];rfl
theorem Zi3(e:test S h=.ok false h1):ZP test body (n+1) S h=.ok (.nx,S) h1:=by rw [ZbS,e];rfl
theorem ZuR(p:ev U a S h=.ok (.int x) h1)(q:ev U b S h1=.ok (.int y) h2):tst U (.ex (.cmp .Gt a b)) S h=.ok (decide (y<x)) h2:=Zbu (Zv p q)
theorem Ztj(p:ev U a S h=.ok (.int x) h1)(q:ev U b S h1=.ok (.int y) h2):tst U (.ex (.cmp .Lt a b)) S h=.ok (decide (x<y)) h2:=Zbu (Zv p q)
theorem ZbZ(b:ZaX g d S=some ρ1)(q:body ρ1 h=.ok (.nx,ρ2) h2):ZG [] g body (d::ds) S h=ZG [] g body ds ρ2 h2:=by rw [ZdC,b];simp only;rw [q];rfl
theorem Zrq(b:ZaX g d S=some ρ1)(q:body ρ1 h=.ok (.rt x,ρ2) h2):ZG [] g body (d::ds) S h=.ok (.rt x,ρ2) h2:=by rw [ZdC,b];simp only;rw [q];rfl
variable {c:Str}
theorem ZgM(q:xs1 U s S h=.exc c h1):xs2 U (.cons s r) S h=.exc c h1:=by rw [xs2,q];rfl
theorem ZtL(q:ev U e S h=.exc c h1):xs1 U (.drp e) S h=.exc c h1:=by rw [Zi1,q];rfl
theorem ZsE(q:ev U e S h=.ok d h1):xs1 U (.rai c e) S h=.exc c h1:=by rw [xs1,q];rfl
theorem Znd(e:test S h=.ok true h1)(q:body S h1=.exc c h2):ZP test body (n+1) S h=.exc c h2:=by rw [ZbS,e,Zr,if_pos rfl,q];rfl
end
end IV
end
section
set_option tactic.hygienic false
set_option exponentiation.threshold 3000
namespace Gn
open PySem L2 IV
noncomputable def Up(i:Nat)(h h':Hd):Prop:=h.length<=h'.length/\∀ m,m<h.length->m≠i->h'[m]? = h[m]?
theorem Up.refl:Up i h h:=⟨Oq _,fun _ _ _=>rfl⟩
theorem Up.trans(x:Up i a b)(y:Up i b c):Up i a c :=
 ⟨OE x.1 y.1,fun m h1 h2=>(y.2 m (Ot h1 x.1) h2).trans (x.2 m h1 h2)⟩
theorem Up.set:Up i h (h.set i o):=⟨by simp,fun m _ h2=>by rw [Oc (Ne.symm h2)]⟩
theorem Up.app:Up i h (h++g):=⟨by simp,fun m h1 _=>Oe h1⟩
theorem Zi{h:Hd}(e:h[i]? = some o):i<h.length:=(Ob.mp e).1
theorem Up.at{i m:Nat}(u:Up i h h')(e:h[m]? = some o)(ne:m≠i):h'[m]? = some o:=(u.2 m (Zi e) ne).trans e
noncomputable def Alk(P:Pg)(f:Str)(fd:Fd):Prop:=∃ ps N,ps.length=fd.ps.length/\N.length=fd.N.length/\P.tb.lookup f=some ⟨ps,N,fd.body⟩
theorem Alk.same(e:P.tb.lookup f=some fd):Alk P f fd:=⟨fd.ps,fd.N,rfl,rfl,e⟩
theorem ZfV(e:Alk P f fd)(hl:ds.length=fd.ps.length):run P (n+1) f ds h=Zt (xs2 ⟨P.G,P.GD,run P n,P.L⟩ fd.body (ZL fd.N ds) h):=by
 obtain ⟨ps,N,h1,h2,e⟩:=e;rw [Zj e (hl.trans h1.symm)];unfold ZL;rw [h2]
structure Mk0(P:Pg):Prop where
 mixed:P.tb.lookup (O "_law_mixed")=some Zb2
 next:P.tb.lookup (O "_law_next")=some ZeQ
 names:P.tb.lookup (O "_law_names")=some Zb1
 there:P.tb.lookup (O "_law_there")=some Zb0
 plain:P.tb.lookup (O "_law_plain")=some ZdS
 function:Alk P (O "_law_function") Zb3
 number:Alk P (O "_law_number") Zdc
 any:Alk P (O "_law_any") Zcs
 width:P.tb.lookup (O "_law_width")=some Zbb
noncomputable def big:Int:=1000000000000000000000000000057
noncomputable def mixed(c k:Int):Int:=(c % big * 271828182845904523536028747135+k * k * 314159265358979323846264338327+577215664901532860606512090082) % big
theorem Z7(h:-(2 ^ 128)<i)(h2:i<2 ^ 128):i.natAbs<2 ^ 2000:=by
 have:i.natAbs<2 ^ 128:=by lia
 exact Ot this (Nat.pow_le_pow_right (by decide) (by decide))
theorem Zkh(hk:-(2 ^ 60)<k/\k<2 ^ 60):0<=k * k/\k * k<2 ^ 120:=by
 have a:k.natAbs<2 ^ 60:=by lia
 have b:k.natAbs * k.natAbs<2 ^ 60 * 2 ^ 60:=Nat.mul_lt_mul'' a a;have c2:((k.natAbs * k.natAbs:Nat):Int)=k * k:=Int.natAbs_mul_self;rw [<- c2];constructor
 . lia
 . have:((k.natAbs * k.natAbs:Nat):Int)<((2 ^ 60 * 2 ^ 60:Nat):Int):=Int.ofNat_lt.mpr b;exact this
theorem Zet (H:Mk0 P) (n:Nat) (c k:Int) (h:Hd) (hk:-(2 ^ 60)<k/\k<2 ^ 60):run P (n+1) (O "_law_mixed") [.int c,.int k] h=.ok (.int (mixed c k)) h:=by
 rw [Zj H.mixed rfl];have hp:opB .Pow (.int 10) (.int 30) h=.ok (.int 1000000000000000000000000000000) h:=by
   show (if (0:Int)<=30/\(30:Int)<=1000000/\(10:Int).natAbs<2 ^ 64 then R.ok (D.int (10 ^ (30:Int).toNat)) h else R.bad)=_;rw [if_pos (by decide)];rfl
 have h1:0<=c % 1000000000000000000000000000057/\c % 1000000000000000000000000000057<1000000000000000000000000000057:=⟨Int.emod_nonneg _ (by decide),Int.emod_lt_of_pos _ (by decide)⟩
 have hkk:=Zkh hk;have e1:opB .Mod (.int c) (.int 1000000000000000000000000000057) h=.ok (.int (c % 1000000000000000000000000000057)) h:=ZH (by decide);have e2:opB .Mult (.int (c % 1000000000000000000000000000057)) (.int 271828182845904523536028747135) h=.ok (.int (c % 1000000000000000000000000000057 * 271828182845904523536028747135)) h:=Zef ⟨Z7 (by lia) (by lia),Z7 (by decide) (by decide)⟩;have e3:opB .Mult (.int k) (.int k) h=.ok (.int (k * k)) h:=Zef ⟨Z7 (by lia) (by lia),Z7 (by lia) (by lia)⟩;have e4:opB .Mult (.int (k * k)) (.int 314159265358979323846264338327) h=.ok (.int (k * k * 314159265358979323846264338327)) h:=Zef ⟨Z7 (by lia) (by lia),Z7 (by decide) (by decide)⟩;have e5:opB .Mod (.int (c % 1000000000000000000000000000057 * 271828182845904523536028747135+k * k * 314159265358979323846264338327+577215664901532860606512090082)) (.int 1000000000000000000000000000057) h=.ok (.int (mixed c k)) h:=ZH (by decide);simp [Zb2,ZdX,ZL,hp,e1,e2,e3,e4,e5]
noncomputable def St3(h:Hd)(i j:Nat)(cs:List Int)(at' b:Int):Prop:=h[i]? = some (.lst [.ref j,.int at',.int b])/\h[j]? = some (.lst (cs.map .int))/\i≠j
theorem Zls {P:Pg} (H:Mk0 P) (n:Nat) (st:St3 h i j cs a b) (ha:0<=a/\a<2 ^ 50):∃ v,run P (n+2) (O "_law_next") [.ref i] h=.ok (.int v) (h.set i (.lst [.ref j,.int (a+1),.int b]))/\(v∈cs\/v=mixed a 7):=by
 obtain ⟨h1,h2,ne⟩:=st;rw [Zj H.next (by rfl)];have i1:=Zi h1;have i2:(h.set i (.lst [.ref j,.int (a+1),.int b]))[i]? = some (.lst [.ref j,.int (a+1),.int b]):=by rw [Ol i1]
 have i3:(h.set i (.lst [.ref j,.int (a+1),.int b]))[j]? = some (.lst (cs.map .int)):=by rw [Oc ne];exact h2
 have hput:ZaQ (.ref i) (.int 1) (.int (a+1)) h=.ok () (h.set i (.lst [.ref j,.int (a+1),.int b])):=by
   simp only [ZaQ,h1];rfl
 have x1:xs1 (P.tbl (n+1)) (.set (.nm 1) (.ix (.var 0) (.cst (.int 1)))) [some (.ref i),none] h=.ok (.nx,[some (.ref i),some (.int a)]) h:=Zl ((ZJ rfl rfl).trans ((ZB h1).trans rfl));have x2:xs1 (P.tbl (n+1)) (.put (.var 0) (.cst (.int 1)) (.bin .Add (.var 1) (.cst (.int 1)))) [some (.ref i),some (.int a)] h=.ok (.nx,[some (.ref i),some (.int a)]) (h.set i (.lst [.ref j,.int (a+1),.int b])):=by
   rw [ZfL];show (ZaQ (.ref i) (.int 1) (.int (a+1)) h).bnd _=_;rw [hput];rfl
 generalize h.set i (.lst [.ref j,.int (a+1),.int b])=h' at *;have e0:ev (P.tbl (n+1)) (.ix (.var 0) (.cst (.int 0))) [some (.ref i),some (.int a)] h'=.ok (.ref j) h':=(ZJ rfl rfl).trans ((ZB i2).trans rfl);have tt:tst (P.tbl (n+1)) (.ex (.cmp .Lt (.var 1) (.blt .len (.cons (.ix (.var 0) (.cst (.int 0))) .nil)))) [some (.ref i),some (.int a)] h'=.ok (decide (a<(cs.map D.int).length)) h':=Ztj rfl (Zgj (Zb e0 rfl) (Ztp i3));rw [List.length_map] at tt;have x3:xs2 (P.tbl (n+1)) ZcW [some (.ref i),none] h=xs2 (P.tbl (n+1)) (tlS (tlS ZcW)) [some (.ref i),some (.int a)] h':=(nx1 x1 rfl).trans (nx1 x2 rfl);by_cases hc:a<cs.length
 . obtain ⟨k,rfl⟩:∃ k:Nat,a=k:=⟨a.toNat,by lia⟩
   have hk:k<cs.length:=by lia
   have hat:atI (cs.map D.int) (k:Int)=some (.int cs[k]):=by rw [IV.Z2,On,Og hk];rfl
   exact ⟨cs[k],(congrArg Zt x3).trans (rt1 ((Zy (Zm tt (decide_eq_true hc))).trans (Zc (ZD ((ZJ e0 rfl).trans ((ZB i3).trans (by rw [hat];rfl)))))) rfl),.inl (List.getElem_mem hk)⟩
 . exact ⟨mixed a 7,(congrArg Zt (x3.trans (nx1 ((Zu (Zm tt (decide_eq_false hc))).trans rfl) rfl))).trans (rt1 (ZD (ZC (Zet H n a 7 _ (by decide)) rfl)) rfl),.inr rfl⟩
noncomputable def Wl(n:Nat)(x:Str):Prop:=PyData.strOk x=true/\x.length<=n
noncomputable def Cl:List Str->T->Prop
 | _,.num n=>0<=n/\n<1000000
 | sc,.name x=>x∈sc
 | sc,.fn x e=>Cl (x::sc) e/\Wl 20 x
 | sc,.rcc f x e=>Cl (x::f::sc) e/\f≠x/\Wl 20 f/\Wl 20 x
 | sc,.call f a=>Cl sc f/\Cl sc a
 | sc,.iff c t e=>Cl sc c/\Cl sc t/\Cl sc e
 | sc,.op _ a b=>Cl sc a/\Cl sc b
noncomputable def dep:T->Nat
 | .num _|.name _=>0
 | .fn _ e|.rcc _ _ e=>dep e+1
 | .call f a=>max (dep f) (dep a)+1
 | .iff c t e=>max (dep c) (max (dep t) (dep e))+1
 | .op _ a b=>max (dep a) (dep b)+1
noncomputable def fw:T->Int
 | .num _|.name _=>-1
 | .fn _ e|.rcc _ _ e=>fw e+3
 | .call f a=>fw f+fw a - 1
 | .iff c t e=>fw c+fw t+fw e - 1
 | .op _ a b=>fw a+fw b - 1
noncomputable def nb:T->Nat
 | .num _|.name _=>0
 | .fn _ e=>nb e+1
 | .rcc _ _ e=>nb e+2
 | .call f a=>max (nb f) (nb a)
 | .iff c t e=>max (nb c) (max (nb t) (nb e))
 | .op _ a b=>max (nb a) (nb b)
theorem at4(k:Int)(h0:0<=k)(h4:k<4):∃ v,atI [D.int a,.int b,.int c,.int d] k=some (.int v)/\(v=a\/v=b\/v=c\/v=d):=by
 have:k=0\/k=1\/k=2\/k=3:=by lia
 rcases this with rfl|rfl|rfl|rfl
 . exact ⟨a,by simp,.inl rfl⟩
 . exact ⟨b,by simp,.inr (.inl rfl)⟩
 . exact ⟨c,by simp,.inr (.inr (.inl rfl))⟩
 . exact ⟨d,by simp,.inr (.inr (.inr rfl))⟩
theorem Zec (H:Mk0 P) (n:Nat) (w:Str) (v:Int) (h:Hd) (sc:List Str):∃ t g,run P (n+1) (O "_law_plain") [.str w,.int v] h=.ok (T.d t) (h++g)/\Cl sc t/\(nb t<=dep t/\dep t<=2)/\t.size<=4/\fw t<=0:=by
 rw [Zj H.plain (by rfl)];by_cases w1:w=O "n"
 . obtain ⟨u,e,hu⟩:=at4 (a:=0) (b:=1) (c:=2) (d:=v / 7 % 1000000) (v % 4) (by lia) (by lia);refine ⟨.num u,[.lst [.int 0,.int 1,.int 2,.int (v / 7 % 1000000)]],?_,by show 0<=u/\u<1000000;lia,⟨Oq _,by show 0<=2;lia⟩,by show 1<=4;lia,by show (-1:Int)<=0;decide⟩;exact rt1 (U:=P.tbl n) (ss:=Z8) ((Zy (Zm (ZaM rfl rfl) (decide_eq_true w1))).trans (Zc (ZD (ZaF (Zb rfl (Zb (ZfF e (Zb rfl (Zb rfl (Zb rfl (Zb ((Zg (x:=.int (v / 7)) ((Zg rfl rfl).trans (Zac (by decide))) rfl).trans (ZH (by decide))) rfl)))) ((Zg rfl rfl).trans (ZH (by decide))) (Nat.le_of_ble_eq_true rfl)) rfl)) (Nat.le_of_ble_eq_true rfl))))) rfl
 . have x1:xs2 (P.tbl n) Z8 [some (.str w),some (.int v)] h=xs2 (P.tbl n) (tlS Z8) [some (.str w),some (.int v)] h:=nx1 ((Zu (Zm (ZaM rfl rfl) (decide_eq_false w1))).trans rfl) rfl;by_cases w2:w=O "f"
   . refine ⟨.fn (O "w") (.op .sub (.name (O "w")) (.num (v % 3))),[],?_,?_,by simp only [dep,nb];lia,by show 4<=4;lia,by simp only [fw];lia⟩
     . rw [List.append_nil];exact (congrArg Zt x1).trans (rt1 (U:=P.tbl n) (ss:=tlS Z8) ((Zy (Zm (ZaM rfl rfl) (decide_eq_true w2))).trans (Zc (ZD (ZaF (Zb rfl (Zb rfl (Zb (ZaF (Zb rfl (Zb rfl (Zb (ZaF (Zb rfl (Zb ((Zg rfl rfl).trans (ZH (by decide))) rfl)) (Nat.le_of_ble_eq_true rfl)) rfl))) (Nat.le_of_ble_eq_true rfl)) rfl))) (Nat.le_of_ble_eq_true rfl))))) rfl)
     . exact ⟨⟨Oi,by show 0<=v % 3/\v % 3<1000000;lia⟩,by unfold Wl;decide +kernel⟩
   . refine ⟨.fn (O "w") (.call (.name (O "w")) (.num (v % 5))),[],?_,?_,by simp only [dep,nb];lia,by show 4<=4;lia,by simp only [fw];lia⟩
     . rw [List.append_nil];exact (congrArg Zt (x1.trans (nx1 ((Zu (Zm (ZaM rfl rfl) (decide_eq_false w2))).trans rfl) rfl))).trans (rt1 (U:=P.tbl n) (ss:=tlS (tlS Z8)) (ZD (ZaF (Zb rfl (Zb rfl (Zb (ZaF (Zb rfl (Zb rfl (Zb (ZaF (Zb rfl (Zb ((Zg rfl rfl).trans (ZH (by decide))) rfl)) (Nat.le_of_ble_eq_true rfl)) rfl))) (Nat.le_of_ble_eq_true rfl)) rfl))) (Nat.le_of_ble_eq_true rfl))) rfl)
     . exact ⟨⟨Oi,by show 0<=v % 5/\v % 5<1000000;lia⟩,by unfold Wl;decide +kernel⟩
noncomputable def ZA:Str:=O "abcdefghijklmnopqrstuvwxyz"
theorem Zhe:ZA.length=26:=by decide +kernel
theorem Ziw:PyData.strOk ZA=true:=by decide +kernel
noncomputable def ltr(k:Int):Nat:=ZA.cps.toList.getD k.toNat 0
noncomputable def lt1(k:Int):Str:=⟨#[ltr k]⟩
theorem Zix(k:Int)(h0:0<=k)(h1:k<26):ZaE GD (.str ZA) (.int k) h=.ok (.str (lt1 k)) h/\Wl 1 (lt1 k):=by
 obtain ⟨m,rfl⟩:∃ m:Nat,k=m:=⟨k.toNat,by lia⟩
 have hl:ZA.cps.toList.length=26:=by decide +kernel
 have hm:m<ZA.cps.toList.length:=by lia
 have el:ltr m=ZA.cps.toList[m]:=by
   show ZA.cps.toList.getD (m:Int).toNat 0=_;rw [Int.toNat_natCast,List.getD_eq_getElem?_getD,Og hm];rfl
 have e:atI ZA.cps.toList (m:Int)=some ZA.cps.toList[m]:=by rw [IV.Z2,Og hm]
 unfold lt1;rw [el];refine ⟨?_,Zl2 Ziw (List.getElem_mem hm),by show (#[ZA.cps.toList[m]]:Array Nat).size<=1;simp⟩;have q:ZaE GD (.str ZA) (.int (m:Int)) h=if ZA.length<=sizeLine then R.ofO ((atI ZA.cps.toList (m:Int)).map fun c=>.str ⟨#[c]⟩) h else .bad:=rfl;rw [q,if_pos (by rw [Zhe,sizeLine_eq];decide),e];rfl
theorem len_cat{x y:Str}:(x++y).length=x.length+y.length:=by
 show (x.cps++y.cps).size=_;rw [Array.size_append];rfl
theorem Zdh{x y:Str}(hx:Wl a x)(hy:Wl b y)(hz:a+b<=1000):opB .Add (.str x) (.str y) h=.ok (.str (x++y)) h/\Wl (a+b) (x++y):=by
 have hl:(x++y).length=x.length+y.length:=len_cat;refine ⟨if_pos (by rw [sizeLine_eq];have:=hx.2;have:=hy.2;lia),Zfw hx.1 hy.1,by rw [hl];have:=hx.2;have:=hy.2;lia⟩
theorem Zmh{U:Tb}:∀ (ks:List Int) (r:Int) (x:Str) (m:Nat) (k:Option D),Wl m x->x.length=m->m+ks.length<=100->∃ r' x' k',Wl (m+ks.length) x'/\x'.length=m+ks.length /\
   ZG [] (.nm 6) (xs2 U (.cons (.set (.nm 5) (.bin .Add (.var 5) (.ix (.var 1) (.bin .Mod (.var 4) (.cst (.int 26)))))) (.cons (.set (.nm 4) (.bin .FloorDiv (.var 4) (.cst (.int 26)))) .nil))) (ks.map D.int) [a,some (.str ZA),l,p,some (.int r),some (.str x),k,f,sg,wd] h
     = .ok (.nx,[a,some (.str ZA),l,p,some (.int r'),some (.str x'),k',f,sg,wd]) h
 | [],r,x,m,k,hx,hn,hm=>⟨r,x,k,hx,hn,rfl⟩
 | c::cs,r,x,m,k,hx,hn,hm=>by
   obtain ⟨e1,hy⟩:=Zix (GD:=U.GD) (h:=h) (r % 26) (by lia) (by lia);obtain ⟨e2,hxy⟩:=Zdh (h:=h) hx hy (by simp at hm;lia);obtain ⟨r',x',k',h1,h2,e3⟩:=Zmh (U:=U) (h:=h) (a:=a) (l:=l) (p:=p) (f:=f) (sg:=sg) (wd:=wd) cs (r / 26) (x++lt1 (r % 26)) (m+1) (some (.int c)) hxy (by rw [len_cat,hn];rfl) (by simp at hm ⊢;lia);have hcl:m+(c::cs).length=m+1+cs.length:=by rw [Os];lia
   refine ⟨r',x',k',by rw [hcl];exact h1,by rw [hcl];exact h2,?_⟩;have e4:opB .Mod (.int r) (.int 26) h=.ok (.int (r % 26)) h:=ZH (by decide);have e5:opB .FloorDiv (.int r) (.int 26) h=.ok (.int (r / 26)) h:=Zac (by decide);rw [Op,ZdC];simp [e4,e1,e2,e5,e3]
theorem Zp8(x:Str)(l u:Option Int):(StrLaws.sliceText x l u).length<=x.length:=by
 unfold StrLaws.sliceText;split
 . exact Oq _
 . show ((Builtin.Str.strSliceIndices l u 1 x.length).filterMap (x.cps[·]?)).toArray.size<=_;rw [Of];refine OE (List.length_filterMap_le _ _) ?_;unfold Builtin.Str.strSliceIndices;refine PySem.sliceRange_length_le _ _ _ _ (fun _=>?_) (fun z=>absurd (by decide) z);cases l<;>cases u<;>simp<;>lia
theorem Zcm(hx:Wl m x)(hm:m<=1000)(l u:Option Int):Zg5 (.str x) l u h=.ok (.str (StrLaws.sliceText x l u)) h/\Wl m (StrLaws.sliceText x l u):=by
 refine ⟨if_pos (by rw [sizeLine_eq];have:=hx.2;lia),Zl0 hx.1 (Zer _ _ _),?_⟩;have:=hx.2;have q:(StrLaws.sliceText x l u).length<=x.length:=Zp8 x l u
 lia
theorem in4:opC GD .In (.str x) (.tup [.str (O "fn"),.str (O "rec"),.str (O "call"),.str (O "if")]) h=.ok (.bl (decide (x∈[O "fn",O "rec",O "call",O "if"]))) h :=
 Zf4 (ss:=[O "fn",O "rec",O "call",O "if"])
theorem len_str(hx:Wl m x)(hm:m<=1000):Za7 GD .len [.str x] h=.ok (.int x.length) h:=by
 show (if x.length<=sizeLine then _ else _)=_;exact if_pos (by rw [sizeLine_eq];have:=hx.2;lia)
theorem Zpr (hx:Wl m x) (hm:m<=1000):opB .Mult (.str (O "q")) (.int x.length) h=.ok (.str (Zdt (O "q") x.length)) h/\Wl m (Zdt (O "q") x.length):=by
 have hq:(O "q").length=1:=by decide +kernel
 have:=hx.2;refine ⟨if_pos ⟨by lia,by lia,by rw [hq];decide⟩,Zl1 (by decide +kernel) _,?_⟩;rw [Zc5,hq]
 lia
noncomputable def nmW(b:Str)(l p r c:Int):Str:=if r / 26 % 4=1 then StrLaws.sliceText b none (some (8 - c)) else StrLaws.sliceText b none (some p)++lt1 ((r+5 * c) % 26)++StrLaws.sliceText b (some (p+1)) (some l)
noncomputable def nmQ (w:Str):Str:=if w∈[O "fn",O "rec",O "call",O "if"] then Zdt (O "q") w.length else w
noncomputable def nm(b:Str)(l p r c:Int):Str:=nmQ (nmW b l p r c)
theorem Zl4(hb:Wl 8 b)(l p r c:Int):Wl 20 (nmW b l p r c):=by
 unfold nmW;split
 . have q:=(Zcm (h:=[]) hb (by decide) none (some (8 - c))).2;exact ⟨q.1,by have:=q.2;lia⟩
 . have q1:=(Zcm (h:=[]) hb (by decide) none (some p)).2;have q2:=(Zix (GD:=fun _=>none) (h:=[]) ((r+5 * c) % 26) (by lia) (by lia)).2;have q3:=(Zcm (h:=[]) hb (by decide) (some (p+1)) (some l)).2;have q:=(Zdh (h:=[]) (Zdh (h:=[]) q1 q2 (by decide)).2 q3 (by decide)).2;exact ⟨q.1,by have:=q.2;lia⟩
theorem Zs9(hb:Wl 8 b)(l p r c:Int):Wl 20 (nm b l p r c):=by
 unfold nm nmQ;split
 . exact (Zpr (h:=[]) (Zl4 hb l p r c) (by decide)).2
 . exact Zl4 hb l p r c
noncomputable def Zq3:Sx:=.set (.nm 8) (.ix (.var 1) (.bin .Mod (.bin .Add (.var 4) (.bin .Mult (.cst (.int 5)) (.var 6))) (.cst (.int 26))))
noncomputable def Zq2:Sx:=.set (.nm 9) (.bin .Add (.bin .Add (.sl (.var 5) none (some (.var 3))) (.var 8)) (.sl (.var 5) (some (.bin .Add (.var 3) (.cst (.int 1)))) (some (.var 2))))
noncomputable def ZqY:Tx:=.ex (.cmp .Eq (.bin .Mod (.bin .FloorDiv (.var 4) (.cst (.int 26))) (.cst (.int 4))) (.cst (.int 1)))
noncomputable def Ztl:Sx:=.set (.nm 9) (.sl (.var 5) none (some (.bin .Sub (.cst (.int 8)) (.var 6))))
noncomputable def ZqX:Exs:=(.cons (.cst (.str (O "fn"))) (.cons (.cst (.str (O "rec"))) (.cons (.cst (.str (O "call"))) (.cons (.cst (.str (O "if"))) .nil))))
noncomputable def Ztm:Sx:=.set (.nm 9) (.bin .Mult (.cst (.str (O "q"))) (.blt .len (.cons (.var 9) .nil)))
noncomputable def Zq0:Sx:=.drp (.meth .app (.var 7) (.cons (.var 9) .nil))
noncomputable def ZqZ:Sxs:=.cons (.iff (.ex (.cmp .In (.var 9) (.tupl ZqX))) (.cons Ztm .nil) .nil) (.cons Zq0 .nil)
noncomputable def Zq1:Sxs:=.cons Zq3 (.cons Zq2 (.cons (.iff ZqY (.cons Ztl .nil) .nil) ZqZ))
noncomputable def vn(a:Option D)(l p r:Int)(b:Str)(q:Nat)(k sg wd:Option D):Ev:=[a,some (.str ZA),some (.int l),some (.int p),some (.int r),some (.str b),k,some (.ref q),sg,wd]
theorem Zmd(hw:Wl 20 wd)(hz:ds.length<16777216):xs2 U ZqZ (vn a l p r b h.length k sg (some (.str wd))) (h++[.lst ds])=.ok (.nx,vn a l p r b h.length k sg (some (.str (nmQ wd)))) (h++[.lst (ds++[.str (nmQ wd)])]):=by
 have ap:∀ w:Str,xs1 U Zq0 (vn a l p r b h.length k sg (some (.str w))) (h++[.lst ds])=.ok (.nx,vn a l p r b h.length k sg (some (.str w))) (h++[.lst (ds++[.str w])]):=fun w=>by
   have e:=Zdg (ZeW (U:=U) (S:=vn a l p r b h.length k sg (some (.str w))) (o:=.var 7) (es:=.cons (.var 9) .nil) rfl ZgI rfl (ZaS (d:=.str w) (ZgI (h:=h) (x:=.lst ds) (r:=[])) (by rw [sizeLine_eq];exact hz)));rw [show (h++[DO.lst ds]).set h.length (.lst (ds++[.str w]))=h++[.lst (ds++[.str w])] by simp] at e;exact e
 have i4:tst U (.ex (.cmp .In (.var 9) (.tupl ZqX))) (vn a l p r b h.length k sg (some (.str wd))) (h++[.lst ds])=.ok (decide (wd∈[O "fn",O "rec",O "call",O "if"])) (h++[.lst ds]):=Zbu ((Zv (x:=.str wd) rfl (ZaF (xs:=[.str (O "fn"),.str (O "rec"),.str (O "call"),.str (O "if")]) rfl (by decide))).trans in4);unfold nmQ;by_cases hin:wd∈[O "fn",O "rec",O "call",O "if"]
 . rw [if_pos hin];exact (Za ((Zy (Zm i4 (decide_eq_true hin))).trans ((Za (Zl ((Zg rfl (Zgj rfl (len_str hw (by decide)))).trans (Zpr hw (by decide)).1))).trans rfl))).trans ((Za (ap _)).trans rfl)
 . rw [if_neg hin];exact (Za ((Zu (Zm i4 (decide_eq_false hin))).trans rfl)).trans ((Za (ap _)).trans rfl)
theorem Ztn(hb:Wl 8 b)(hc:0<=c/\c<100)(hz:ds.length<16777216):xs2 U Zq1 (vn a l p r b h.length (some (.int c)) sg wd) (h++[.lst ds])=.ok (.nx,vn a l p r b h.length (some (.int c)) (some (.str (lt1 ((r+5 * c) % 26)))) (some (.str (nm b l p r c)))) (h++[.lst (ds++[.str (nm b l p r c)])]):=by
 obtain ⟨e1,hy⟩:=Zix (GD:=U.GD) (h:=h++[.lst ds]) ((r+5 * c) % 26) (by lia) (by lia);obtain ⟨f1,w1⟩:=Zcm (h:=h++[.lst ds]) hb (by decide) none (some p);obtain ⟨f2,w2⟩:=Zcm (h:=h++[.lst ds]) hb (by decide) (some (p+1)) (some l);obtain ⟨f3,w3⟩:=Zcm (h:=h++[.lst ds]) hb (by decide) none (some (8 - c));obtain ⟨c1,v1⟩:=Zdh (h:=h++[.lst ds]) w1 hy (by decide);obtain ⟨c2,v2⟩:=Zdh (h:=h++[.lst ds]) v1 w2 (by decide);have m5:opB .Mult (.int 5) (.int c) (h++[.lst ds])=.ok (.int (5 * c)) (h++[.lst ds]):=Zef ⟨Z7 (by decide) (by decide),Z7 (by lia) (by lia)⟩;unfold nm nmW;generalize lt1 ((r+5 * c) % 26)=y at *;have x8:xs1 U Zq3 (vn a l p r b h.length (some (.int c)) sg wd) (h++[.lst ds])=.ok (.nx,vn a l p r b h.length (some (.int c)) (some (.str y)) wd) (h++[.lst ds]):=Zl ((ZJ (x:=.str ZA) rfl ((Zg (x:=.int (r+5 * c)) ((Zg rfl ((Zg rfl rfl).trans m5)).trans rfl) rfl).trans (ZH (by decide)))).trans e1);have g1:ev U (.sl (.var 5) none (some (.var 3))) (vn a l p r b h.length (some (.int c)) (some (.str y)) wd) (h++[.lst ds])=.ok (.str (StrLaws.sliceText b none (some p))) (h++[.lst ds]):=f1;have g2:ev U (.sl (.var 5) (some (.bin .Add (.var 3) (.cst (.int 1)))) (some (.var 2))) (vn a l p r b h.length (some (.int c)) (some (.str y)) wd) (h++[.lst ds])=.ok (.str (StrLaws.sliceText b (some (p+1)) (some l))) (h++[.lst ds]):=f2;have g3:∀ w,ev U (.sl (.var 5) none (some (.bin .Sub (.cst (.int 8)) (.var 6)))) (vn a l p r b h.length (some (.int c)) (some (.str y)) w) (h++[.lst ds])=.ok (.str (StrLaws.sliceText b none (some (8 - c)))) (h++[.lst ds]):=fun _=>f3;have x9:xs1 U Zq2 (vn a l p r b h.length (some (.int c)) (some (.str y)) wd) (h++[.lst ds])=.ok (.nx,vn a l p r b h.length (some (.int c)) (some (.str y)) (some (.str (StrLaws.sliceText b none (some p)++y++StrLaws.sliceText b (some (p+1)) (some l))))) (h++[.lst ds]):=Zl ((Zg ((Zg g1 rfl).trans c1) g2).trans c2);have tt:tst U ZqY (vn a l p r b h.length (some (.int c)) (some (.str y)) (some (.str (StrLaws.sliceText b none (some p)++y++StrLaws.sliceText b (some (p+1)) (some l))))) (h++[.lst ds])=.ok (decide (r / 26 % 4=1)) (h++[.lst ds]):=Zdf ((Zg (x:=.int (r / 26)) ((Zg rfl rfl).trans (Zac (by decide))) rfl).trans (ZH (by decide))) rfl;refine (Za x8).trans ((Za x9).trans ?_);by_cases hr:r / 26 % 4=1
 . rw [if_pos hr];exact (Za ((Zy (Zm tt (decide_eq_true hr))).trans ((Za (Zl (g3 _))).trans rfl))).trans (Zmd ⟨w3.1,by have:=w3.2;lia⟩ hz)
 . rw [if_neg hr];exact (Za ((Zu (Zm tt (decide_eq_false hr))).trans rfl)).trans (Zmd ⟨v2.1,by have:=v2.2;lia⟩ hz)
theorem Zjy(hb:Wl 8 b):∀ (ks:List Int) (fo:List Str) (k sg wd:Option D),fo.length+ks.length<=100->(∀ c∈ks,0<=c/\c<100)->∃ k' sg' wd',
   ZG [] (.nm 6) (xs2 U Zq1) (ks.map D.int) (vn a l p r b h.length k sg wd) (h++[.lst (fo.map .str)])
     = .ok (.nx,vn a l p r b h.length k' sg' wd') (h++[.lst ((fo++ks.map (nm b l p r)).map .str)])
 | [],fo,k,sg,wd,h2,h3=>⟨k,sg,wd,by rw [Oy,Oy,List.append_nil];rfl⟩
 | c::cs,fo,k,sg,wd,h2,h3=>by
   rw [Os] at h2;obtain ⟨k',sg',wd',e3⟩:=Zjy (U:=U) (h:=h) (a:=a) (l:=l) (p:=p) (r:=r) hb cs (fo++[nm b l p r c]) (some (.int c)) (some (.str (lt1 ((r+5 * c) % 26)))) (some (.str (nm b l p r c))) (by rw [OA,List.length_singleton];lia) (fun z hz=>h3 z (.tail _ hz));refine ⟨k',sg',wd',(ZbZ rfl (Ztn hb (h3 c (.head _)) (by rw [List.length_map];lia))).trans ?_⟩;rw [List.map_append,Oz] at e3;exact e3
theorem Zq8:∀ k∈[[102,110],[114,101,99],[99,97,108,108],[105,102]],∀ l∈[[102,110],[114,101,99],[99,97,108,108],[105,102],List.replicate k.length 113],k=l\/k.length≠l.length\/∀ i,i<4->∃ j,j<4/\j≠i/\k[j]?≠l[j]? := by decide +kernel
theorem ZjA(ne:x≠y)(a:List Nat)(h:a++x::b∈[[102,110],[114,101,99],[99,97,108,108],[105,102]]):a++y::b ∉ [[102,110],[114,101,99],[99,97,108,108],[105,102]]/\a++y::b≠List.replicate (a++x::b).length 113:=by
 have l4:(a++x::b).length<=4:=by
   have:∀ k∈[[102,110],[114,101,99],[99,97,108,108],[105,102]],k.length<=4:=by decide
   exact this _ h
 have sl:(a++x::b).length=(a++y::b).length:=by simp
 have no:∀ l∈[[102,110],[114,101,99],[99,97,108,108],[105,102],List.replicate (a++x::b).length 113],a++y::b≠l:=fun l hl e=>by
   rcases Zq8 _ h l hl with q|q|q
   . rw [<- e] at q;exact ne (List.cons.inj (List.append_cancel_left q)).1
   . exact q (by rw [<- e];exact sl)
   . obtain ⟨j,_,nj,d⟩:=q a.length (by simp at l4;lia);rw [<- e] at d;rcases Nat.lt_or_ge j a.length with z|z
     . exact d (by rw [Oe z,Oe z])
     . rw [Om z,Om z] at d;obtain ⟨m,hm⟩:∃ m,j - a.length=m+1:=⟨j - a.length - 1,by lia⟩
       rw [hm] at d;exact d rfl
 refine ⟨fun m=>no _ (List.mem_append_left [List.replicate (a++x::b).length 113] m) rfl,no _ (Ov [[102,110],[114,101,99],[99,97,108,108],[105,102]] (Ox.mpr rfl))⟩
theorem Zmi:w∈[O "fn",O "rec",O "call",O "if"]↔w.cps.toList∈[[102,110],[114,101,99],[99,97,108,108],[105,102]]:=by
 have e:[[102,110],[114,101,99],[99,97,108,108],[105,102]]=[O "fn",O "rec",O "call",O "if"].map (·.cps.toList):=by decide +kernel
 rw [e];refine ⟨fun h=>List.mem_map_of_mem h,fun h=>?_⟩;obtain ⟨v,hv,q⟩:=List.mem_map.mp h;have:v=w:=by
   obtain ⟨⟨v⟩⟩:=v;obtain ⟨⟨w⟩⟩:=w;cases q;rfl
 exact this ▸ hv
theorem ZgV:∀ n,(Zdt (O "q") n).cps.toList=List.replicate n 113
 | n=>by
   have:∀ (n:Nat) (a:Array Nat),((List.replicate n (O "q").cps).foldl (·++·) a).toList=a.toList++List.replicate n 113:=by
     intro n;induction n with
     | zero=>intro a;simp
     | succ n ih=>intro a;rw [List.replicate_succ,List.foldl_cons,ih,Array.toList_append,Oz,List.replicate_succ];rfl
   have q:=this n #[];simpa [Zdt] using q
theorem nq(hv:v.cps.toList=a++x::b)(hw:w.cps.toList=a++y::b)(ne:x≠y):nmQ v≠nmQ w:=by
 have hl:v.length=(a++x::b).length/\w.length=(a++y::b).length:=by rw [<- hv,<- hw];exact ⟨by simp [Str.length],by simp [Str.length]⟩
 unfold nmQ;intro e;have e':=congrArg (·.cps.toList) e;simp only [Zmi] at e';split at e'
 . rename_i kv;rw [hv] at kv;obtain ⟨k1,k2⟩:=ZjA ne a kv;rw [if_neg (by rw [hw];exact k1),ZgV,hw,hl.1] at e';exact k2 e'.symm
 . split at e'
   . rename_i kw;rw [hw] at kw;obtain ⟨k1,k2⟩:=ZjA (Ne.symm ne) a kw;rw [ZgV,hv,hl.2] at e';exact k2 e'
   . rw [hv,hw] at e';have:=List.append_cancel_left e';exact ne (List.cons.inj this).1
theorem Zjs(w:Str):(nmQ w).length=w.length:=by
 unfold nmQ;split
 . rw [Zc5,show (O "q").length=1 by decide +kernel,Nat.mul_one]
 . rfl
theorem Zou:∀ i j:Fin 26,ltr (i.val:Int)=ltr (j.val:Int)->i=j:=by decide +kernel
theorem Zta(hb:b.length=8)(hc:0<=c/\c<5)(hd:0<=d/\d<5)(ne:c≠d):nm b l p r c≠nm b l p r d:=by
 unfold nm nmW;split
 . intro e;have e':=congrArg Str.length e;have len:∀ z:Int,0<=z/\z<5->(StrLaws.sliceText b none (some (8 - z))).length=(8 - z).toNat:=fun z hz=>by
     have h8:b.cps.toList.length=8:=by simpa [Str.length] using hb
     rw [StrLaws.sliceText_to ⟨by lia,by lia⟩];show (List.take (8 - z - 0).toNat (List.drop 0 b.cps.toList)).toArray.size=_;rw [Of,List.length_take,List.drop_zero,h8]
     lia
   rw [Zjs,Zjs,len c hc,len d hd] at e'
   lia
 . refine nq (a:=(StrLaws.sliceText b none (some p)).cps.toList) (b:=(StrLaws.sliceText b (some (p+1)) (some l)).cps.toList) (x:=ltr ((r+5 * c) % 26)) (y:=ltr ((r+5 * d) % 26)) ?_ ?_ ?_
   . show (_++#[ltr ((r+5 * c) % 26)]++_:Array Nat).toList=_;simp
   . show (_++#[ltr ((r+5 * d) % 26)]++_:Array Nat).toList=_;simp
   . intro e;have q:=Zou ⟨((r+5 * c) % 26).toNat,by lia⟩ ⟨((r+5 * d) % 26).toNat,by lia⟩ (by
       show ltr (((r+5 * c) % 26).toNat:Int)=ltr (((r+5 * d) % 26).toNat:Int);rw [Int.toNat_of_nonneg (by lia),Int.toNat_of_nonneg (by lia)];exact e)
     have q:=Fin.mk.inj q
     lia
theorem Zl3(hb:b.length=8):(([0,1,2,3,4]:List Int).map (nm b l p r)).Nodup:=by
 refine List.pairwise_map.mpr (List.Pairwise.imp_of_mem (R:=fun x y=>x≠y) (fun {x y} hx hy ne=>Zta hb ?_ ?_ ne) (by decide))
 . simp at hx;lia
 . simp at hy;lia
theorem ZnB (H:Mk0 P) (n:Nat) (v:Int) (h:Hd):∃ ns:List Str,ns.length=5/\(∀ x∈ns,Wl 20 x)/\ns.Nodup/\run P (n+1) (O "_law_names") [.int v] h=.ok (.ref h.length) (h++[.lst (ns.map .str)]):=by
 rw [Zj H.names rfl];have u8:Zab 0 8=[0,1,2,3,4,5,6,7].map D.int:=by rfl
 have u5:Zab 0 5=[0,1,2,3,4].map D.int:=by rfl
 have m8:opB .Mod (.int v) (.int 8) h=.ok (.int (v % 8)) h:=ZH (by decide);have d8:opB .FloorDiv (.int v) (.int 8) h=.ok (.int (v / 8)) h:=Zac (by decide);have mp:opB .Mod (.int (v / 8)) (.int (1+v % 8)) h=.ok (.int (v / 8 % (1+v % 8))) h:=ZH (by lia);have d64:opB .FloorDiv (.int v) (.int 64) h=.ok (.int (v / 64)) h:=Zac (by decide);obtain ⟨r',b,k',hb,hb8,e1⟩:=Zmh (U:=⟨P.G,P.GD,run P n,P.L⟩) (h:=h) (a:=some (.int v)) (l:=some (.int (1+v % 8))) (p:=some (.int (v / 8 % (1+v % 8)))) (f:=none) (sg:=none) (wd:=none) [0,1,2,3,4,5,6,7] (v / 64) (O "") 0 none ⟨by decide +kernel,by decide +kernel⟩ (by decide +kernel) (by decide);obtain ⟨k2,sg',wd',e2⟩:=Zjy (U:=⟨P.G,P.GD,run P n,P.L⟩) (h:=h) (a:=some (.int v)) (l:=1+v % 8) (p:=v / 8 % (1+v % 8)) (r:=r') hb [0,1,2,3,4] [] k' none none (by decide) (by decide);refine ⟨[0,1,2,3,4].map (nm b (1+v % 8) (v / 8 % (1+v % 8)) r'),rfl,fun x hx=>?_,Zl3 hb8,?_⟩
 . obtain ⟨c,_,rfl⟩:=List.mem_map.mp hx;exact Zs9 hb _ _ _ _
 generalize nm b (1+v % 8) (v / 8 % (1+v % 8)) r'=F at e2 ⊢;simp only [Oy,OB] at e2;have s8:ZaJ 8=true:=by decide
 have s5:ZaJ 5=true:=by decide
 unfold ZA at e1;unfold vn Zq1 ZqZ Zq3 Zq2 ZqY Ztl ZqX Ztm Zq0 ZA at e2;rw [<- u8] at e1;rw [<- u5] at e2
 try simp at e1
 try simp at e2
 simp [Zb1,ZdW,ZL,m8,d8,mp,d64,s8,s5,e1,e2,sizeLine_eq]
end Gn
end
section
set_option tactic.hygienic false
namespace Gn
open PySem L2 IV
noncomputable abbrev Scp:=List (Str×Str)
noncomputable def pairOf(p:Str×Str):D:=.tup [.str p.1,.str p.2]
noncomputable def Zph(h:Hd)(k:Nat)(sc:Scp):Prop:=h[k]? = some (.lst (sc.map pairOf))
structure KnOk(sc:Scp)(kn:List (Key×D)):Prop where
 key:∀ p∈kn,∃ x,p.1=Sum.inr x/\x∈sc.map (·.1)
 val:∀ p∈kn,∃ s,p.2=D.str s
theorem ZgY(h:p∈putD kn k v):p∈kn\/p=(k,v):=by
 unfold putD at h;split at h
 . obtain ⟨q,hq,e⟩:=List.mem_map.mp h;split at e
   . rename_i ek;right;rw [<- e,ek]
   . left;rw [<- e];exact hq
 . rcases OD.mp h with z|z
   . exact .inl z
   . exact .inr (Ox.mp z)
theorem Zlz:(putD kn k v).length<=kn.length+1:=by
 unfold putD;split<;>simp
theorem ZnK(hz:kn.length<1000):ZaQ (.ref h.length) (.str x) v (h++[.dic kn])=.ok () (h++[.dic (putD kn (.inr x) v)]):=by
 simp only [ZaQ,ZgI,keyOf];rw [if_pos (by rw [sizeLine_eq];lia)];simp
theorem Zjx(hs:Zph h k sc0):∀ (sc:Scp) (kn:List (Key×D)) (a b:Option D),(∀ p∈sc,p∈sc0)->KnOk sc0 kn->kn.length+sc.length<=500->∃ kn' a' b',KnOk sc0 kn'/\kn'.length<=kn.length+sc.length /\
   ZG [(k,sc0.map pairOf)] (.two 3 4) (xs2 U (.cons (.put (.var 2) (.var 3) (.var 4)) .nil)) (sc.map pairOf) [some (.ref k),w,some (.ref h.length),a,b] (h++[.dic kn])
     = .ok (.nx,[some (.ref k),w,some (.ref h.length),a',b']) (h++[.dic kn'])
 | [],kn,a,b,h1,h2,h3=>by
   refine ⟨kn,a,b,h2,by simp,?_⟩;have:(h++[DO.dic kn])[k]? = some (.lst (sc0.map pairOf)):=by rw [Oe (Zi hs)];exact hs
   simp [ZG,Wk.stays,this]
 | (x,s)::sc,kn,a,b,h1,h2,h3=>by
   simp only [Os] at h3;have st:(h++[DO.dic kn])[k]? = some (.lst (sc0.map pairOf)):=by rw [Oe (Zi hs)];exact hs
   have hk:KnOk sc0 (putD kn (.inr x) (.str s)):=by
     refine ⟨fun p hp=>?_,fun p hp=>?_⟩
     . rcases ZgY hp with z|rfl
       . exact h2.key p z
       . exact ⟨x,rfl,List.mem_map.mpr ⟨(x,s),h1 _ (by simp),rfl⟩⟩
     . rcases ZgY hp with z|rfl
       . exact h2.val p z
       . exact ⟨s,rfl⟩
   have pl:=Zlz (kn:=kn) (k:=.inr x) (v:=.str s);obtain ⟨kn',a',b',q1,q2,e⟩:=Zjx (U:=U) (w:=w) hs sc (putD kn (.inr x) (.str s)) (some (.str x)) (some (.str s)) (fun p hp=>h1 p (by simp [hp])) hk (by lia);refine ⟨kn',a',b',q1,by simp only [Os];lia,?_⟩;rw [Op,ZG];simp only [Wk.stays,st,decide_true,if_true];have e2:=ZnK (h:=h) (kn:=kn) (x:=x) (v:=.str s) (by lia);simp [pairOf,e2];simpa [pairOf] using e
theorem find_key(hx:Sum.inr x∈kn.map (·.1)):∃ v,ZX kn (.inr x)=some v/\(Sum.inr x,v)∈kn:=by
 induction kn with
 | nil=>simp at hx
 | cons p r ih =>
   unfold ZX;by_cases e:p.1=Sum.inr x
   . refine ⟨p.2,?_,?_⟩
     . simp [List.find?_cons,e]
     . rw [<- e];exact Oi
   . obtain ⟨v,h1,h2⟩:=ih (by simpa [Ne.symm e] using hx);refine ⟨v,?_,Oh _ h2⟩;simpa [List.find?_cons,e,ZX] using h1
theorem ZjC{sc:Scp}:∀ {kn:List (Key×D)},(∀ p∈kn,∃ x,p.1=Sum.inr x/\x∈sc.map (·.1))->∃ ss,Zad kn=some ss/\ss.length=kn.length/\(∀ x∈ss,x∈sc.map (·.1)/\Sum.inr x∈kn.map (·.1))
 | [],_=>⟨[],rfl,rfl,by simp⟩
 | (k,v)::r,h=>by
   obtain ⟨x,e,hx⟩:=h (k,v) (by simp);cases e;obtain ⟨ss,e1,e2,e3⟩:=ZjC (kn:=r) fun p hp=>h p (by simp [hp]);refine ⟨x::ss,by rw [Zad,e1];rfl,by simp [e2],fun y hy=>?_⟩;rcases O2.mp hy with rfl|hy
   . exact ⟨hx,by simp⟩
   . exact ⟨(e3 y hy).1,by simp [(e3 y hy).2]⟩
theorem ZiA{U:Tb}{so:List Str}(hv:∀ p∈kn,∃ s,p.2=D.str s):∀ (xs:List Str) (acc:List Str),(∀ x∈xs,Sum.inr x∈kn.map (·.1))->acc.length+xs.length<=1000->∃ ys,(∀ y∈ys,y∈xs) /\
   Zq [(h.length+1,so.map D.str)] (.nm 0) (tsto U (some (.ex (.cmp .Eq (.ix (.var 2) (.var 0)) (.var 1))))) (ev U (.var 0)) (xs.map D.str) [none,some (.str w),some (.ref h.length)] (acc.map .str) (h++[.dic kn,.lst (so.map .str)])
     = .ok ((acc++ys).map .str) (h++[.dic kn,.lst (so.map .str)])
 | [],acc,h1,h2=>⟨[],by simp,by simp [Zq,Wk.stays]⟩
 | x::xs,acc,h1,h2=>by
   simp only [Os] at h2;obtain ⟨v,e1,hm⟩:=find_key (h1 x (by simp));obtain ⟨s,rfl⟩:∃ s,v=D.str s:=hv _ hm;have ix:ZaE U.GD (.ref h.length) (.str x) (h++[.dic kn,.lst (so.map .str)])=.ok (.str s) (h++[.dic kn,.lst (so.map .str)]):=by
     simp [ZaE,dicOf,e1]
   have hz:acc.length<sizeLine:=by rw [sizeLine_eq];lia
   by_cases hw:s=w
   . obtain ⟨ys,q1,q2⟩:=ZiA (U:=U) (h:=h) (w:=w) (so:=so) hv xs (acc++[x]) (fun y hy=>h1 y (by simp [hy])) (by simp;lia);refine ⟨x::ys,fun y hy=>?_,?_⟩
     . rcases O2.mp hy with rfl|hy
       . simp
       . simp [q1 y hy]
     . rw [Op,Zx];simp at q2;simp [Wk.stays,hz,ix,hw,q2]
   . obtain ⟨ys,q1,q2⟩:=ZiA (U:=U) (h:=h) (w:=w) (so:=so) hv xs acc (fun y hy=>h1 y (by simp [hy])) (by lia);refine ⟨ys,fun y hy=>by simp [q1 y hy],?_⟩;rw [Op,Zx];simp at q2;simp [Wk.stays,hz,ix,hw,q2]
theorem ZnA{P:Pg}(H:Mk0 P)(n:Nat){sc:Scp}(w:Str)(hs:Zph h k sc)(hl:sc.length<=60)(hok:∀ p∈sc,PyData.strOk p.1=true):∃ (ys:List Str) (g:Hd),(∀ y∈ys,y∈sc.map (·.1))/\g.length=2 /\
   run P (n+1) (O "_law_there") [.ref k,.str w] h=.ok (.ref (h.length+2)) (h++g++[.lst (ys.map .str)]):=by
 rw [Zj H.there rfl];obtain ⟨kn,a',b',hk,hkl,e1⟩:=Zjx (U:=⟨P.G,P.GD,run P n,P.L⟩) (w:=some (.str w)) hs sc [] none none (fun _ hp=>hp) ⟨by simp,by simp⟩ (by simp;lia);obtain ⟨ss,e2,e3,e4⟩:=ZjC hk.key;have all:ss.all PyData.strOk=true:=by
   rw [OC];intro x hx;obtain ⟨p,hp,rfl⟩:=List.mem_map.mp (e4 x hx).1;exact hok p hp
 have perm:=Z6 ss;obtain ⟨ys,q1,q2⟩:=ZiA (U:=⟨P.G,P.GD,run P n,P.L⟩) (h:=h) (kn:=kn) (w:=w) (so:=ZQ ss) hk.val (ZQ ss) [] (fun x hx=>(e4 x (perm.mem_iff.mp hx)).2) (by rw [perm.length_eq];simp at hkl ⊢;lia);refine ⟨ys,[.dic kn,.lst ((ZQ ss).map .str)],fun y hy=>(e4 y (perm.mem_iff.mp (q1 y hy))).1,rfl,?_⟩;have hsrt:Za7 P.GD .srt [.ref h.length] (h++[.dic kn])=.ok (.ref (h.length+1)) (h++[.dic kn,.lst ((ZQ ss).map .str)]):=by
   show ZbN P.GD [.ref h.length] (h++[.dic kn])=_;simp only [ZbN,dicOf,ZgI,Option.bind_some,e2];rw [if_pos ⟨by simp at hkl;lia,all⟩];simp
 have hw1:ZaD (.ref k) (h++[DO.dic []])=some ⟨[(k,sc.map pairOf)],sc.map pairOf⟩:=by
   have:(h++[DO.dic []])[k]? = some (.lst (sc.map pairOf)):=by rw [Oe (Zi hs)];exact hs
   simp [ZaD,this]
 have hw2:ZaD (.ref (h.length+1)) (h++[DO.dic kn,.lst ((ZQ ss).map .str)])=some ⟨[(h.length+1,(ZQ ss).map .str)],(ZQ ss).map .str⟩:=by
   simp [ZaD]
 simp at q2 e1;simp [Zb0,ZdV,ZL,ZbT,ZcS,hw1,e1,hsrt,hw2,Zbd,q2]
end Gn
end
section
namespace Gn
open PySem L2 IV
structure Ctx(cs:List Int)(ns:List Str)(h:Hd)(i j m k:Nat)(sc:Scp)(a b:Int):Prop where
 st:St3 h i j cs a b
 nm:h[m]? = some (.lst (ns.map .str))
 n5:ns.length=5
 nok:∀ x∈ns,Wl 20 x
 nd:ns.Nodup
 sca:Zph h k sc
 sco:∀ p∈sc,Wl 20 p.1
 im:i≠m
 ik:i≠k
 ab:0<=a
variable {P:Pg}{cs:List Int}{ns:List Str}{h h':Hd}{i j m k:Nat}{sc:Scp}{a b a' b':Int}
theorem Ctx.up(c:Ctx cs ns h i j m k sc a b)(u:Up i h h')(st:St3 h' i j cs a' b')(ab:0<=a'):Ctx cs ns h' i j m k sc a' b' :=
 ⟨st,u.at c.nm (Ne.symm c.im),c.n5,c.nok,c.nd,u.at c.sca (Ne.symm c.ik),c.sco,c.im,c.ik,ab⟩
theorem St3.app(s:St3 h i j cs a b):St3 (h++g) i j cs a b :=
 ⟨by rw [Oe (Zi s.1)];exact s.1,by rw [Oe (Zi s.2.1)];exact s.2.1,s.2.2⟩
theorem Ctx.app(c:Ctx cs ns h i j m k sc a b):Ctx cs ns (h++g) i j m k sc a b:=c.up Up.app c.st.app c.ab
theorem Ctx.name(c:Ctx cs ns h i j m k sc a b)(v:Int)(h0:0<=v)(h5:v<5):∃ x,ZaE GD (.ref m) (.int v) h=.ok (.str x) h/\Wl 20 x/\ns[v.toNat]? = some x:=by
 obtain ⟨q,rfl⟩:∃ q:Nat,v=q:=⟨v.toNat,by lia⟩
 have hq:q<ns.length:=by have:=c.n5;lia
 refine ⟨ns[q],?_,c.nok _ (List.getElem_mem hq),Og hq⟩;rw [ZB c.nm,IV.Z2,On,Og hq];rfl
noncomputable def A(r:Nat):Int:=4 ^ (r+1)
theorem Zh3(r:Nat):0<A r:=Int.pow_pos (by decide)
theorem Zr0(r:Nat):A (r+1)=4 * A r:=by unfold A;rw [Int.pow_succ];lia
noncomputable def pz(x:Int):Int:=max x 0
inductive Made(cs:List Int)(h:Hd)(i j:Nat)(sc:Scp)(a b ex mx:Int)(dm:Nat)(r:R D):Prop
 | mk (t:T) (h':Hd) (a' b':Int) (e:r=.ok (T.d t) h') (u:Up i h h') (s:St3 h' i j cs a' b') (l1:a<=a') (l2:a'<=a+mx) (c:Cl (sc.map (·.1)) t) (p:nb t<=dep t/\dep t<=dm) (z:fw t<=3 * (pz b - pz b')+ex)
noncomputable def Zj9(P:Pg)(r n0:Nat):Prop:=∀ (n:Nat) (cs:List Int) (ns:List Str) (h:Hd) (i j m k:Nat) (sc:Scp) (a b:Int) (w:Str) (room:Int),room<=r->Ctx cs ns h i j m k sc a b->sc.length+2 * r<=50->a+A r<2 ^ 50 ->
 Made cs h i j sc a b 0 (A r) (3 * r+3) (run P (n+n0) (O "_law_any") [.str w,.ref k,.ref i,.ref m,.int room] h)
theorem Zm7(H:Mk0 P)(n:Nat)(c:Ctx cs ns h i j m k sc a b)(w:Str)(room:Int)(hl:sc.length<=50)(ha:a<2 ^ 50)(T1 T2 T3:Option D):∃ (v:Int) (w':Str) (ys:List Str) (h':Hd) (l:Nat),
   xs2 ⟨P.G,P.GD,run P (n+2),P.L⟩ (.cons ZaB (.cons Zbm (.cons ZaA (.cons Zbl (.cons Zaz .nil))))) [some (.str w),some (.ref k),some (.ref i),some (.ref m),some (.int room),T1,T2,T3,none,none] h
     = .ok (.nx,[some (.str w'),some (.ref k),some (.ref i),some (.ref m),some (.int room),some (.int v),some (.int (v / 87)),some (.ref l),none,none]) h'/\Up i h h'/\Ctx cs ns h' i j m k sc (a+1) (b - 1)/\h'[l]? = some (.lst (ys.map .str))/\(∀ y∈ys,y∈sc.map (·.1)):=by
 have i1:=c.st.1;have lt:=Zi i1;have p1:ZaQ (.ref i) (.int 2) (.int (b - 1)) h=.ok () (h.set i (.lst [.ref j,.int a,.int (b - 1)])):=by
   simp only [ZaQ,i1];rfl
 have s1:St3 (h.set i (.lst [.ref j,.int a,.int (b - 1)])) i j cs a (b - 1):=⟨by rw [Ol lt],by rw [Oc c.st.2.2];exact c.st.2.1,c.st.2.2⟩
 have c1:=c.up Up.set s1 c.ab;obtain ⟨v,e2,_⟩:=Zls H n s1 ⟨c.ab,ha⟩;have lt1:i<(h.set i (.lst [.ref j,.int a,.int (b - 1)])).length:=by simpa using lt
 have s2:St3 ((h.set i (.lst [.ref j,.int a,.int (b - 1)])).set i (.lst [.ref j,.int (a+1),.int (b - 1)])) i j cs (a+1) (b - 1):=⟨by rw [Ol lt1],by rw [Oc c.st.2.2];exact s1.2.1,c.st.2.2⟩
 have c2:=c1.up Up.set s2 (by have:=c.ab;lia);generalize hh2:(h.set i (.lst [.ref j,.int a,.int (b - 1)])).set i (.lst [.ref j,.int (a+1),.int (b - 1)])=h2 at e2 s2 c2;have u2:Up i h h2:=hh2 ▸ Up.set.trans Up.set;have m29:∀ h,opB .Mod (.int v) (.int 29) h=.ok (.int (v % 29)) h:=fun h=>ZH (by decide);have d29:∀ h,opB .FloorDiv (.int v) (.int 29) h=.ok (.int (v / 29)) h:=fun h=>Zac (by decide);have m3:∀ h,opB .Mod (.int (v / 29)) (.int 3) h=.ok (.int (v / 29 % 3)) h:=fun h=>ZH (by decide);have d87:∀ h,opB .FloorDiv (.int v) (.int 87) h=.ok (.int (v / 87)) h:=fun h=>Zac (by decide);have hix:ZaE P.GD (.ref i) (.int 2) h=.ok (.int b) h:=by rw [ZB i1];simp
 have step3:∃ (w':Str) (h3:Hd),xs1 ⟨P.G,P.GD,run P (n+2),P.L⟩ ZaA [some (.str w),some (.ref k),some (.ref i),some (.ref m),some (.int room),some (.int v),T2,T3,none,none] h2
     = .ok (.nx,[some (.str w'),some (.ref k),some (.ref i),some (.ref m),some (.int room),some (.int v),T2,T3,none,none]) h3/\Up i h2 h3/\Ctx cs ns h3 i j m k sc (a+1) (b - 1):=by
   have tt:tst (P.tbl (n+2)) (.ex (.cmp .Eq (.bin .Mod (.var 5) (.cst (.int 29))) (.cst (.int 0)))) [some (.str w),some (.ref k),some (.ref i),some (.ref m),some (.int room),some (.int v),T2,T3,none,none] h2=.ok (decide (v % 29=0)) h2:=Zdf ((Zg rfl rfl).trans (m29 h2)) rfl;by_cases hv:v % 29=0
   . have go:∀ w':Str,atI [D.str (O "n"),.str (O "f"),.str (O "g")] (v / 29 % 3)=some (D.str w')->xs1 (P.tbl (n+2)) ZaA [some (.str w),some (.ref k),some (.ref i),some (.ref m),some (.int room),some (.int v),T2,T3,none,none] h2
         = .ok (.nx,[some (.str w'),some (.ref k),some (.ref i),some (.ref m),some (.int room),some (.int v),T2,T3,none,none]) (h2++[.lst [.str (O "n"),.str (O "f"),.str (O "g")]]):=fun w' e =>
       (Zy (Zm tt (decide_eq_true hv))).trans ((Za (Zl (ZfF e rfl ((Zg (x:=.int (v / 29)) ((Zg rfl rfl).trans (d29 _)) rfl).trans (m3 _)) (by decide)))).trans rfl)
     have q:v / 29 % 3=0\/v / 29 % 3=1\/v / 29 % 3=2:=by lia
     rcases q with q|q|q
     . exact ⟨O "n",_,go _ (by rw [q];rfl),Up.app,c2.app⟩
     . exact ⟨O "f",_,go _ (by rw [q];rfl),Up.app,c2.app⟩
     . exact ⟨O "g",_,go _ (by rw [q];rfl),Up.app,c2.app⟩
   . exact ⟨w,h2,(Zu (Zm tt (decide_eq_false hv))).trans rfl,Up.refl,c2⟩
 obtain ⟨w',h3,e3,u3,c3⟩:=step3;obtain ⟨ys,g,hy,hg,e5⟩:=ZnA H (n+1) w' c3.sca (by lia) (fun p hp=>(c3.sco p hp).1);refine ⟨v,w',ys,h3++g++[.lst (ys.map .str)],h3.length+2,?_,(u2.trans u3).trans (Up.app.trans Up.app),c3.app.app,?_,hy⟩
 . have x1:xs1 ⟨P.G,P.GD,run P (n+2),P.L⟩ ZaB [some (.str w),some (.ref k),some (.ref i),some (.ref m),some (.int room),T1,T2,T3,none,none] h=.ok (.nx,[some (.str w),some (.ref k),some (.ref i),some (.ref m),some (.int room),T1,T2,T3,none,none]) (h.set i (.lst [.ref j,.int a,.int (b - 1)])):=by
     have q:ev (P.tbl (n+2)) (.bin .Sub (.ix (.var 2) (.cst (.int 2))) (.cst (.int 1))) [some (.str w),some (.ref k),some (.ref i),some (.ref m),some (.int room),T1,T2,T3,none,none] h=.ok (.int (b - 1)) h:=(Zg (x:=.int b) ((ZJ rfl rfl).trans hix) rfl).trans rfl;rw [ZaB,ZfL];show (ev (P.tbl (n+2)) (.bin .Sub (.ix (.var 2) (.cst (.int 2))) (.cst (.int 1))) _ h).bnd _=_;rw [q];show (ZaQ (.ref i) (.int 2) (.int (b - 1)) h).bnd _=_;rw [p1];rfl
   have x2:xs1 ⟨P.G,P.GD,run P (n+2),P.L⟩ Zbm [some (.str w),some (.ref k),some (.ref i),some (.ref m),some (.int room),T1,T2,T3,none,none] (h.set i (.lst [.ref j,.int a,.int (b - 1)]))=.ok (.nx,[some (.str w),some (.ref k),some (.ref i),some (.ref m),some (.int room),some (.int v),T2,T3,none,none]) h2:=by
     exact Zl (ZC e2 rfl)
   have x4:∀ q,xs1 ⟨P.G,P.GD,run P (n+2),P.L⟩ Zbl [some (.str w'),some (.ref k),some (.ref i),some (.ref m),some (.int room),some (.int v),q,T3,none,none] h3=.ok (.nx,[some (.str w'),some (.ref k),some (.ref i),some (.ref m),some (.int room),some (.int v),some (.int (v / 87)),T3,none,none]) h3:=by
     exact fun q=>Zl ((Zg rfl rfl).trans (d87 _))
   have x5:xs1 ⟨P.G,P.GD,run P (n+2),P.L⟩ Zaz [some (.str w'),some (.ref k),some (.ref i),some (.ref m),some (.int room),some (.int v),some (.int (v / 87)),T3,none,none] h3=.ok (.nx,[some (.str w'),some (.ref k),some (.ref i),some (.ref m),some (.int room),some (.int v),some (.int (v / 87)),some (.ref (h3.length+2)),none,none]) (h3++g++[.lst (ys.map .str)]):=by
     simp only [Zaz,ZfK,Zgi,ZeU,ZjL,ZmD,O0,OJ,Option.join_some,ofO_some,Zr,bind_ok,e5];rfl
   exact (Za x1).trans ((Za x2).trans ((Za e3).trans ((Za (x4 _)).trans ((Za x5).trans rfl))))
 . have:h3.length+2=(h3++g).length:=by simp [hg]
   rw [this];simp
end Gn
end
section
set_option tactic.hygienic false
namespace Gn
open PySem L2 IV
variable {P:Pg}{cs:List Int}{ns:List Str}{h h':Hd}{i j m k:Nat}{sc:Scp}{a b a' b':Int}
theorem Cl.mono{sc sc':List Str}:∀ {t:T},(∀ x∈sc,x∈sc')->Cl sc t->Cl sc' t
 | .num n,_,c=>c
 | .name x,s,c=>s x c
 | .fn x e,s,c=>⟨Cl.mono (t:=e) (fun y hy=>by
     rcases O2.mp hy with z|z
     . rw [z];exact Oi
     . exact Oh _ (s y z)) c.1,c.2⟩
 | .rcc f x e,s,c=>⟨Cl.mono (t:=e) (fun y hy=>by
     rcases O2.mp hy with z|z
     . rw [z];exact Oi
     . rcases O2.mp z with q|q
       . rw [q];exact Oh _ Oi
       . exact Oh _ (Oh _ (s y q))) c.1,c.2⟩
 | .call f e,s,c=>⟨Cl.mono s c.1,Cl.mono s c.2⟩
 | .iff p q r,s,c=>⟨Cl.mono s c.1,Cl.mono s c.2.1,Cl.mono s c.2.2⟩
 | .op w p q,s,c=>⟨Cl.mono s c.1,Cl.mono s c.2⟩
noncomputable def Zne(z:Int):Wd:=if z=0 then .add else if z=1 then .sub else if z=2 then .mul else .lt
theorem wd4 (z:Int) (h0:0<=z) (h4:z<4):atI [D.str (O "+"),.str (O "-"),.str (O "*"),.str (O "<")] z=some (.str (Zne z).s):=by
 have:z=0\/z=1\/z=2\/z=3:=by lia
 rcases this with rfl|rfl|rfl|rfl<;>simp [Zne,Wd.s]
noncomputable def me(rest:Int)(k i m:Nat)(room:Int)(a b c d:Option D):Ev:=[some (.int rest),some (.ref k),some (.ref i),some (.ref m),some (.int room),a,b,c,d]
theorem ZqQ(H:Mk0 P)(ih:Zj9 P r n0)(hn:1<=n0)(n:Nat)(c:Ctx cs ns h i j m k sc a b)(rest:Int)(room:Int)(hr:room<=r)(hl:sc.length+2 * r<=50)(ha:a+2 * A r<2 ^ 50) :
   Made cs h i j sc a b 0 (2 * A r) (3 * r+4) (run P (n+n0+1) (O "_law_number") [.int rest,.ref k,.ref i,.ref m,.int room] h):=by
 have Ap:=Zh3 r;rw [ZfV H.number rfl];show Made cs h i j sc a b 0 (2 * A r) (3 * r+4) (Zt (xs2 (P.tbl (n+n0)) ZbL (me rest k i m room none none none none) h));have x1:∀ h,xs1 (P.tbl (n+n0)) Zce (me rest k i m room none none none none) h=.ok (.nx,me rest k i m room (some (.int (rest % 6))) none none none) h:=fun h=>rfl;rw [ZbL,Za (x1 h)];obtain ⟨n1,e1⟩:∃ n1,n+n0=n1+1:=⟨n+n0 - 1,by lia⟩
 by_cases h0:rest % 6=0
 . obtain ⟨t,g,e2,ct,pt⟩:=Zec H n1 (O "n") (rest / 6) h (sc.map (·.1));refine ⟨t,h++g,a,b,?_,Up.app,c.st.app,by lia,by lia,ct,by lia,by lia⟩;rw [<- e1] at e2;have x2:xs1 (P.tbl (n+n0)) Za0 (me rest k i m room (some (.int (rest % 6))) none none none) h=.ok (.rt t.d,me rest k i m room (some (.int (rest % 6))) none none none) (h++g):=(Zy (Zm (Zdf rfl rfl) (decide_eq_true h0))).trans (Zc (Zah e2 rfl rfl));rw [Zc x2];rfl
 . have x2:xs1 (P.tbl (n+n0)) Za0 (me rest k i m room (some (.int (rest % 6))) none none none) h=.ok (.nx,me rest k i m room (some (.int (rest % 6))) none none none) h:=(Zu (Zm (Zdf rfl rfl) (decide_eq_false h0))).trans rfl;rw [Za x2];have lt:tst (P.tbl (n+n0)) (.ex (.cmp .Lt (.var 5) (.cst (.int 3)))) (me rest k i m room (some (.int (rest % 6))) none none none) h=.ok (decide (rest % 6<3)) h:=rfl;by_cases h3:rest % 6<3
   . obtain ⟨t1,g1,a1,b1,e2,u1,s1,l1,l2,c1,p1,z1⟩:=ih n cs ns h i j m k sc a b (O "n") room hr c hl (by lia);have cc:=c.up u1 s1 (by have:=c.ab;lia);obtain ⟨t2,g2,a2,b2,e3,u2,s2,l3,l4,c2,p2,z2⟩:=ih n cs ns (g1++[.lst [.str (O "+"),.str (O "-"),.str (O "*"),.str (O "<")]]) i j m k sc a1 b1 (O "n") room hr cc.app hl (by lia);refine ⟨.op (Zne (rest / 6 % 4)) t1 t2,g2,a2,b2,?_,u1.trans (Up.app.trans u2),s2,by lia,by lia,⟨c1,c2⟩,by simp only [dep,nb];lia,by simp only [fw];clear ih hl ha;lia⟩;have w4:=wd4 (rest / 6 % 4) (by lia) (by lia);have x3:xs1 (P.tbl (n+n0)) ZaZ (me rest k i m room (some (.int (rest % 6))) none none none) h=.ok (.rt (T.op (Zne (rest / 6 % 4)) t1 t2).d,me rest k i m room (some (.int (rest % 6))) (some t1.d) none none) g2:=by
       refine (Zy (Zm lt (decide_eq_true h3))).trans ?_;refine (Za (ρ1:=me rest k i m room (some (.int (rest % 6))) (some t1.d) none none) (h1:=g1) (Zah e2 rfl rfl)).trans ?_;exact Zc (ZD (ZaF (Zb (ZfF w4 rfl rfl (by simp)) (Zb rfl (Zb (ZC e3 rfl) rfl))) (by simp)))
     rw [Zc x3];rfl
   . have w3:∃ ws,(ws=O "f" \/ ws=O "g")/\atI [D.str (O "f"),.str (O "f"),.str (O "g")] (rest % 6 - 3)=some (.str ws):=by
       have:rest % 6 - 3=0\/rest % 6 - 3=1\/rest % 6 - 3=2:=by lia
       rcases this with q|q|q<;>rw [q]<;>simp
     obtain ⟨ws,hws,w3⟩:=w3;obtain ⟨t1,g1,a1,b1,e2,u1,s1,l1,l2,c1,p1,z1⟩:=ih n cs ns (h++[.lst [.str (O "f"),.str (O "f"),.str (O "g")]]) i j m k sc a b ws room hr c.app hl (by lia);have cc:=c.app.up u1 s1 (by have:=c.ab;lia);have dd:∃ ws',ZaE P.GD (.ref g1.length) (.str ws) (g1++[.dic [(.inr (O "f"),.str (O "n")),(.inr (O "g"),.str (O "f"))]])=.ok (.str ws') (g1++[.dic [(.inr (O "f"),.str (O "n")),(.inr (O "g"),.str (O "f"))]]):=by
       rcases hws with rfl|rfl
       . exact ⟨O "n",by simp [ZaE,dicOf,ZX]⟩
       . exact ⟨O "f",by simp [ZaE,dicOf,ZX]⟩
     obtain ⟨ws',dd⟩:=dd;obtain ⟨t2,g2,a2,b2,e3,u2,s2,l3,l4,c2,p2,z2⟩:=ih n cs ns (g1++[.dic [(.inr (O "f"),.str (O "n")),(.inr (O "g"),.str (O "f"))]]) i j m k sc a1 b1 ws' room hr cc.app hl (by lia);refine ⟨.call t1 t2,g2,a2,b2,?_,Up.app.trans (u1.trans (Up.app.trans u2)),s2,by lia,by lia,⟨c1,c2⟩,by simp only [dep,nb];lia,by simp only [fw];clear ih hl ha;lia⟩;have x3:xs1 (P.tbl (n+n0)) ZaZ (me rest k i m room (some (.int (rest % 6))) none none none) h=.ok (.nx,me rest k i m room (some (.int (rest % 6))) none none none) h:=(Zu (Zm lt (decide_eq_false h3))).trans rfl;have x4:xs1 (P.tbl (n+n0)) Zcd (me rest k i m room (some (.int (rest % 6))) none none none) h=.ok (.nx,me rest k i m room (some (.int (rest % 6))) none (some (.str ws)) none) (h++[.lst [.str (O "f"),.str (O "f"),.str (O "g")]]):=Zl (i:=7) (ZfF w3 rfl rfl (by simp));have x5:xs1 (P.tbl (n+n0)) Zcc (me rest k i m room (some (.int (rest % 6))) none (some (.str ws)) none) (h++[.lst [.str (O "f"),.str (O "f"),.str (O "g")]])=.ok (.nx,me rest k i m room (some (.int (rest % 6))) none (some (.str ws)) (some t1.d)) g1:=Zah e2 rfl rfl;have p6:ev (P.tbl (n+n0)) (.ix (.dictl (.cons (.cst (.str (O "f"))) (.cons (.cst (.str (O "n"))) (.cons (.cst (.str (O "g"))) (.cons (.cst (.str (O "f"))) .nil))))) (.var 7)) (me rest k i m room (some (.int (rest % 6))) none (some (.str ws)) (some t1.d)) g1=.ok (.str ws') (g1++[.dic [(.inr (O "f"),.str (O "n")),(.inr (O "g"),.str (O "f"))]]):=dd;have x6:xs1 (P.tbl (n+n0)) Zcb (me rest k i m room (some (.int (rest % 6))) none (some (.str ws)) (some t1.d)) g1=.ok (.rt (T.call t1 t2).d,me rest k i m room (some (.int (rest % 6))) none (some (.str ws)) (some t1.d)) g2:=ZD (ZaF (Zb rfl (Zb rfl (Zb ((ZrA (Zb p6 rfl)).trans e3) rfl))) (by simp));rw [Za x3,Za x4,Za x5,Zc x6];rfl
end Gn
end
section
set_option tactic.hygienic false
namespace Gn
open PySem L2 IV
variable {P:Pg}{cs:List Int}{ns:List Str}{h h':Hd}{i j m k:Nat}{sc:Scp}{a b a' b':Int}
theorem Ctx.wider(c:Ctx cs ns h i j m k sc a b)(more:Scp)(hm:∀ p∈more,Wl 20 p.1):Ctx cs ns (h++[.lst (more.map pairOf),.lst ((sc++more).map pairOf)]) i j m (h.length+1) (sc++more) a b:=by
 have c1:=c.app (g:=[.lst (more.map pairOf),.lst ((sc++more).map pairOf)]);refine ⟨c1.st,c1.nm,c1.n5,c1.nok,c1.nd,by unfold Zph;simp,fun p hp=>?_,c1.im,?_,c1.ab⟩
 . rcases OD.mp hp with z|z
   . exact c.sco p z
   . exact hm p z
 . have:=Zi c.st.1
   lia
theorem Zgn(c:Ctx cs ns h i j m k sc a b)(more:Scp)(hz:sc.length+more.length<=100):opB .Add (.ref k) (.ref h.length) (h++[.lst (more.map pairOf)])=.ok (.ref (h.length+1)) (h++[.lst (more.map pairOf),.lst ((sc++more).map pairOf)]):=by
 have hk:(h++[DO.lst (more.map pairOf)])[k]? = some (.lst (sc.map pairOf)):=by rw [Oe (Zi c.sca)];exact c.sca
 simp only [opB,ZkT,hk,ZgI];rw [if_pos (by simp;rw [sizeLine_eq];lia)];simp
theorem Zsy{sc:Scp}{x s:Str}:∀ y∈(sc++[(x,s)]).map (·.1),y∈x::sc.map (·.1):=fun y hy=>by
 rw [List.map_append] at hy;rcases OD.mp hy with z|z
 . exact Oh _ z
 . have:y=x:=by simpa using z
   rw [this];exact Oi
theorem unlike{ns:List Str}(n5:ns.length=5)(nd:ns.Nodup){x f:Str}{rest:Int}(ax:ns[(rest % 5).toNat]? = some x)(af:ns[((rest % 5+1+rest / 15 % 4) % 5).toNat]? = some f):f≠x:=fun e=>by
 have q:=(List.getElem?_inj (i:=(rest % 5).toNat) (j:=((rest % 5+1+rest / 15 % 4) % 5).toNat) (by rw [n5];lia) nd).mp (by rw [ax,af,e])
 lia
noncomputable def fe(w:Str)(rest:Int)(k i m:Nat)(room:Int)(a b c d:Option D):Ev:=[some (.str w),some (.int rest),some (.ref k),some (.ref i),some (.ref m),some (.int room),a,b,c,d]
theorem ZtA {N:Nat}{s:Str}{w:Str}{rest:Int}{room:Int}{x:Str}{t1:T}{g1 h1:Hd} (hc:opB .Add (.ref k) (.ref h.length) (h++[.lst ([(x,s)].map pairOf)])=.ok (.ref (h.length+1)) h1) (e1:run P N (O "_law_any") [.str (O "n"),.ref (h.length+1),.ref i,.ref m,.int room] h1=.ok t1.d g1):ev (P.tbl N) (.tupl (.cons (.cst (.str (O "fn"))) (.cons (.var 6) (.cons (.call (O "_law_any") (.cons (.cst (.str (O "n"))) (.cons (.bin .Add (.var 2) (.lstl (.cons (.tupl (.cons (.var 6) (.cons (.cst (.str s)) .nil))) .nil))) (.cons (.var 3) (.cons (.var 4) (.cons (.var 5) .nil)))))) .nil)))) (fe w rest k i m room (some (.str x)) none none none) h=.ok (T.fn x t1).d g1:=by
 have b:ev (P.tbl N) (.bin .Add (.var 2) (.lstl (.cons (.tupl (.cons (.var 6) (.cons (.cst (.str s)) .nil))) .nil))) (fe w rest k i m room (some (.str x)) none none none) h=.ok (.ref (h.length+1)) h1:=(Zg (x:=.ref k) (y:=.ref h.length) (h1:=h) (h2:=h++[.lst ([(x,s)].map pairOf)]) rfl rfl).trans hc;exact ZaF (Zb rfl (Zb rfl (Zb ((ZrA (Zb rfl (Zb b rfl))).trans e1) rfl))) (by simp)
theorem Zro(H:Mk0 P){r n0:Nat}(ih:Zj9 P r n0)(n:Nat)(c:Ctx cs ns h i j m k sc a b)(w:Str)(rest:Int)(room:Int)(hr:room<=r)(hl:sc.length+2+2 * r<=50)(ha:a+2 * A r<2 ^ 50) :
   Made cs h i j sc a b 3 (2 * A r) (3 * r+6) (run P (n+n0+1) (O "_law_function") [.str w,.int rest,.ref k,.ref i,.ref m,.int room] h):=by
 have Ap:=Zh3 r;have hab:=c.ab;rw [ZfV H.function rfl];obtain ⟨x,ex,wx,ax⟩:=c.name (GD:=P.GD) (rest % 5) (by clear ih ha hab hl hr;lia) (by clear ih ha hab hl hr;lia);show Made cs h i j sc a b 3 (2 * A r) (3 * r+6) (Zt (xs2 (P.tbl (n+n0)) (.cons Zap (.cons ZW (.cons ZV (.cons Zao (.cons Zan (.cons Zam (.cons ZU (.cons ZT .nil)))))))) (fe w rest k i m room none none none none) h));have x1:xs1 (P.tbl (n+n0)) Zap (fe w rest k i m room none none none none) h=.ok (.nx,fe w rest k i m room (some (.str x)) none none none) h:=by
   exact Zl (i:=6) ex
 rw [Za x1];by_cases hg:w=O "g"
 . have hc:=Zgn c [(x,O "f")] (by simp;lia);obtain ⟨t1,g1,a1,b1,e1,u1,s1,l1,l2,c1,p1,z1⟩:=ih n cs ns _ i j m (h.length+1) (sc++[(x,O "f")]) a b (O "n") room hr (c.wider [(x,O "f")] (by simp [wx])) (by simp;lia) (by lia);refine ⟨.fn x t1,g1,a1,b1,?_,Up.app.trans u1,s1,l1,by lia,⟨Cl.mono (t:=t1) Zsy c1,wx⟩,by simp only [dep,nb];lia,by simp only [fw];clear ih hl ha;lia⟩;have e:xs1 (P.tbl (n+n0)) ZW (fe w rest k i m room (some (.str x)) none none none) h=.ok (.rt (T.fn x t1).d,fe w rest k i m room (some (.str x)) none none none) g1:=by
     subst hg;exact (Zy rfl).trans (Zc (ZD (ZtA hc e1)))
   rw [Zc e];rfl
 have x2:xs1 (P.tbl (n+n0)) ZW (fe w rest k i m room (some (.str x)) none none none) h=.ok (.nx,fe w rest k i m room (some (.str x)) none none none) h:=by
   exact (Zu (Zm (ZaM rfl rfl) (decide_eq_false hg))).trans rfl
 rw [Za x2];by_cases h3:rest / 5 % 3=0
 . have hc:=Zgn c [(x,O "n")] (by simp;lia);obtain ⟨t1,g1,a1,b1,e1,u1,s1,l1,l2,c1,p1,z1⟩:=ih n cs ns _ i j m (h.length+1) (sc++[(x,O "n")]) a b (O "n") room hr (c.wider [(x,O "n")] (by simp [wx])) (by simp;lia) (by lia);refine ⟨.fn x t1,g1,a1,b1,?_,Up.app.trans u1,s1,l1,by lia,⟨Cl.mono (t:=t1) Zsy c1,wx⟩,by simp only [dep,nb];lia,by simp only [fw];clear ih hl ha;lia⟩;have e:xs1 (P.tbl (n+n0)) ZV (fe w rest k i m room (some (.str x)) none none none) h=.ok (.rt (T.fn x t1).d,fe w rest k i m room (some (.str x)) none none none) g1:=(Zy (Zm (Zdf (x:=rest / 5 % 3) rfl rfl) (decide_eq_true h3))).trans (Zc (ZD (ZtA hc e1)));rw [Zc e];rfl
 have x3:xs1 (P.tbl (n+n0)) ZV (fe w rest k i m room (some (.str x)) none none none) h=.ok (.nx,fe w rest k i m room (some (.str x)) none none none) h:=by
   exact (Zu (Zm (Zdf (x:=rest / 5 % 3) rfl rfl) (decide_eq_false h3))).trans rfl
 obtain ⟨f,ef,wf,af⟩:=c.name (GD:=P.GD) ((rest % 5+1+rest / 15 % 4) % 5) (by clear ih ha hab hl hr;lia) (by clear ih ha hab hl hr;lia);have nfx:f≠x:=unlike c.n5 c.nd ax af;have x4:xs1 (P.tbl (n+n0)) Zao (fe w rest k i m room (some (.str x)) none none none) h=.ok (.nx,fe w rest k i m room (some (.str x)) (some (.str f)) none none) h:=by
   exact Zl (i:=7) ef
 have hc:=Zgn c [(f,O "f"),(x,O "n")] (by simp;lia);have cw:=c.wider [(f,O "f"),(x,O "n")] (by simp [wx,wf]);have sub:∀ y∈(sc++[(f,O "f"),(x,O "n")]).map (·.1),y∈x::f::sc.map (·.1):=fun y hy=>by simp at hy ⊢;rcases hy with z|z|z<;>simp [z]
 generalize hh1:(h++[DO.lst ([(f,O "f"),(x,O "n")].map pairOf),.lst ((sc++[(f,O "f"),(x,O "n")]).map pairOf)])=h1 at hc cw;have ug:Up i h h1:=by rw [<- hh1];exact Up.app
 have hl1:h1.length=h.length+2:=by rw [<- hh1];simp
 have x5:xs1 (P.tbl (n+n0)) Zan (fe w rest k i m room (some (.str x)) (some (.str f)) none none) h=.ok (.nx,fe w rest k i m room (some (.str x)) (some (.str f)) (some (.ref (h.length+1))) none) h1:=by
   exact Zl (i:=8) ((Zg (x:=.ref k) (y:=.ref h.length) (h1:=h) (h2:=h++[.lst ([(f,O "f"),(x,O "n")].map pairOf)]) rfl rfl).trans hc)
 have x6:xs1 (P.tbl (n+n0)) Zam (fe w rest k i m room (some (.str x)) (some (.str f)) (some (.ref (h.length+1))) none) h1=.ok (.nx,fe w rest k i m room (some (.str x)) (some (.str f)) (some (.ref (h.length+1))) (some (T.call (.name f) (.op .sub (.name x) (.num 1))).d)) h1:=by
   exact rfl
 rw [Za x3,Za x4,Za x5,Za x6];generalize hsc:sc++[(f,O "f"),(x,O "n")]=sc1 at cw sub hh1;have hsl:sc1.length=sc.length+2:=by rw [<- hsc];simp
 clear x1 x2 x3 x4 x5 x6 hc hh1 hsc ex ef;have last:∀ (t1:T) (g1:Hd) (a1 b1:Int),Up i h1 g1->St3 g1 i j cs a1 b1->a<=a1->a1<=a+A r->Cl (x::f::sc.map (·.1)) t1->nb t1<=dep t1/\dep t1<=3 * r+4->fw t1<=3 * (pz b - pz b1) ->
     xs1 (P.tbl (n+n0)) ZU (fe w rest k i m room (some (.str x)) (some (.str f)) (some (.ref (h.length+1))) (some (T.call (.name f) (.op .sub (.name x) (.num 1))).d)) h1=.ok (.nx,fe w rest k i m room (some (.str x)) (some (.str f)) (some (.ref (h.length+1))) (some t1.d)) g1 ->
     Made cs h i j sc a b 3 (2 * A r) (3 * r+6) (Zt (xs2 (P.tbl (n+n0)) (.cons ZU (.cons ZT .nil)) (fe w rest k i m room (some (.str x)) (some (.str f)) (some (.ref (h.length+1))) (some (T.call (.name f) (.op .sub (.name x) (.num 1))).d)) h1)):=by
   intro t1 g1 a1 b1 u1 s1 l1 l2 c1 p1 z1 x7;rw [Za x7];obtain ⟨t2,g2,a2,b2,e2,u2,s2,l3,l4,c2,p2,z2⟩:=ih n cs ns g1 i j m (h.length+1) sc1 a1 b1 (O "n") (room - 1) (by clear ha;lia) (cw.up u1 s1 (by clear hl ha hr;lia)) (by clear ha hr;lia) (by clear hl hr;lia);refine ⟨.rcc f x (.iff (.name x) t1 t2),g2,a2,b2,?_,ug.trans (u1.trans u2),s2,Int.le_trans l1 l3,by clear hl hr ha;lia,⟨⟨Oi,c1,Cl.mono sub c2⟩,nfx,wf,wx⟩,by simp only [dep,nb];clear hl hr ha;lia,by simp only [fw];clear hl hr ha ih;lia⟩;have e:xs1 (P.tbl (n+n0)) ZT (fe w rest k i m room (some (.str x)) (some (.str f)) (some (.ref (h.length+1))) (some t1.d)) g1=.ok (.rt (T.rcc f x (.iff (.name x) t1 t2)).d,fe w rest k i m room (some (.str x)) (some (.str f)) (some (.ref (h.length+1))) (some t1.d)) g2:=by
     exact ZD (ZaF (Zb rfl (Zb rfl (Zb rfl (Zb (ZaF (Zb rfl (Zb rfl (Zb rfl (Zb (ZC e2 rfl) rfl)))) (by simp)) rfl)))) (by simp))
   rw [Zc e];rfl
 by_cases q0:rest / 60 % 3=0
 . obtain ⟨t1,g1,a1,b1,e1,u1,s1,l1,l2,c1,p1,z1⟩:=ih n cs ns h1 i j m (h.length+1) sc1 a b (O "n") room hr cw (by clear ha hr;lia) (by clear hl hr;lia);refine last t1 g1 a1 b1 u1 s1 l1 l2 (Cl.mono sub c1) (by lia) (by lia) ?_;exact (Zy (Zm (Zdf (x:=rest / 60 % 3) rfl rfl) (decide_eq_true q0))).trans (Za (Zah e1 rfl rfl))
 . by_cases q1:rest / 60 % 3=1
   . have w2:∃ wd:Wd,atI [D.str (O "+"),.str (O "*")] (rest / 180 % 2)=some (.str wd.s):=by
       have:rest / 180 % 2=0\/rest / 180 % 2=1:=by clear ih ha hl hr q0 q1;lia
       rcases this with z|z<;>rw [z]
       . exact ⟨.add,by simp [Wd.s]⟩
       . exact ⟨.mul,by simp [Wd.s]⟩
     obtain ⟨wd,w2⟩:=w2;obtain ⟨t1,g1,a1,b1,e1,u1,s1,l1,l2,c1,p1,z1⟩:=ih n cs ns _ i j m (h.length+1) sc1 a b (O "n") (room - 1) (by clear ha;lia) (cw.app (g:=[.lst [.str (O "+"),.str (O "*")]])) (by clear ha hr;lia) (by clear hl hr;lia);refine last (.op wd t1 (.call (.name f) (.op .sub (.name x) (.num 1)))) g1 a1 b1 (Up.app.trans u1) s1 l1 l2 ⟨Cl.mono sub c1,Oh _ Oi,Oi,by show (0:Int)<=1/\(1:Int)<1000000;decide⟩ (by simp only [dep,nb];clear hl hr ha;lia) (by simp only [fw];clear hl hr ha ih;lia) ?_;exact (Zu (Zm (Zdf (x:=rest / 60 % 3) rfl rfl) (decide_eq_false q0))).trans (Za ((Zy (Zm (Zdf (x:=rest / 60 % 3) rfl rfl) (decide_eq_true q1))).trans (Za (Zl (i:=9) (ZaF (Zb (ZfF w2 rfl rfl (by simp)) (Zb (ZC e1 rfl) rfl)) (by simp))))))
   . refine last (.call (.name f) (.op .sub (.name x) (.num 1))) h1 a b Up.refl cw.st (Int.le_refl _) (by lia) ⟨Oh _ Oi,Oi,by show (0:Int)<=1/\(1:Int)<1000000;decide⟩ (by simp only [dep,nb];lia) (by simp only [fw];lia) ?_;exact (Zu (Zm (Zdf (x:=rest / 60 % 3) rfl rfl) (decide_eq_false q0))).trans (Za ((Zu (Zm (Zdf (x:=rest / 60 % 3) rfl rfl) (decide_eq_false q1))).trans rfl))
end Gn
end
section
set_option tactic.hygienic false
namespace Gn
open PySem L2 IV
variable {P:Pg}{cs:List Int}{ns:List Str}{h h':Hd}{i j m k:Nat}{sc:Scp}{a b a' b':Int}
theorem Zji(rd:Nat->Option PyData):∀ ys:List Str,D.pys rd (ys.map D.str)=some (ys.map PyData.str)
 | []=>rfl
 | y::ys=>by rw [Op,D.pys,Zji rd ys];rfl
theorem ZqR{l:Nat}{ys:List Str}(e:h[l]? = some (.lst (ys.map .str))):ZaR true (.ref l) (.ref h.length) (h++[.lst []])=.ok (.bl (!ys.isEmpty)) (h++[.lst []]):=by
 have e1:(h++[DO.lst []])[l]? = some (.lst (ys.map .str)):=by rw [Oe (Zi e)];exact e
 have p1:ZdZ (h++[.lst []]) (.ref l)=some (.list (ys.map .str)):=by
   show Zdu (h++[.lst []]) 4 l=_;rw [Zdu,e1];simp [Zji]
 have p2:ZdZ (h++[DO.lst []]) (.ref h.length)=some (.list []):=by
   show Zdu (h++[.lst []]) 4 h.length=_;rw [Zdu,ZgI];rfl
 unfold IV.ZaR;rw [p1,p2];simp only;have d0:min (PyData.list (ys.map .str)).depth (PyData.list []).depth<=1100:=by
   have:(PyData.list []).depth<=1:=by decide +kernel
   lia
 rw [if_pos d0];cases ys with
 | nil=>rfl
 | cons y r=>rfl
theorem Zc0{U:Tb}{R:Sxs}{ρ':Ev}{h':Hd}{s:Sx}{A B_:Sxs}{S:Ev}{h:Hd}(e:xs2 U (.cons s A) S h=.ok (.nx,ρ') h')(q:∀ ρ1 h1,xs2 U A ρ1 h1=.ok (.nx,ρ') h'->xs2 U B_ ρ1 h1=xs2 U R ρ' h'):xs2 U (.cons s B_) S h=xs2 U R ρ' h':=by
 rw [Zek] at e ⊢;cases r1:xs1 U s S h with
 | bad=>rw [r1] at e;cases e
 | exc c h1=>rw [r1] at e;cases e
 | ok p h1 =>
   rw [r1] at e;obtain ⟨fl,ρ1⟩:=p;cases fl with
   | nx=>exact q ρ1 h1 e
   | bk=>cases e
   | ct=>cases e
   | rt d=>cases e
theorem Zr6(R:Sxs)(e:xs2 U (.cons s1 (.cons s2 (.cons s3 (.cons s4 (.cons s5 .nil))))) S h=.ok (.nx,ρ') h'):xs2 U (.cons s1 (.cons s2 (.cons s3 (.cons s4 (.cons s5 R))))) S h=xs2 U R ρ' h' :=
 Zc0 e fun _ _ e=>Zc0 e fun _ _ e=>Zc0 e fun _ _ e=>Zc0 e fun _ _ e=>Zc0 e fun _ _ e=>by cases e;rfl
noncomputable def ae(w:Str)(k i m:Nat)(room v q:Int)(l:Nat)(a b:Option D):Ev:=[some (.str w),some (.ref k),some (.ref i),some (.ref m),some (.int room),some (.int v),some (.int q),some (.ref l),a,b]
theorem any_gen(H:Mk0 P)(n1:Nat)(c:Ctx cs ns h i j m k sc a b)(w:Str)(room:Int)(mx:Int)(dm:Nat)(hdm:2<=dm)(hl:sc.length<=50)(ha:a<2 ^ 50)(hmx:1<=mx)
   (rc:1<=room->∃ r n0 n',room - 1<=(r:Nat)/\Zj9 P r n0/\n1+2=n'+n0+1/\1<=n0/\sc.length+2+2 * r<=50/\1+3 * A r<=mx/\a+mx<2 ^ 50/\3 * r+6<=dm) :
   Made cs h i j sc a b 0 mx dm (run P (n1+3) (O "_law_any") [.str w,.ref k,.ref i,.ref m,.int room] h):=by
 have hab:=c.ab;rw [ZfV H.any rfl];obtain ⟨v,w',ys,h5,l,e5,u5,c5,hy,hys⟩:=Zm7 H n1 c w room hl ha none none none;have st:ZL Zcs.N [.str w,.ref k,.ref i,.ref m,.int room]=[some (.str w),some (.ref k),some (.ref i),some (.ref m),some (.int room),none,none,none,none,none]:=rfl;rw [st,show Zcs.body=.cons ZaB (.cons Zbm (.cons ZaA (.cons Zbl (.cons Zaz (.cons Zay (.cons Z9 (.cons Zbk (.cons Zax (.cons Zai (.cons ZaN .nil)))))))))) from rfl,Zr6 _ e5];show Made cs h i j sc a b 0 mx dm (Zt (xs2 (P.tbl (n1+2)) (.cons Zay (.cons Z9 (.cons Zbk (.cons Zax (.cons Zai (.cons ZaN .nil)))))) (ae w' k i m room v (v / 87) l none none) h5));have nn:=ZqR hy;have t1:tst (P.tbl (n1+2)) (.ex (.cmp .NotEq (.var 7) (.lstl .nil))) (ae w' k i m room v (v / 87) l none none) h5=.ok (!ys.isEmpty) (h5++[.lst []]):=Zbu ((Zv (x:=.ref l) (y:=.ref h5.length) (h1:=h5) (h2:=h5++[DO.lst []]) rfl rfl).trans nn);have t2:∀ h,tst (P.tbl (n1+2)) (.ex (.cmp .Eq (.bin .Mod (.var 6) (.cst (.int 3))) (.cst (.int 0)))) (ae w' k i m room v (v / 87) l none none) h=.ok (decide (v / 87 % 3=0)) h:=fun h=>Zdf rfl rfl;have t8:∀ h,tst (P.tbl (n1+2)) (.ex (.cmp .Eq (.bin .Mod (.var 6) (.cst (.int 8))) (.cst (.int 0)))) (ae w' k i m room v (v / 87 / 30) l none none) h=.ok (decide (v / 87 / 30 % 8=0)) h:=fun h=>Zdf rfl rfl;by_cases hn:ys.isEmpty=false/\v / 87 % 3=0
 ·
   have hp:0<ys.length:=by
     cases ys with
     | nil=>simp at hn
     | cons y r=>simp
   have ix:opB .Mod (.int (v / 87 / 3)) (.int ys.length) (h5++[.lst []])=.ok (.int (v / 87 / 3 % ys.length)) (h5++[.lst []]):=ZH (by lia);have hb:(0:Int)<=v / 87 / 3 % ys.length/\v / 87 / 3 % ys.length<ys.length:=⟨Int.emod_nonneg _ (by lia),Int.emod_lt_of_pos _ (by lia)⟩
   obtain ⟨q,hq⟩:∃ q:Nat,v / 87 / 3 % ys.length=q:=⟨(v / 87 / 3 % ys.length).toNat,by lia⟩
   have hql:q<ys.length:=by lia
   have hl5:(h5++[DO.lst []])[l]? = some (.lst (ys.map .str)):=by rw [Oe (Zi hy)];exact hy
   have len:Za7 P.GD .len [.ref l] (h5++[.lst []])=.ok (.int ys.length) (h5++[.lst []]):=by
     simp only [Za7,Zm1,seqOf,lstOf,hl5];simp
   have at5:ZaE P.GD (.ref l) (.int (q:Int)) (h5++[.lst []])=.ok (.str ys[q]) (h5++[.lst []]):=by
     rw [ZB hl5,IV.Z2,On,Og hql];rfl
   refine ⟨.name ys[q],h5++[.lst []],a+1,b - 1,?_,u5.trans Up.app,c5.st.app,by lia,by lia,hys _ (List.getElem_mem hql),⟨Oq _,Nat.zero_le _⟩,by simp only [fw,pz];lia⟩;have x6:xs1 (P.tbl (n1+2)) Zay (ae w' k i m room v (v / 87) l none none) h5=.ok (.rt (T.name ys[q]).d,(ae w' k i m room v (v / 87) l none none)) (h5++[.lst []]):=by
     have el:ev (P.tbl (n1+2)) (.blt .len (.cons (.var 7) .nil)) (ae w' k i m room v (v / 87) l none none) (h5++[.lst []])=.ok (.int ys.length) (h5++[.lst []]):=len;have ei:ev (P.tbl (n1+2)) (.bin .Mod (.bin .FloorDiv (.var 6) (.cst (.int 3))) (.blt .len (.cons (.var 7) .nil))) (ae w' k i m room v (v / 87) l none none) (h5++[.lst []])=.ok (.int (q:Int)) (h5++[.lst []]):=(Zg (x:=.int (v / 87 / 3)) rfl el).trans (ix.trans (by rw [hq]));rw [hn.1] at t1;exact (Zy (Zj5 t1 (Zm (t2 _) (decide_eq_true hn.2)))).trans (Zc (ZD (ZaF (Zb rfl (Zb ((ZJ (x:=.ref l) rfl ei).trans at5) rfl)) (by simp))))
   rw [Zc x6];rfl
 . have x6:xs1 (P.tbl (n1+2)) Zay (ae w' k i m room v (v / 87) l none none) h5
       = .ok (.nx,(ae w' k i m room v (v / 87) l none none)) (h5++[.lst []]):=by
     cases q:ys.isEmpty with
     | true =>
       rw [q] at t1;exact (Zu (Zm8 t1)).trans rfl
     | false =>
       rw [q] at t1;have h3:¬ v / 87 % 3=0:=fun z=>hn ⟨q,z⟩;exact (Zu (Zj5 t1 (Zm (t2 _) (decide_eq_false h3)))).trans rfl
   have c6:=c5.app (g:=[.lst []]);have u6:=u5.trans (Up.app (i:=i) (g:=[.lst []]));clear t1 nn;generalize hh6:h5++[.lst []]=h6 at x6 c6 u6;rw [Za x6];have ix2:ZaE P.GD (.ref i) (.int 2) h6=.ok (.int (b - 1)) h6:=by rw [ZB c6.st.1];simp
   have r1:tst (P.tbl (n1+2)) (.ex (.cmp .Lt (.var 4) (.cst (.int 1)))) (ae w' k i m room v (v / 87) l none none) h6=.ok (decide (room<1)) h6:=rfl;have r2:tst (P.tbl (n1+2)) (.ex (.cmp .Lt (.ix (.var 2) (.cst (.int 2))) (.cst (.int 0)))) (ae w' k i m room v (v / 87) l none none) h6=.ok (decide (b - 1<0)) h6:=Zbu ((Zv (y:=.int 0) (h2:=h6) ((ZJ (x:=.ref i) (y:=.int 2) rfl rfl).trans ix2) rfl).trans rfl);obtain ⟨t,g,ep,ct,pt⟩:=Zec H (n1+1) w' (v / 87 / 3) h6 (sc.map (·.1));by_cases hr:room<1
   . refine ⟨t,h6++g,a+1,b - 1,?_,u6.trans Up.app,c6.st.app,by lia,by lia,ct,by lia,by simp only [pz];lia⟩;have x7:xs1 (P.tbl (n1+2)) Z9 (ae w' k i m room v (v / 87) l none none) h6=.ok (.rt t.d,(ae w' k i m room v (v / 87) l none none)) (h6++g):=(Zy (ZqF (Zm r1 (decide_eq_true hr)))).trans (Zc (Zah ep rfl rfl));rw [Zc x7];rfl
   . by_cases hb:b - 1<0
     . refine ⟨t,h6++g,a+1,b - 1,?_,u6.trans Up.app,c6.st.app,by lia,by lia,ct,by lia,by simp only [pz];lia⟩;have x7:xs1 (P.tbl (n1+2)) Z9 (ae w' k i m room v (v / 87) l none none) h6=.ok (.rt t.d,(ae w' k i m room v (v / 87) l none none)) (h6++g):=(Zy (Zg4 (Zm r1 (decide_eq_false hr)) (Zm r2 (decide_eq_true hb)))).trans (Zc (Zah ep rfl rfl));rw [Zc x7];rfl
     . obtain ⟨r,n0,n',q1,ih,q2,q3,q4,q5,q6,q7⟩:=rc (by lia);have Ap:=Zh3 r;have x7:xs1 (P.tbl (n1+2)) Z9 (ae w' k i m room v (v / 87) l none none) h6
           = .ok (.nx,(ae w' k i m room v (v / 87) l none none)) h6:=by
         exact (Zu (Zg4 (Zm r1 (decide_eq_false hr)) (Zm r2 (decide_eq_false hb)))).trans rfl
       have x8:xs1 (P.tbl (n1+2)) Zbk (ae w' k i m room v (v / 87) l none none) h6
           = .ok (.nx,(ae w' k i m room v (v / 87 / 30) l none none)) h6:=by
         exact rfl
       rw [Za x7,Za x8];have pb:pz b=pz (b - 1)+1:=by simp only [pz];lia
       by_cases h8:v / 87 / 30 % 8=0
       . obtain ⟨t1,g1,a1,b1,e1,u1,s1,l1,l2,c1,p1,z1⟩:=ih (n'+1) cs ns h6 i j m k sc (a+1) (b - 1) (O "n") (room - 1) q1 c6 (by lia) (by lia);have cc1:=c6.up u1 s1 (by lia);obtain ⟨t2,g2,a2,b2,e2,u2,s2,l3,l4,c2,p2,z2⟩:=ih (n'+1) cs ns g1 i j m k sc a1 b1 w' (room - 1) q1 cc1 (by lia) (by lia);have cc2:=cc1.up u2 s2 (by lia);obtain ⟨t3,g3,a3,b3,e3,u3,s3,l5,l6,c3,p3,z3⟩:=ih (n'+1) cs ns g2 i j m k sc a2 b2 w' (room - 1) q1 cc2 (by lia) (by lia);rw [show n'+1+n0=n1+2 by lia] at e1 e2 e3;refine ⟨.iff t1 t2 t3,g3,a3,b3,?_,u6.trans (u1.trans (u2.trans u3)),s3,by lia,by lia,⟨c1,c2,c3⟩,by simp only [dep,nb];lia,by simp only [fw];rw [pb];clear ih rc;lia⟩;have x9:xs1 (P.tbl (n1+2)) Zax (ae w' k i m room v (v / 87 / 30) l none none) h6=.ok (.rt (T.iff t1 t2 t3).d,(ae w' k i m room v (v / 87 / 30) l (some t1.d) (some t2.d))) g3:=by
           refine (Zy (Zm (t8 _) (decide_eq_true h8))).trans ?_;refine (Za (ρ1:=ae w' k i m room v (v / 87 / 30) l (some t1.d) none) (h1:=g1) (Zah e1 rfl rfl)).trans ?_;refine (Za (ρ1:=ae w' k i m room v (v / 87 / 30) l (some t1.d) (some t2.d)) (h1:=g2) (Zah e2 rfl rfl)).trans ?_;exact Zc (Zah e3 rfl rfl)
         rw [Zc x9];rfl
       . have x9:xs1 (P.tbl (n1+2)) Zax (ae w' k i m room v (v / 87 / 30) l none none) h6=.ok (.nx,(ae w' k i m room v (v / 87 / 30) l none none)) h6:=(Zu (Zm (t8 _) (decide_eq_false h8))).trans rfl;rw [Za x9];by_cases hw:w'=O "n"
         . obtain ⟨t1,g1,a1,b1,e1,u1,s1,l1,l2,c1,p1,z1⟩:=ZqQ H ih q3 n' c6 (v / 87 / 30 / 8) (room - 1) q1 (by lia) (by lia);rw [<- q2] at e1;refine ⟨t1,g1,a1,b1,?_,u6.trans u1,s1,by lia,by lia,c1,by lia,by rw [pb];clear ih rc;lia⟩;have x10:xs1 (P.tbl (n1+2)) Zai (ae w' k i m room v (v / 87 / 30) l none none) h6=.ok (.rt t1.d,(ae w' k i m room v (v / 87 / 30) l none none)) g1:=(Zy (Zm (ZaM rfl rfl) (decide_eq_true hw))).trans (Zc (Zah e1 rfl rfl));rw [Zc x10];rfl
         . obtain ⟨t1,g1,a1,b1,e1,u1,s1,l1,l2,c1,p1,z1⟩:=Zro H ih n' c6 w' (v / 87 / 30 / 8) (room - 1) q1 (by lia) (by lia);rw [<- q2] at e1;refine ⟨t1,g1,a1,b1,?_,u6.trans u1,s1,by lia,by lia,c1,by lia,by rw [pb];clear ih rc;lia⟩;have x10:xs1 (P.tbl (n1+2)) Zai (ae w' k i m room v (v / 87 / 30) l none none) h6=.ok (.nx,(ae w' k i m room v (v / 87 / 30) l none none)) h6:=(Zu (Zm (ZaM rfl rfl) (decide_eq_false hw))).trans rfl;have x11:xs1 (P.tbl (n1+2)) ZaN (ae w' k i m room v (v / 87 / 30) l none none) h6=.ok (.rt t1.d,(ae w' k i m room v (v / 87 / 30) l none none)) g1:=Zah e1 rfl rfl;rw [Za x10,Zc x11];rfl
theorem Zm6(H:Mk0 P):∀ r:Nat,Zj9 P r (2 * r+3)
 | 0=>fun n cs ns h i j m k sc a b w room hr c hl ha=>by
   have:=any_gen H n c w room (A 0) 3 (by decide) (by lia) (by have:=Zh3 0;lia) (by decide) (fun z=>by lia);exact this
 | r+1=>fun n cs ns h i j m k sc a b w room hr c hl ha=>by
   have Ap:=Zh3 r;have As:=Zr0 r;have:=any_gen H (n+2 * r+2) c w room (A (r+1)) (3 * (r+1)+3) (by lia) (by lia) (by lia) (by lia) (fun _=>⟨r,2 * r+3,n,by lia,Zm6 H r,by lia,by lia,by lia,by lia,by lia,by lia⟩);rw [show n+(2 * (r+1)+3)=n+2 * r+2+3 by lia];exact this
end Gn
end
section
namespace Gn
open PySem L2 IV
noncomputable def front:T->List D
 | .num n=>[.str (O "num"),.int n]
 | .name x=>[.str (O "name"),.str x]
 | .fn x _=>[.str (O "fn"),.str x]
 | .rcc f x _=>[.str (O "rec"),.str f,.str x]
 | .call _ _=>[.str (O "call")]
 | .iff _ _ _=>[.str (O "if")]
 | .op w _ _=>[.str w.s]
theorem ZrJ(t:T):t.d=.tup (front t++t.parts.map T.d):=by cases t<;>rfl
noncomputable def ZaV:D->Bool
 | .str _|.int _=>true
 | _=>false
theorem ZiG(t:T):∀ d∈front t,ZaV d=true:=by cases t<;>simp [front,ZaV]
theorem Zhl (hf:ZaV d=true):Za7 GD .isi [d,.ty "tuple"] h=.ok (.bl false) h:=by
 cases d with
 | str x=>rfl
 | int x=>rfl
 | _=>cases hf
theorem ZoE:Za7 GD .isi [.tup xs,.ty "tuple"] h=.ok (.bl true) h:=rfl
noncomputable abbrev isT:Tx:=.ex (.blt .isi (.cons (.var 0) (.cons (.cst (.ty "tuple")) .nil)))
theorem Ze4{U:Tb}{acc rest:List D}:∀ ds:List D,(∀ d∈ds,ZaV d=true)->acc.length<sizeLine->Zq [] (.nm 0) (tsto U (some isT)) (ev U e) (ds++rest) [none] acc h=Zq [] (.nm 0) (tsto U (some isT)) (ev U e) rest [none] acc h
 | [],_,_=>rfl
 | d::ds,hd,hz=>by
   have:=Zhl (GD:=U.GD) (h:=h) (hd d (by simp));rw [List.cons_append,Zx];simp [Wk.stays,hz,this];exact Ze4 ds (fun x hx=>hd x (by simp [hx])) hz
theorem Ze2{U:Tb}{f:T->Int}:∀ (ts:List T) (acc:List D) (h:Hd),(∀ t∈ts,∀ h,∃ g,ev U e [some t.d] h=.ok (.int (f t)) (h++g))->acc.length+ts.length<=1000->∃ g,Zq [] (.nm 0) (tsto U (some isT)) (ev U e) (ts.map T.d) [none] acc h=.ok (acc++ts.map fun t=>.int (f t)) (h++g)
 | [],acc,h,_,_=>⟨[],by simp [Zq,Wk.stays]⟩
 | t::ts,acc,h,ht,hz=>by
   simp only [Os] at hz;obtain ⟨g1,e1⟩:=ht t (by simp) h;obtain ⟨g2,e2⟩:=Ze2 (U:=U) (e:=e) (f:=f) ts (acc++[.int (f t)]) (h++g1) (fun x hx=>ht x (by simp [hx])) (by simp;lia);refine ⟨g1++g2,?_⟩;have hz2:acc.length<sizeLine:=by rw [sizeLine_eq];lia
   have it:Za7 U.GD .isi [t.d,.ty "tuple"] h=.ok (.bl true) h:=by rw [ZrJ];exact ZoE
   rw [Op,Zx];simp [Wk.stays,hz2,it,e1,e2]
theorem ZhC{U:Tb}{f:T->Int}(t:T)(h:Hd)(ht:∀ s∈t.parts,∀ h,∃ g,ev U e [some s.d] h=.ok (.int (f s)) (h++g)):∃ g,Zq [] (.nm 0) (tsto U (some isT)) (ev U e) (front t++t.parts.map T.d) [none] [] h=.ok (t.parts.map fun s=>.int (f s)) (h++g):=by
 obtain ⟨g,e1⟩:=Ze2 (f:=f) t.parts [] h ht (by cases t<;>simp [T.parts]);refine ⟨g,?_⟩;rw [Ze4 _ (ZiG t) (by rw [sizeLine_eq];simp),e1];simp
theorem ints_map(f:T->Int):∀ ts:List T,intsOf (ts.map fun s=>D.int (f s))=some (ts.map f)
 | []=>rfl
 | t::ts=>by rw [Op,intsOf,ints_map f ts];rfl
variable {P:Pg}
theorem Zjd(t:T):(t.size:Int)=1+(t.parts.map fun s=>(s.size:Int)).sum:=by
 unfold T.size;rw [T.places_parts];have:∀ ts:List T,((ts.flatMap T.places).length:Int)=(ts.map fun s=>(s.places.length:Int)).sum:=by
   intro ts;induction ts with
   | nil=>rfl
   | cons t ts ih=>rw [List.flatMap_cons,OA,Op,OI,<- ih];lia
 rw [Os,<- this]
 lia
theorem ZF{t s:T}(hs:s∈t.parts):dep s<dep t:=by
 cases t<;>simp [T.parts] at hs<;>simp only [dep]
 . subst hs;lia
 . subst hs;lia
 . rcases hs with rfl|rfl<;>lia
 . rcases hs with rfl|rfl|rfl<;>lia
 . rcases hs with rfl|rfl<;>lia
theorem Zlp (H:Mk0 P):∀ (d n:Nat) (t:T) (h:Hd),dep t<=d->∃ g,run P (n+d+1) (O "_law_width") [t.d] h=.ok (.int t.size) (h++g):=by
 intro d;induction d with
 | zero =>
   intro n t h hd;rw [Zj H.width rfl];obtain ⟨g,e⟩:=ZhC (U:=⟨P.G,P.GD,run P (n+0),P.L⟩) (e:=.call (O "_law_width") (.cons (.var 0) .nil)) (f:=fun s=>(s.size:Int)) t h (fun s hs=>by have:=ZF hs;lia);refine ⟨g++[.lst (t.parts.map fun s=>.int s.size)],?_⟩;rw [Zjd,ZrJ];have sm:Za7 P.GD .sum [.ref (h++g).length] (h++g++[.lst (t.parts.map fun s=>D.int s.size)])=.ok (.int (t.parts.map fun s=>(s.size:Int)).sum) (h++g++[.lst (t.parts.map fun s=>D.int s.size)]):=by
     simp only [Za7,ZmZ,lstOf,ZgI,Option.bind_some,ints_map];rfl
   simp at sm e;simp [Zbb,Zb7,ZL,ZaD,Zbd,e,sm]
 | succ d ih =>
   intro n t h hd;rw [Zj H.width rfl];obtain ⟨g,e⟩:=ZhC (U:=⟨P.G,P.GD,run P (n+(d+1)),P.L⟩) (e:=.call (O "_law_width") (.cons (.var 0) .nil)) (f:=fun s=>(s.size:Int)) t h (fun s hs h1=>by
     have:=ZF hs;obtain ⟨g,e⟩:=ih n s h1 (by lia);refine ⟨g,?_⟩;have e':run P (n+(d+1)) (O "_law_width") [s.d] h1=.ok (.int s.size) (h1++g):=e;simp [e'])
   refine ⟨g++[.lst (t.parts.map fun s=>.int s.size)],?_⟩;rw [Zjd,ZrJ];have sm:Za7 P.GD .sum [.ref (h++g).length] (h++g++[.lst (t.parts.map fun s=>D.int s.size)])=.ok (.int (t.parts.map fun s=>(s.size:Int)).sum) (h++g++[.lst (t.parts.map fun s=>D.int s.size)]):=by
     simp only [Za7,ZmZ,lstOf,ZgI,Option.bind_some,ints_map];rfl
   simp at sm e;simp [Zbb,Zb7,ZL,ZaD,Zbd,e,sm]
end Gn
end
section
namespace Gn
open PySem L2 IV
variable {P:Pg}
theorem Ze3(H:Mk0 P)(hk:h[k]? = some (.lst xs0)):∀ (xs:List Int) (j:Nat) (acc:List Int),acc.length+xs.length<=1000->j+xs.length<=1000->∃ cs:List Int,cs.length=acc.length+xs.length /\
   Zq [(k,xs0)] (.two 0 1) (tsto ⟨P.G,P.GD,run P (n+1),P.L⟩ none) (ev ⟨P.G,P.GD,run P (n+1),P.L⟩ (.call (O "_law_mixed") (.cons (.var 1) (.cons (.bin .Add (.var 0) (.cst (.int 2))) .nil)))) (xs.mapIdx fun q x=>D.tup [.int ((q+j:Nat):Int),.int x]) [none,none] (acc.map .int) h
     = .ok (cs.map .int) h
 | [],j,acc,_,_=>⟨acc,by simp,by simp [Zq,Wk.stays,hk]⟩
 | x::xs,j,acc,h1,h2=>by
   simp only [Os] at h1 h2;obtain ⟨cs,q1,q2⟩:=Ze3 H hk xs (j+1) (acc++[mixed x ((j:Int)+2)]) (by simp;lia) (by lia);refine ⟨cs,by simp at q1;simp;lia,?_⟩;have e1:=Zet H n x ((j:Int)+2) h ⟨by lia,by lia⟩;have hz:acc.length<sizeLine:=by rw [sizeLine_eq];lia
   have ei:(fun (q:Nat) (x:Int)=>D.tup [.int ((q+1+j:Nat):Int),.int x])=fun q x=>D.tup [.int ((q+(j+1):Nat):Int),.int x]:=by
     funext q x;rw [show q+1+j=q+(j+1) by lia]
   rw [List.mapIdx_cons,Zx];simp only [Wk.stays,hk,decide_true,true_and,List.length_map,hz,if_true,ZmV,List.set_cons_zero,List.set_cons_succ,Zke,Zkq,Zr,bind_ok,Zgi,ZeU,ZjL,ZmD,O0,OJ,Option.join_some,ofO_some,ZmF,Zry,Zoj,Nat.zero_add,e1];rw [ei];have:=q2;rw [List.map_append] at this;exact this
end Gn
end
section
set_option tactic.hygienic false
namespace Gn
open PySem L2 IV
variable {P:Pg}{cs:List Int}{ns:List Str}{h h':Hd}{i j m:Nat}{a b:Int}
theorem ZrU(H:Mk0 P)(r N:Nat)(hN:2 * r+3<=N)(c:Ctx cs ns h i j m k sc a b)(w:Str)(room:Int)(hr:room<=r)(hl:sc.length+2 * r<=50)(ha:a+A r<2 ^ 50) :
   Made cs h i j sc a b 0 (A r) (3 * r+3) (run P N (O "_law_any") [.str w,.ref k,.ref i,.ref m,.int room] h):=by
 have:=Zm6 H r (N - (2 * r+3)) cs ns h i j m k sc a b w room hr c hl ha;rw [show N - (2 * r+3)+(2 * r+3)=N by lia] at this;exact this
theorem ZsH(zs:List Int)(st:Int)(hz:zs.length<=100):∃ ys:List Int,ys.length<=100/\∀ h:Hd,Zg5 (.ro (zs.map D.int)) (some st) none h=.ok (.ref h.length) (h++[.lst (ys.map .int)]):=by
 refine ⟨(zs.drop (HT.sIx zs.length 0 (some st))).take (HT.sIx zs.length zs.length none - HT.sIx zs.length 0 (some st)),?_,fun h=>?_⟩
 . rw [List.length_take,List.length_drop]
   lia
 . show Zbs (.lst (cutD (zs.map D.int) (some st) none)) h=_;simp [cutD,List.map_drop,List.map_take]
end Gn
end
section
namespace Rw
open PySem L2 IV Gn
mutual
inductive Th where
 | num (n:Int)|clo (E:T) (ar:Ar)
inductive Ar where
 | nil|cons (x:Str) (v:Th) (r:Ar)
end
mutual
noncomputable def Th.d:Th->D
 | .num n=>.tup [.str (O "num"),.int n]
 | .clo E ar=>.tup [.str (O "clo"),E.d,.tup ar.ds]
noncomputable def Ar.ds:Ar->List D
 | .nil=>[]
 | .cons x v r=>.tup [.str x,v.d]::r.ds
end
noncomputable def Ar.len:Ar->Nat
 | .nil=>0
 | .cons _ _ r=>r.len+1
noncomputable def thD:Option Th->D
 | none=>.non
 | some v=>v.d
variable {P:Pg}{h:Hd}
end Rw
end
section
namespace IV
open PySem L2
mutual
noncomputable def D.pure:D->Bool
 | .non|.bl _|.int _|.str _=>true
 | .tup xs=>D.pures xs
 | _=>false
noncomputable def D.pures:List D->Bool
 | []=>true
 | x::xs=>D.pure x&&D.pures xs
end
mutual
noncomputable def D.dp:D->Nat
 | .tup xs=>D.dps xs+1
 | _=>0
noncomputable def D.dps:List D->Nat
 | []=>0
 | x::xs=>max (D.dp x) (D.dps xs)
end
mutual
theorem ZfZ:∀ d:D,d.pure=true->∃ p,D.py rd d=some p/\p.depth<=d.dp/\PyData.eqv p p=true
 | .non,_=>⟨.none,rfl,Oq _,rfl⟩
 | .bl b,_=>⟨.bool b,rfl,Oq _,by simp [PyData.eqv]⟩
 | .int b,_=>⟨.int b,rfl,Oq _,by simp [PyData.eqv]⟩
 | .str b,_=>⟨.str b,rfl,Oq _,by simp [PyData.eqv]⟩
 | .tup xs,h=>by
   obtain ⟨ps,e1,e2,e3⟩:=pys_same (rd:=rd) xs (by simpa [D.pure] using h);refine ⟨.tuple ps,by simp [D.py,e1],?_,?_⟩
   . simp only [PyData.depth,D.dp];lia
   . simpa [PyData.eqv] using e3
 | .ref _,h=>by cases h
 | .ty _,h=>by cases h
 | .ro _,h=>by cases h
 | .kd _,h=>by cases h
theorem pys_same:∀ ds:List D,D.pures ds=true->∃ ps,D.pys rd ds=some ps/\PyData.depthAll ps<=D.dps ds/\PyData.eqvAll ps ps=true
 | [],_=>⟨[],rfl,Oq _,by simp [PyData.eqvAll]⟩
 | x::xs,h=>by
   rw [D.pures,Oa] at h;obtain ⟨p,a1,a2,a3⟩:=ZfZ (rd:=rd) x h.1;obtain ⟨ps,b1,b2,b3⟩:=pys_same (rd:=rd) xs h.2;refine ⟨p::ps,by simp [D.pys,a1,b1],?_,?_⟩
   . simp only [PyData.depthAll,D.dps];lia
   . simp [PyData.eqvAll,a3,b3]
end
theorem Zdx(hp:d.pure=true)(hd:d.dp<=1100):ZaR n d d h=.ok (.bl (!n)) h:=by
 obtain ⟨p,e1,e2,e3⟩:=ZfZ (rd:=Zdu h 4) d hp;unfold ZaR;rw [show ZdZ h d=some p from e1];simp only;rw [if_pos (by lia),e3];cases n<;>rfl
end IV
end
section
namespace Tm
open PySem L2 IV
noncomputable def Z0:Sxs:=(.cons (.iff (.ex (.cmp .NotIn (.ix (.var 0) (.cst (.int 0))) (.glo (O "FORMS")))) (.cons (.ret (.tupl .nil)) .nil) .nil) (.cons (.ret (.sl (.var 0) (some (.cst (.int 1))) (some (.bin .Add (.cst (.int 1)) (.ix (.ix (.glo (O "FORMS")) (.ix (.var 0) (.cst (.int 0)))) (.cst (.int 0))))))) .nil))
noncomputable def Zas:Fd:=⟨[(O "E")],[(O "E")],Z0⟩
noncomputable def Za1:Sxs:=(.cons (.iff (.ex (.cmp .NotIn (.ix (.var 0) (.cst (.int 0))) (.glo (O "FORMS")))) (.cons (.ret (.var 0)) .nil) .nil) (.cons (.ret (.sl (.var 0) none (some (.bin .Add (.cst (.int 1)) (.ix (.ix (.glo (O "FORMS")) (.ix (.var 0) (.cst (.int 0)))) (.cst (.int 0))))))) .nil))
noncomputable def ZeS:Fd:=⟨[(O "E")],[(O "E")],Za1⟩
noncomputable def ZZ:Sxs:=(.cons (.iff (.ex (.cmp .NotIn (.ix (.var 0) (.cst (.int 0))) (.glo (O "FORMS")))) (.cons (.ret (.cst (.int 0))) .nil) .nil) (.cons (.ret (.ix (.ix (.glo (O "FORMS")) (.ix (.var 0) (.cst (.int 0)))) (.cst (.int 1)))) .nil))
noncomputable def ZcI:Fd:=⟨[(O "front")],[(O "front")],ZZ⟩
noncomputable def Zj4:Sxs:=(.cons (.set (.nm 1) (.lstl .nil)) (.cons (.forr (.nm 2) (.rev (.var 0)) (.cons (.set (.nm 3) (.comp [(O "k"),(O "done")] [none,some 1] (.rng (.call (O "count_parts") (.cons (.var 2) .nil))) (.nm 0) none (.meth .pop (.var 1) .nil))) (.cons (.drp (.meth .app (.var 1) (.cons (.bin .Add (.var 2) (.blt .tup (.cons (.var 3) .nil))) .nil))) .nil))) (.cons (.ret (.ix (.var 1) (.cst (.int 0)))) .nil)))
noncomputable def Zgf:Fd:=⟨[(O "fronts")],[(O "fronts"),(O "done"),(O "front"),(O "parts")],Zj4⟩
noncomputable def ZcZ:Sxs:=(.cons (.forr (.two 2 3) (.pl (.var 1)) (.cons (.iff (.ex (.cmp .Eq (.var 2) (.var 0))) (.cons (.ret (.var 3)) .nil) .nil) .nil)) (.cons (.ret (.cst .non)) .nil))
noncomputable def ZeT:Fd:=⟨[(O "name"),(O "around")],[(O "name"),(O "around"),(O "known"),(O "thing")],ZcZ⟩
noncomputable def ZmX:Sxs:=(.cons (.iff (.ex (.cmp .Eq (.ix (.var 0) (.cst (.int 0))) (.cst (.str (O "clo"))))) (.cons (.ret (.sl (.var 0) (some (.cst (.int 1))) none)) .nil) .nil) (.cons (.ret (.tupl (.cons (.var 0) (.cons (.tupl .nil) .nil)))) .nil))
noncomputable def Zhs:Fd:=⟨[(O "thing")],[(O "thing")],ZmX⟩
noncomputable def ZiS:Sxs:=(.cons (.iff (.ex (.cmp .NotEq (.ix (.var 0) (.cst (.int 0))) (.cst (.str (O "name"))))) (.cons (.ret (.cst .non)) .nil) .nil) (.cons (.ret (.call (O "bound_to") (.cons (.ix (.var 0) (.cst (.int 1))) (.cons (.var 1) .nil)))) .nil))
noncomputable def ZbI:Fd:=⟨[(O "place"),(O "around")],[(O "place"),(O "around")],ZiS⟩
noncomputable def ZhL:Sxs:=(.cons (.ret (.bin .Add (.blt .tup (.cons (.comp [(O "name")] [none] (.pl (.call (O "bound_names") (.cons (.var 0) .nil))) (.nm 0) none (.tupl (.cons (.var 0) (.cons (.cst .non) .nil)))) .nil)) (.var 1))) .nil)
noncomputable def ZeN:Fd:=⟨[(O "place"),(O "around")],[(O "place"),(O "around")],ZhL⟩
noncomputable def ZbK:Sx:=(.set (.nm 2) (.blt .tup (.cons (.comp [(O "name"),(O "filling")] [none,some 1] (.dk (.var 1)) (.nm 0) none (.tupl (.cons (.var 0) (.cons (.tupl (.cons (.cst (.str (O "clo"))) (.cons (.ix (.var 1) (.var 0)) (.cons (.tupl .nil) .nil)))) .nil)))) .nil)))
noncomputable def ZbJ:Sx:=(.ret (.mcl (O "Pen") (O "filled") (.mk (O "Pen") (.cons (.cst .non) .nil)) (.cons (.var 0) (.cons (.var 2) .nil))))
noncomputable def ZmW:Sxs:=(.cons ZbK (.cons ZbJ .nil))
noncomputable def ZeO:Fd:=⟨[(O "E"),(O "filling")],[(O "E"),(O "filling"),(O "around")],ZmW⟩
noncomputable def Zcj:Sxs:=(.cons (.seta [(O "Pen")] (.var 0) (O "most") (.var 1)) (.cons (.seta [(O "Pen")] (.var 0) (O "used") (.cst (.int 0))) .nil))
noncomputable def Zag:Fd:=⟨[(O "self"),(O "most")],[(O "self"),(O "most")],Zcj⟩
noncomputable def Zgw (x:Sx):Sxs:=(.cons (.iff (.ex (.cmp .Eq (.att [(O "Pen")] (.var 0) (O "used")) (.att [(O "Pen")] (.var 0) (O "most")))) (.cons x .nil) .nil) (.cons (.auga [(O "Pen")] (.var 0) (O "used") (.cst (.int 1))) .nil))
noncomputable def ZiI (x:Sx):Fd:=⟨[(O "self")],[(O "self")],Zgw x⟩
noncomputable def ZdM:Sxs:=Zgw .any
noncomputable def ZdE:Fd:=⟨[(O "self")],[(O "self")],ZdM⟩
noncomputable def ZbM:Sxs:=(.cons (.set (.nm 3) (.lstl .nil)) (.cons (.set (.nm 4) (.lstl (.cons (.tupl (.cons (.var 1) (.cons (.var 2) .nil))) .nil))) (.cons (.whl (.ex (.var 4)) (.cons (.set (.nm 5) (.meth .pop (.var 4) .nil)) (.cons (.set (.nm 6) (.call (O "meant_by") (.cons (.ix (.var 5) (.cst (.int 0))) (.cons (.ix (.var 5) (.cst (.int 1))) .nil)))) (.cons (.iff (.ex (.cmp .Is (.var 6) (.cst .non))) (.cons (.drp (.mcl (O "Pen") (O "take_place") (.var 0) .nil)) (.cons (.drp (.meth .app (.var 3) (.cons (.call (O "front_of") (.cons (.ix (.var 5) (.cst (.int 0))) .nil)) .nil))) (.cons (.set (.nm 7) (.call (O "within") (.cons (.ix (.var 5) (.cst (.int 0))) (.cons (.ix (.var 5) (.cst (.int 1))) .nil)))) (.cons (.drp (.meth .ext (.var 4) (.cons (.comp [(O "part"),(O "inner")] [none,some 7] (.rev (.call (O "parts_of") (.cons (.ix (.var 5) (.cst (.int 0))) .nil))) (.nm 0) none (.tupl (.cons (.var 0) (.cons (.var 1) .nil)))) .nil))) .nil)))) (.cons (.drp (.meth .app (.var 4) (.cons (.call (O "opened") (.cons (.var 6) .nil)) .nil))) .nil)) .nil)))) (.cons (.ret (.call (O "built") (.cons (.var 3) .nil))) .nil))))
noncomputable def Zde:Fd:=⟨[(O "self"),(O "E"),(O "around")],[(O "self"),(O "E"),(O "around"),(O "fronts"),(O "waiting"),(O "pair"),(O "thing"),(O "inner")],ZbM⟩
structure Trb(P:Pg):Prop extends Gn.Tre P where
 bound_names:P.tb.lookup (O "bound_names")=some Zas
 front_of:P.tb.lookup (O "front_of")=some ZeS
 count_parts:P.tb.lookup (O "count_parts")=some ZcI
 built:P.tb.lookup (O "built")=some Zgf
 bound_to:P.tb.lookup (O "bound_to")=some ZeT
 opened:P.tb.lookup (O "opened")=some Zhs
 meant_by:P.tb.lookup (O "meant_by")=some ZbI
 within:P.tb.lookup (O "within")=some ZeN
 n_Pen___init__:P.tb.lookup (mnm (O "Pen") (O "__init__"))=none
 Pen___init__:P.ms.lookup (mnm (O "Pen") (O "__init__"))=some Zag
 n_Pen_take_place:P.tb.lookup (mnm (O "Pen") (O "take_place"))=none
 tk:∃ x,P.ms.lookup (mnm (O "Pen") (O "take_place"))=some (ZiI x)
 n_Pen_filled:P.tb.lookup (mnm (O "Pen") (O "filled"))=none
 Pen_filled:P.ms.lookup (mnm (O "Pen") (O "filled"))=some Zde
end Tm
end
section
namespace Tm
open PySem L2 IV
variable {P:Pg}{h:Hd}
section
variable {w:Wd}
@[simp] theorem ZtY:(w.s=O "name")↔False:=by cases w<;>simp [Wd.s]
@[simp] theorem Zve:(w.s=O "fn")↔False:=by cases w<;>simp [Wd.s]
@[simp] theorem Zt6:(w.s=O "rec")↔False:=by cases w<;>simp [Wd.s]
@[simp] theorem Zel:ZX Gn.ZbC (.inr w.s)=some (.tup [.int 0,.int 2]):=by cases w<;>rfl
end
noncomputable def bnd:T->List Str
 | .fn x _=>[x]
 | .rcc f x _=>[f,x]
 | _=>[]
noncomputable def fr:T->List D
 | .num n=>[.str (O "num"),.int n]
 | .name x=>[.str (O "name"),.str x]
 | .fn x _=>[.str (O "fn"),.str x]
 | .rcc f x _=>[.str (O "rec"),.str f,.str x]
 | .call _ _=>[.str (O "call")]
 | .iff _ _ _=>[.str (O "if")]
 | .op w _ _=>[.str w.s]
theorem ZrI(t:T):t.d=.tup (fr t++t.parts.map T.d):=by cases t<;>rfl
theorem Zpt (H:Gn.Tre P) (hb:P.tb.lookup (O "bound_names")=some Zas) (n:Nat) (t:T) (h:Hd):run P (n+1) (O "bound_names") [t.d] h=.ok (.tup ((bnd t).map .str)) h:=by
 have no:∀ (w:Str) (ds:List D),ZX Gn.ZbC (.inr w)=none->run P (n+1) (O "bound_names") [.tup (.str w::ds)] h=.ok (.tup []) h:=fun w ds e=>by
   rw [Zj hb rfl];show Zt (xs2 (P.tbl n) Z0 [some (.tup (.str w::ds))] h)=_;rw [Z0,Zc ((Zy (Gn.Za8 H ⟨rfl,rfl⟩ Gn.ZcD e)).trans (Zc (ZD (d:=.tup []) rfl)))];rfl
 have yes:∀ (w:Str) (ds:List D) (a b:Int),ZX Gn.ZbC (.inr w)=some (.tup [.int a,.int b])->run P (n+1) (O "bound_names") [.tup (.str w::ds)] h=.ok (.tup (cutD (.str w::ds) (some 1) (some (1+a)))) h:=fun w ds a b e=>by
   rw [Zj hb rfl];show Zt (xs2 (P.tbl n) Z0 [some (.tup (.str w::ds))] h)=_;have q:=Gn.ZiH H (U:=P.tbl n) ⟨rfl,rfl⟩ (ds:=ds) (h:=h) e;have r:ev (P.tbl n) (.sl (.var 0) (some (.cst (.int 1))) (some (.bin .Add (.cst (.int 1)) (.ix (.ix (.glo (O "FORMS")) (.ix (.var 0) (.cst (.int 0)))) (.cst (.int 0)))))) [some (.tup (.str w::ds))] h=.ok (.tup (cutD (.str w::ds) (some 1) (some (1+a)))) h:=(Gn.Zfu (a:=.var 0) (x:=.tup (.str w::ds)) rfl rfl (Gn.Zgh q)).trans rfl;rw [Z0,Za ((Zu (Gn.Za8 H ⟨rfl,rfl⟩ Gn.ZcD e)).trans rfl),Zc (ZD r)];rfl
 cases t with
 | num z=>exact no (O "num") _ rfl
 | name x=>exact no (O "name") _ rfl
 | fn x e=>exact yes (O "fn") _ 1 1 rfl
 | rcc f x e=>exact yes (O "rec") _ 2 1 rfl
 | call f a=>exact yes (O "call") _ 0 2 rfl
 | iff c a b=>exact yes (O "if") _ 0 3 rfl
 | op w a b=>exact yes w.s _ 0 2 Zel
theorem ZnG (H:Trb P) (n:Nat) (t:T) (h:Hd):run P (n+1) (O "bound_names") [t.d] h=.ok (.tup ((bnd t).map .str)) h:=Zpt H.toTre H.bound_names n t h
theorem Zhr (H:Trb P) (n:Nat) (h:Hd) (w:Str) (ds:List D) (e:ZX Gn.ZbC (.inr w)=none):run P (n+1) (O "front_of") [.tup (.str w::ds)] h=.ok (.tup (.str w::ds)) h:=by
 rw [Zj H.front_of rfl];show Zt (xs2 (P.tbl n) Za1 [some (.tup (.str w::ds))] h)=_;rw [Za1,Zc ((Zy (Gn.Za8 H.toTre ⟨rfl,rfl⟩ Gn.ZcD e)).trans (Zc (ZD (d:=.tup (.str w::ds)) rfl)))];rfl
theorem ZbB (H:Trb P) (n:Nat) (h:Hd) (w:Str) (ds:List D) (a b:Int) (e:ZX Gn.ZbC (.inr w)=some (.tup [.int a,.int b])):run P (n+1) (O "front_of") [.tup (.str w::ds)] h=.ok (.tup (cutD (.str w::ds) none (some (1+a)))) h:=by
 rw [Zj H.front_of rfl];show Zt (xs2 (P.tbl n) Za1 [some (.tup (.str w::ds))] h)=_;have q:=Gn.ZiH H.toTre (U:=P.tbl n) ⟨rfl,rfl⟩ (ds:=ds) (h:=h) e;have r:ev (P.tbl n) (.sl (.var 0) none (some (.bin .Add (.cst (.int 1)) (.ix (.ix (.glo (O "FORMS")) (.ix (.var 0) (.cst (.int 0)))) (.cst (.int 0)))))) [some (.tup (.str w::ds))] h=.ok (.tup (cutD (.str w::ds) none (some (1+a)))) h:=(Gn.Zfu (a:=.var 0) (x:=.tup (.str w::ds)) rfl rfl (Gn.Zgh q)).trans rfl;rw [Za1,Za ((Zu (Gn.Za8 H.toTre ⟨rfl,rfl⟩ Gn.ZcD e)).trans rfl),Zc (ZD r)];rfl
theorem ZnC (H:Trb P) (n:Nat) (t:T) (h:Hd):run P (n+1) (O "front_of") [t.d] h=.ok (.tup (fr t)) h:=by
 cases t with
 | num z=>exact Zhr H n h (O "num") _ rfl
 | name x=>exact Zhr H n h (O "name") _ rfl
 | fn x e=>exact ZbB H n h (O "fn") _ 1 1 rfl
 | rcc f x e=>exact ZbB H n h (O "rec") _ 2 1 rfl
 | call f a=>exact ZbB H n h (O "call") _ 0 2 rfl
 | iff c a b=>exact ZbB H n h (O "if") _ 0 3 rfl
 | op w a b=>exact ZbB H n h w.s _ 0 2 Zel
theorem ZnD (H:Trb P) (n:Nat) (t:T) (h:Hd):run P (n+1) (O "count_parts") [.tup (fr t)] h=.ok (.int t.parts.length) h:=by
 have no:∀ (w:Str) (ds:List D),ZX Gn.ZbC (.inr w)=none->run P (n+1) (O "count_parts") [.tup (.str w::ds)] h=.ok (.int 0) h:=fun w ds e=>by
   rw [Zj H.count_parts rfl];show Zt (xs2 (P.tbl n) ZZ [some (.tup (.str w::ds))] h)=_;rw [ZZ,Zc ((Zy (Gn.Za8 H.toTre ⟨rfl,rfl⟩ Gn.ZcD e)).trans (Zc (ZD (d:=.int 0) rfl)))];rfl
 have yes:∀ (w:Str) (ds:List D) (a b:Int),ZX Gn.ZbC (.inr w)=some (.tup [.int a,.int b])->run P (n+1) (O "count_parts") [.tup (.str w::ds)] h=.ok (.int b) h:=fun w ds a b e=>by
   rw [Zj H.count_parts rfl];show Zt (xs2 (P.tbl n) ZZ [some (.tup (.str w::ds))] h)=_;have r:ev (P.tbl n) (.ix (.ix (.glo (O "FORMS")) (.ix (.var 0) (.cst (.int 0)))) (.cst (.int 1))) [some (.tup (.str w::ds))] h=.ok (.int b) h:=by
     rw [Zhu,Gn.ZjJ H.toTre ⟨rfl,rfl⟩ Gn.ZcD e];rfl
   rw [ZZ,Za ((Zu (Gn.Za8 H.toTre ⟨rfl,rfl⟩ Gn.ZcD e)).trans rfl),Zc (ZD r)];rfl
 cases t with
 | num z=>exact no (O "num") _ rfl
 | name x=>exact no (O "name") _ rfl
 | fn x e=>exact yes (O "fn") _ 1 1 rfl
 | rcc f x e=>exact yes (O "rec") _ 2 1 rfl
 | call f a=>exact yes (O "call") _ 0 2 rfl
 | iff c a b=>exact yes (O "if") _ 0 3 rfl
 | op w a b=>exact yes w.s _ 0 2 Zel
noncomputable abbrev Ar:=List (Str×Option T)
noncomputable def thd (V:T):D:=.tup [.str (O "clo"),V.d,.tup []]
noncomputable def ard(p:Str×Option T):D:=.tup [.str p.1,match p.2 with|some V=>thd V|none=>.non]
noncomputable def get:Ar->Str->Option T
 | [],_=>none
 | (y,v)::r,x=>if y=x then v else get r x
noncomputable abbrev En:=List (Str×Option Rw.Th)
noncomputable def edd(p:Str×Option Rw.Th):D:=.tup [.str p.1,Rw.thD p.2]
noncomputable def ZcV:En->Str->Option Rw.Th
 | [],_=>none
 | (y,v)::r,x=>if y=x then v else ZcV r x
noncomputable def Zmb:Sxs:=(.cons (.iff (.ex (.cmp .Eq (.var 2) (.var 0))) (.cons (.ret (.var 3)) .nil) .nil) .nil)
theorem Ztq:∀ (ar:En) (a b:Option D),(∃ S,ZG [] (.two 2 3) (xs2 U Zmb) (ar.map edd) [some (.str x),some o,a,b] h=.ok (.rt (Rw.thD (ZcV ar x)),S) h)\/(ZcV ar x=none/\∃ S,ZG [] (.two 2 3) (xs2 U Zmb) (ar.map edd) [some (.str x),some o,a,b] h=.ok (.nx,S) h)
 | [],a,b=>.inr ⟨rfl,_,rfl⟩
 | (y,v)::r,a,b=>by
   have tt:tst U (.ex (.cmp .Eq (.var 2) (.var 0))) [some (.str x),some o,some (.str y),some (Rw.thD v)] h=.ok (decide (y=x)) h:=ZaM rfl rfl;by_cases e:y=x
   . refine .inl ⟨[some (.str x),some o,some (.str y),some (Rw.thD v)],?_⟩;rw [ZcV,if_pos e];exact Zrq rfl (Zc ((Zy (Zm tt (decide_eq_true e))).trans (Zc (ZD rfl))))
   . have b1:xs2 U Zmb [some (.str x),some o,some (.str y),some (Rw.thD v)] h=.ok (.nx,[some (.str x),some o,some (.str y),some (Rw.thD v)]) h:=(Za ((Zu (Zm tt (decide_eq_false e))).trans rfl)).trans rfl;have s1:=ZbZ (g:=.two 2 3) (ds:=r.map edd) (S:=[some (.str x),some o,a,b]) (d:=edd (y,v)) rfl b1;rw [ZcV,if_neg e];rcases Ztq (U:=U) (x:=x) (o:=o) r (some (.str y)) (some (Rw.thD v)) with ⟨S,q⟩|⟨q0,S,q⟩
     . exact .inl ⟨S,s1.trans q⟩
     . exact .inr ⟨q0,S,s1.trans q⟩
theorem Zux (H:Trb P) (n:Nat) (x:Str) (ar:En):run P (n+1) (O "bound_to") [.str x,.tup (ar.map edd)] h=.ok (Rw.thD (ZcV ar x)) h:=by
 rw [Zj H.bound_to (by rfl)];rcases Ztq (U:=P.tbl n) (h:=h) (x:=x) (o:=.tup (ar.map edd)) ar none none with ⟨S,q⟩|⟨q0,S,q⟩
 . have w:xs2 (P.tbl n) ZcZ [some (.str x),some (.tup (ar.map edd)),none,none] h=.ok (.rt (Rw.thD (ZcV ar x)),S) h:=Zc ((ZcU (ZeV rfl)).trans q);exact congrArg Zt w
 . have w:xs2 (P.tbl n) ZcZ [some (.str x),some (.tup (ar.map edd)),none,none] h=.ok (.rt .non,S) h:=(Za ((ZcU (ZeV rfl)).trans q)).trans (Zc (ZD rfl));rw [q0];exact congrArg Zt w
noncomputable def mean(ar:Ar):T->Option T
 | .name x=>get ar x
 | _=>none
noncomputable def ZbD(ar:En):T->Option Rw.Th
 | .name x=>ZcV ar x
 | _=>none
theorem ZfW (H:Trb P) (n:Nat) (t:T) (ar:En):run P (n+2) (O "meant_by") [t.d,.tup (ar.map edd)] h=.ok (Rw.thD (ZbD ar t)) h:=by
 rw [Zj H.meant_by (by cases t<;>rfl)];cases t with
 | name x =>
   exact ZmU (U:=P.tbl (n+1)) (fun U=>Zt (xs2 U ZbI.body (ZL ZbI.N [(T.name x).d,.tup (ar.map edd)]) h)) (Zux H n (h:=h) x ar) rfl rfl
 | op w a b=>cases w<;>exact rfl
 | _=>exact rfl
noncomputable def inn(t:T)(ar:Ar):Ar:=(bnd t).map (fun x=>(x,none))++ar
noncomputable def Zbv(t:T)(ar:En):En:=(bnd t).map (fun x=>(x,none))++ar
theorem ZhJ:∀ (xs:List Str) (acc:List D),acc.length+xs.length<=1000->Zq [] (.nm 0) (tsto U none) (ev U (.tupl (.cons (.var 0) (.cons (.cst .non) .nil)))) (xs.map .str) [none] acc h=.ok (acc++(xs.map fun x=>D.tup [.str x,.non])) h
 | [],acc,_=>by simp [Zq,Wk.stays]
 | x::xs,acc,hz=>by
   have ih:=ZhJ (U:=U) xs (acc++[.tup [.str x,.non]]) (by simp at hz ⊢;lia);have hl:acc.length<16777216:=by simp at hz;lia
   rw [Op,Zx];simp [Wk.stays,hl,sizeLine_eq];simpa using ih
theorem Zlo (H:Trb P) (n:Nat) (t:T) (ar:En) (hz:ar.length<=100000):run P (n+2) (O "within") [t.d,.tup (ar.map edd)] h=.ok (.tup ((Zbv t ar).map edd)) (h++[.lst ((bnd t).map fun x=>.tup [.str x,.non])]):=by
 rw [Zj H.within (by cases t<;>rfl)];have e:=ZnG H n t h;have hb:(bnd t).length<=2:=by cases t<;>simp [bnd]
 have c:=ZhJ (U:=⟨P.G,P.GD,run P (n+1),P.L⟩) (h:=h) (bnd t) [] (by simp;lia);have cat:∀ h',opB .Add (.tup ((bnd t).map fun x=>D.tup [.str x,.non])) (.tup (ar.map edd)) h'=.ok (.tup ((Zbv t ar).map edd)) h':=by
   intro h';rw [Zee (by rw [sizeLine_eq];simp;lia)];simp [Zbv,edd,Rw.thD,Function.comp_def]
 simp at c;simp [ZeN,ZhL,ZL,e,ZaD,Zbd,c,Za7,ZiW,lstOf,cat]
noncomputable def opn:Rw.Th->T×Rw.Ar
 | .num n=>(.num n,.nil)
 | .clo E ar=>(E,ar)
theorem Zlr (H:Trb P) (n:Nat) (v:Rw.Th):run P (n+1) (O "opened") [v.d] h=.ok (.tup [(opn v).1.d,.tup (opn v).2.ds]) h:=by
 rw [Zj H.opened (by cases v<;>rfl)];cases v<;>exact rfl
end Tm
end
section
namespace Tm
open PySem L2 IV
variable {P:Pg}
noncomputable def sub:Ar->T->T
 | _,.num n=>.num n
 | ar,.name x=>(get ar x).getD (.name x)
 | ar,.fn x e=>.fn x (sub ((x,none)::ar) e)
 | ar,.rcc f x e=>.rcc f x (sub ((f,none)::(x,none)::ar) e)
 | ar,.call f a=>.call (sub ar f) (sub ar a)
 | ar,.iff c t e=>.iff (sub ar c) (sub ar t) (sub ar e)
 | ar,.op w a b=>.op w (sub ar a) (sub ar b)
noncomputable def NN(ar:Ar):Prop:=∀ x,get ar x=none
theorem NN.cons(h:NN ar)(y:Str):NN ((y,none)::ar):=fun x=>by
 unfold get;split
 . rfl
 . exact h x
theorem ZaO:∀ (t:T) {ar:Ar},NN ar->sub ar t=t
 | .num _,_,_=>rfl
 | .name x,_,h=>by rw [sub,h x];rfl
 | .fn x e,_,h=>by rw [sub,ZaO e (h.cons x)]
 | .rcc f x e,_,h=>by rw [sub,ZaO e ((h.cons x).cons f)]
 | .call f a,_,h=>by rw [sub,ZaO f h,ZaO a h]
 | .iff c t e,_,h=>by rw [sub,ZaO c h,ZaO t h,ZaO e h]
 | .op w a b,_,h=>by rw [sub,ZaO a h,ZaO b h]
theorem Zo(t:T):t.size=1+(t.parts.map T.size).sum:=by
 unfold T.size;rw [T.places_parts];simp only [Os,List.length_flatMap]
 lia
theorem Zc4(t:T):1<=t.size:=by rw [Zo];lia
theorem Zkg(t:T)(ar:Ar)(h:mean ar t=none):(sub ar t).parts=t.parts.map (sub (inn t ar))/\fr (sub ar t)=fr t:=by
 cases t with
 | name x=>rw [sub,show get ar x=none from h];exact ⟨rfl,rfl⟩
 | _=>exact ⟨rfl,rfl⟩
theorem ZkE{t:T}{V:T}(h:mean ar t=some V):sub ar t=V:=by
 cases t with
 | name x=>rw [sub,show get ar x=some V from h];rfl
 | _=>cases h
end Tm
namespace Rw
open PySem L2 IV
mutual
noncomputable def rd:Th->T
 | .num n=>.num n
 | .clo E ar=>Tm.sub (ra ar) E
noncomputable def ra:Ar->List (Str×Option T)
 | .nil=>[]
 | .cons x v r=>(x,some (rd v))::ra r
end
end Rw
namespace Tm
open PySem L2 IV
variable {P:Pg}
noncomputable def er(e:En):Ar:=e.map fun p=>(p.1,p.2.map Rw.rd)
noncomputable def up:Rw.Ar->En
 | .nil=>[]
 | .cons x v r=>(x,some v)::up r
theorem Zpm:∀ ar:Rw.Ar,(up ar).map edd=ar.ds
 | .nil=>by rw [up,Rw.Ar.ds];rfl
 | .cons x v r=>by rw [up,Rw.Ar.ds,Op,Zpm r];rfl
theorem ZpE:∀ ar:Rw.Ar,er (up ar)=Rw.ra ar
 | .nil=>by rw [up,Rw.ra];rfl
 | .cons x v r=>by rw [up,Rw.ra,<- ZpE r];rfl
theorem Zk3:∀ ar:Rw.Ar,(up ar).length=ar.len
 | .nil=>rfl
 | .cons x v r=>by rw [up,Rw.Ar.len,Os,Zk3 r]
theorem ZiF(x:Str):∀ e:En,get (er e) x=(ZcV e x).map Rw.rd
 | []=>rfl
 | (y,v)::r=>by
   show (if y=x then v.map Rw.rd else get (er r) x)=(if y=x then v else ZcV r x).map Rw.rd;split
   . rfl
   . exact ZiF x r
theorem ZrC(t:T)(e:En):er (Zbv t e)=inn t (er e):=by simp [er,Zbv,inn,Function.comp_def]
noncomputable def tel(p:T×En):T:=sub (er p.2) p.1
theorem ZiM(h:ZbD e t=none):mean (er e) t=none:=by
 cases t with
 | name x=>show get (er e) x=none;rw [ZiF,show ZcV e x=none from h];rfl
 | _=>rfl
theorem Zja(v:Rw.Th):tel ((opn v).1,up (opn v).2)=Rw.rd v:=by
 cases v with
 | num n=>rw [Rw.rd];rfl
 | clo E ar=>show sub (er (up ar)) E=_;rw [ZpE,Rw.rd]
theorem Ze0{t:T}{v:Rw.Th}(h:ZbD e t=some v):tel (t,e)=Rw.rd v:=by
 cases t with
 | name x=>refine ZkE ?_;show get (er e) x=_;rw [ZiF,show ZcV e x=some v from h];rfl
 | _=>cases h
theorem Zfq(h:ZbD e t=none):(tel (t,e)).parts=t.parts.map (fun s=>tel (s,Zbv t e))/\fr (tel (t,e))=fr t:=by
 obtain ⟨a,b⟩:=Zkg t (er e) (ZiM h);refine ⟨a.trans ?_,b⟩;rw [<- ZrC];rfl
noncomputable def tf(t:T):D:=.tup (fr t)
theorem ZeB{h:Hd}(e:h[i]? = some o):i<h.length:=(Ob.mp e).1
theorem keep{h:Hd}{i:Nat}{g:Hd}(e:h[i]? = some o):(h++g)[i]? = some o:=by
 rw [Oe (ZeB e)];exact e
structure B_(h0 h:Hd)(fk dk:Nat)(fs ds:List D):Prop where
 f:h[fk]? = some (.lst fs)
 d:h[dk]? = some (.lst ds)
 ne:dk≠fk
 o1:h0.length<=dk
 ol:h0.length<=h.length
 old:∀ i,i<h0.length->h[i]? = h0[i]?
theorem B_.set{h0 h:Hd}(b:B_ h0 h fk dk fs ds)(es:List D):B_ h0 (h.set dk (.lst es)) fk dk fs es :=
 ⟨by rw [Oc b.ne];exact b.f,by rw [Ol (ZeB b.d)],b.ne,b.o1,by simpa using b.ol,fun i hi=>by rw [Oc (by have:=b.o1;lia)];exact b.old i hi⟩
theorem B_.app{h0 h g:Hd}{fk dk:Nat}{fs ds:List D}(b:B_ h0 h fk dk fs ds):B_ h0 (h++g) fk dk fs ds :=
 ⟨keep b.f,keep b.d,b.ne,b.o1,by have:=b.ol;simp;lia,fun i hi=>by rw [Oe (by have:=b.ol;lia)];exact b.old i hi⟩
theorem ZpI:∀ (ks xs D0 acc:List D) (h:Hd),ks.length=xs.length->acc.length+xs.length<=1000->B_ h0 h fk dk fs (D0++xs.reverse)->∃ h',
   Zq [] (.nm 0) (tsto U none) (ev U (.meth .pop (.var 1) .nil)) ks [none,some (.ref dk)] acc h=.ok (acc++xs) h'/\B_ h0 h' fk dk fs D0
 | [],[],D0,acc,h,_,_,b=>⟨h,by simp [Zq,Wk.stays],by simpa using b⟩
 | [],_::_,_,_,_,e,_,_=>by cases e
 | _::_,[],_,_,_,e,_,_=>by cases e
 | k::ks,x::xs,D0,acc,h,e,hz,b=>by
   have b1:B_ h0 h fk dk fs ((D0++xs.reverse)++[x]):=by simpa using b
   obtain ⟨h',q,b2⟩:=ZpI (U:=U) ks xs D0 (acc++[x]) _ (by simpa using e) (by simp at hz ⊢;lia) (b1.set (D0++xs.reverse));refine ⟨h',?_,b2⟩;have pp:=Zhd b1.d;have il:=Zcr b1.d;have hl:acc.length<16777216:=by simp at hz;lia
   rw [Zx];simp [Wk.stays,hl,sizeLine_eq,il,pp];simpa using q
noncomputable def Zc7:Sxs:=(.cons (.set (.nm 3) (.comp [(O "k"),(O "done")] [none,some 1] (.rng (.call (O "count_parts") (.cons (.var 2) .nil))) (.nm 0) none (.meth .pop (.var 1) .nil))) (.cons (.drp (.meth .app (.var 1) (.cons (.bin .Add (.var 2) (.blt .tup (.cons (.var 3) .nil))) .nil))) .nil))
theorem Znq(H:Trb P)(n:Nat){h0 h:Hd}{fk dk:Nat}{fs D0:List D}(t:T)(b:B_ h0 h fk dk fs (D0++(t.parts.map T.d).reverse))(hz:D0.length<=1000000)(o0 o3:Option D):∃ h' o3',
   xs2 (P.tbl (n+1)) Zc7 [o0,some (.ref dk),some (tf t),o3] h=.ok (.nx,[o0,some (.ref dk),some (tf t),o3']) h'/\B_ h0 h' fk dk fs (D0++[t.d]):=by
 have hp:t.parts.length<=3:=by cases t<;>simp [T.parts]
 have hf:(fr t).length<=3:=by cases t<;>simp [fr]
 have ec:=ZnD H n t h;obtain ⟨h1,q1,b1⟩:=ZpI (U:=P.tbl (n+1)) (Zab 0 t.parts.length) (t.parts.map T.d) D0 [] h (by simp [Zab]) (by simp;lia) b;have s62:ZaJ (t.parts.length:Int)=true:=by simp [ZaJ];lia
 have b2:=(b1.app (g:=[.lst (t.parts.map T.d)])).set (D0++[t.d]);refine ⟨_,some (.ref h1.length),?_,b2⟩;have k1:(h1++[DO.lst (t.parts.map T.d)])[dk]? = some (.lst D0):=keep b1.d;have x1:xs1 (P.tbl (n+1)) (.set (.nm 3) (.comp [(O "k"),(O "done")] [none,some 1] (.rng (.call (O "count_parts") (.cons (.var 2) .nil))) (.nm 0) none (.meth .pop (.var 1) .nil))) [o0,some (.ref dk),some (tf t),o3] h=.ok (.nx,[o0,some (.ref dk),some (tf t),some (.ref h1.length)]) (h1++[.lst (t.parts.map T.d)]):=by
   have ei:evi (P.tbl (n+1)) (.rng (.call (O "count_parts") (.cons (.var 2) .nil))) [o0,some (.ref dk),some (tf t),o3] h=.ok ⟨[],Zab 0 t.parts.length⟩ h:=by
     have e1:ev (P.tbl (n+1)) (.call (O "count_parts") (.cons (.var 2) .nil)) [o0,some (.ref dk),some (tf t),o3] h=.ok (.int t.parts.length) h:=ec;rw [ZoO,e1,Zr];exact (if_pos s62).trans (by rw [Int.toNat_natCast])
   rw [ZfK,Zei,ei,Zr];simp only [Zbd,Op,Oy,Option.bind_none,Option.bind_some];rw [show ([o0,some (D.ref dk),some (tf t),o3][1]?).join=some (.ref dk) from rfl,q1];rfl
 have x2:xs1 (P.tbl (n+1)) (.drp (.meth .app (.var 1) (.cons (.bin .Add (.var 2) (.blt .tup (.cons (.var 3) .nil))) .nil))) [o0,some (.ref dk),some (tf t),some (.ref h1.length)] (h1++[.lst (t.parts.map T.d)])=.ok (.nx,[o0,some (.ref dk),some (tf t),some (.ref h1.length)]) (List.set (h1++[.lst (t.parts.map T.d)]) dk (.lst (D0++[t.d]))):=by
   have ap:=ZaS (d:=t.d) k1 (by rw [sizeLine_eq];lia);have il:=Zcr k1;have ad:∀ h',opB .Add (tf t) (.tup (t.parts.map T.d)) h'=.ok t.d h':=fun h'=>by rw [ZrI];exact Zee (by rw [sizeLine_eq];simp;lia)
   simp [il,Za7,ZiW,lstOf,ad,ap]
 rw [Zc7,Za x1,Za x2];rfl
end Tm
end
section
namespace Tm
open PySem L2 IV
variable {P:Pg}
theorem Zmy(e:h[j]? = some (.lst L))(b:ZaX g d S=some ρ1)(q:body ρ1 h=.ok (.nx,ρ2) h2):ZG [(j,L)] g body (d::ds) S h=ZG [(j,L)] g body ds ρ2 h2:=by
 have:Wk.stays [(j,L)] h=true:=by simp [Wk.stays,e]
 rw [ZG,if_pos this,b];simp only;rw [q];rfl
theorem Zmz(e:h[j]? = some (.lst L)):ZG [(j,L)] g body [] S h=.ok (.nx,S) h:=by
 have:Wk.stays [(j,L)] h=true:=by simp [Wk.stays,e]
 rw [ZG,if_pos this]
noncomputable def wb(P:Pg)(n fk dk:Nat)(fs:List D)(o0:Option D)(rest:List D)(o2 o3:Option D)(h:Hd):R (Fl×Ev):=ZG [(fk,fs)] (.nm 2) (xs2 (P.tbl (n+1)) Zc7) rest [o0,some (.ref dk),o2,o3] h
noncomputable def Bt(P:Pg)(n:Nat)(h0:Hd)(fk dk:Nat)(fs:List D)(o0:Option D)(xs D0 D1:List D):Prop:=∀ (rest:List D) (h:Hd) (o2 o3:Option D),B_ h0 h fk dk fs D0->∃ h' o2' o3',wb P n fk dk fs o0 (xs++rest) o2 o3 h=wb P n fk dk fs o0 rest o2' o3' h'/\B_ h0 h' fk dk fs D1
section
variable {n:Nat}{h0:Hd}{fk dk:Nat}{fs:List D}{o0:Option D}{xs ys D0 D1 D2:List D}
theorem Bt.trans(a:Bt P n h0 fk dk fs o0 xs D0 D1)(b:Bt P n h0 fk dk fs o0 ys D1 D2):Bt P n h0 fk dk fs o0 (xs++ys) D0 D2:=fun rest h o2 o3 q=>by
 obtain ⟨h1,o21,o31,e1,q1⟩:=a (ys++rest) h o2 o3 q;obtain ⟨h2,o22,o32,e2,q2⟩:=b rest h1 o21 o31 q1;exact ⟨h2,o22,o32,by rw [Oz,e1,e2],q2⟩
theorem Bt.front(H:Trb P)(t:T)(hz:D0.length<=1000000):Bt P n h0 fk dk fs o0 [tf t] (D0++(t.parts.map T.d).reverse) (D0++[t.d]):=fun rest h o2 o3 b=>by
 obtain ⟨h',o3',e,b'⟩:=Znq H n t b hz o0 o3;exact ⟨h',some (tf t),o3',Zmy b.f rfl e,b'⟩
end
theorem Zbq(H:Trb P):∀ (t:T) (D0:List D),D0.length+t.size<=1000000->Bt P n h0 fk dk fs o0 (t.places.map tf).reverse D0 (D0++[t.d])
 | .num m,D0,hz=>by simpa [T.places,T.parts] using Bt.front (P:=P) (n:=n) (h0:=h0) (fk:=fk) (dk:=dk) (fs:=fs) (o0:=o0) (D0:=D0) H (.num m) (by lia)
 | .name m,D0,hz=>by simpa [T.places,T.parts] using Bt.front (P:=P) (n:=n) (h0:=h0) (fk:=fk) (dk:=dk) (fs:=fs) (o0:=o0) (D0:=D0) H (.name m) (by lia)
 | .fn x e,D0,hz=>by
   rw [Zo] at hz;simp only [T.parts,Op,Oy,OI,List.sum_nil] at hz;have a:=(Zbq H (n:=n) (h0:=h0) (fk:=fk) (dk:=dk) (fs:=fs) (o0:=o0) e D0 (by lia)).trans (Bt.front H (.fn x e) (by lia));simpa [T.places,T.parts] using a
 | .rcc f x e,D0,hz=>by
   rw [Zo] at hz;simp only [T.parts,Op,Oy,OI,List.sum_nil] at hz;have a:=(Zbq H (n:=n) (h0:=h0) (fk:=fk) (dk:=dk) (fs:=fs) (o0:=o0) e D0 (by lia)).trans (Bt.front H (.rcc f x e) (by lia));simpa [T.places,T.parts] using a
 | .call f a,D0,hz=>by
   rw [Zo] at hz;simp only [T.parts,Op,Oy,OI,List.sum_nil] at hz;have s1:=Zc4 f;have q:=(Zbq H (n:=n) (h0:=h0) (fk:=fk) (dk:=dk) (fs:=fs) (o0:=o0) a D0 (by lia)).trans (Zbq H f (D0++[a.d]) (by simp;lia));have r:=Bt.front (P:=P) (n:=n) (h0:=h0) (fk:=fk) (dk:=dk) (fs:=fs) (o0:=o0) (D0:=D0) H (.call f a) (by lia);simp only [T.parts,Op,Oy,List.reverse_cons,List.reverse_nil,OB] at r;rw [<- Oz] at r;simpa [T.places] using q.trans r
 | .op w f a,D0,hz=>by
   rw [Zo] at hz;simp only [T.parts,Op,Oy,OI,List.sum_nil] at hz;have s1:=Zc4 f;have q:=(Zbq H (n:=n) (h0:=h0) (fk:=fk) (dk:=dk) (fs:=fs) (o0:=o0) a D0 (by lia)).trans (Zbq H f (D0++[a.d]) (by simp;lia));have r:=Bt.front (P:=P) (n:=n) (h0:=h0) (fk:=fk) (dk:=dk) (fs:=fs) (o0:=o0) (D0:=D0) H (.op w f a) (by lia);simp only [T.parts,Op,Oy,List.reverse_cons,List.reverse_nil,OB] at r;rw [<- Oz] at r;simpa [T.places] using q.trans r
 | .iff c t e,D0,hz=>by
   rw [Zo] at hz;simp only [T.parts,Op,Oy,OI,List.sum_nil] at hz;have s1:=Zc4 c;have s2:=Zc4 t;have q:=((Zbq H (n:=n) (h0:=h0) (fk:=fk) (dk:=dk) (fs:=fs) (o0:=o0) e D0 (by lia)).trans (Zbq H t (D0++[e.d]) (by simp;lia))).trans (Zbq H c (D0++[e.d]++[t.d]) (by simp;lia));have r:=Bt.front (P:=P) (n:=n) (h0:=h0) (fk:=fk) (dk:=dk) (fs:=fs) (o0:=o0) (D0:=D0) H (.iff c t e) (by lia);simp only [T.parts,Op,Oy,List.reverse_cons,List.reverse_nil,OB] at r;rw [<- Oz,<- Oz] at r;simpa [T.places] using q.trans r
theorem ZnF (H:Trb P) (n:Nat) (t:T) (hf:h[fk]? = some (.lst (t.places.map tf))) (hz:t.size<=500000):∃ g,run P (n+2) (O "built") [.ref fk] h=.ok t.d (h++g):=by
 rw [Zj H.built (by rfl)];have b0:B_ h (h++[.lst []]) fk h.length (t.places.map tf) []:=⟨keep hf,by simp,by have:=ZeB hf;lia,Oq _,by simp,fun i hi=>Oe hi⟩
 obtain ⟨h1,o2,o3,e1,b1⟩:=Zbq H (n:=n) (o0:=some (.ref fk)) t [] (by simp;lia) [] _ none none b0;have e2:wb P n fk h.length (t.places.map tf) (some (.ref fk)) [] o2 o3 h1=.ok (.nx,[some (.ref fk),some (.ref h.length),o2,o3]) h1:=Zmz b1.f;rw [e2,List.append_nil] at e1;have ex:∃ g,h1=h++g:=⟨h1.drop h.length,by
   apply List.ext_getElem?;intro i;rcases Nat.lt_or_ge i h.length with q|q
   . rw [b1.old i q,Oe q]
   . rw [Om q,List.getElem?_drop];congr 1
     lia⟩
 obtain ⟨g,rfl⟩:=ex;refine ⟨g,?_⟩;have x0:=ZB (GD:=P.GD) (k:=0) b1.d;have hw:Zi4 (.ref fk) (h++[.lst []])=some ⟨[(fk,t.places.map tf)],t.places.map tf⟩:=by simp [Zi4,b0.f]
 unfold wb Zc7 at e1;simp only [Pg.tbl] at e1;simp only [OB] at x0;simp [Zgf,Zj4,ZL,sizeLine_eq,hw,e1,x0]
end Tm
end
section
namespace Tm
open PySem L2 IV
variable {P:Pg}
noncomputable def Zcx (mo:D) (u:Int):DO:=.ins (O "Pen") [(O "most",mo),(O "used",.int u)]
noncomputable def Lim(mo:D)(z:Int):Prop:=mo=.non\/∃ m:Int,mo=.int m/\z<=m
theorem ZsF (H:Trb P) (n:Nat) (mo:D) (h:Hd):Zl5 (run P (n+1)) (O "Pen") [mo] h=.ok (.ref h.length) (h++[Zcx mo 0]):=by
 unfold Zl5;rw [ZfU H.n_Pen___init__ H.Pen___init__ (by rfl)];simp [Zag,Zcj,ZL,ZfT,Zkm,sizeLine_eq,Zcx]
theorem ZoF:IV.ZaR false (D.int u) D.non h=.ok (D.bl false) h:=by
 have e:PyData.eqv (.int u) .none=false:=by simp [PyData.eqv]
 show (if min (PyData.int u).depth PyData.none.depth<=1100 then R.ok (D.bl (if false then !PyData.eqv (.int u) .none else PyData.eqv (.int u) .none)) h else .bad)=_;rw [if_pos (by simp [PyData.depth]),e];rfl
theorem Zqc (H:Trb P) (n:Nat) (lm:Lim mo (u+1)) (hp:h[pk]? = some (Zcx mo u)):run P (n+1) (mnm (O "Pen") (O "take_place")) [.ref pk] h=.ok .non (h.set pk (Zcx mo (u+1))):=by
 obtain ⟨x,ht⟩:=H.tk;rw [ZfU H.n_Pen_take_place ht (by rfl)];have ne:IV.ZaR false (D.int u) mo h=.ok (D.bl false) h:=by
   rcases lm with rfl|⟨m,rfl,q⟩
   . exact ZoF
   . have:¬ u=m:=by lia
     simp [this]
 unfold Zcx at hp ⊢;simp [ZiI,Zgw,ZL,Zfh,ZR,hp,List.lookup,ne,ZfT,Zkm]
noncomputable def Wid (P:Pg):Prop:=∃ m,P.ms.lookup (mnm (O "Pen") (O "take_place"))=some (ZiI (.rai (O "Wide") (.cst m)))
theorem Zlq (H:Trb P) (w:Wid P) (n:Nat) (hp:h[pk]? = some (Zcx (.int u) u)):run P (n+1) (mnm (O "Pen") (O "take_place")) [.ref pk] h=.exc (O "Wide") h:=by
 obtain ⟨m,ht⟩:=w;rw [ZfU H.n_Pen_take_place ht (by rfl)];have t1:tst (P.tbl n) (.ex (.cmp .Eq (.att [(O "Pen")] (.var 0) (O "used")) (.att [(O "Pen")] (.var 0) (O "most")))) [some (.ref pk)] h=.ok true h:=by
   unfold Zcx at hp;simp [Zfh,ZR,hp,List.lookup]
 exact congrArg Zt (ZgM (r:=tlS (Zgw (.rai (O "Wide") (.cst m)))) ((Zy t1).trans (ZgM (ZsE rfl))))
noncomputable def pr(p:T×En):D:=.tup [p.1.d,.tup (p.2.map edd)]
structure Fi(mo:D)(h0 h:Hd)(pk fk wk:Nat)(u:Int)(F:List D)(W:List D):Prop where
 p:h[pk]? = some (Zcx mo u)
 f:h[fk]? = some (.lst F)
 w:h[wk]? = some (.lst W)
 ne:fk≠wk
 o2:h0.length<=fk
 o3:h0.length<=wk
 ol:h0.length<=h.length
 old:∀ i,i<h0.length->i≠pk->h[i]? = h0[i]?
section
variable {mo:D}{h0 h g:Hd}{pk fk wk:Nat}{u:Int}{F W:List D}
theorem Fi.app(q:Fi mo h0 h pk fk wk u F W):Fi mo h0 (h++g) pk fk wk u F W:=⟨keep q.p,keep q.f,keep q.w,q.ne,q.o2,q.o3,by have:=q.ol;simp;lia,fun i hi hn=>by rw [Oe (by have:=q.ol;lia)];exact q.old i hi hn⟩
theorem Zf6{i j:Nat}{l:List D}(a:h[i]? = some (Zcx mo u))(b:h[j]? = some (.lst l)):i≠j:=fun z=>by
 rw [z,b] at a;cases a
theorem Fi.setP(q:Fi mo h0 h pk fk wk u F W)(v:Int):Fi mo h0 (h.set pk (Zcx mo v)) pk fk wk v F W :=
 ⟨by rw [Ol (ZeB q.p)],by rw [Oc (Zf6 q.p q.f)];exact q.f,by rw [Oc (Zf6 q.p q.w)];exact q.w,q.ne,q.o2,q.o3,by simpa using q.ol,fun i hi hn=>by rw [Oc (Ne.symm hn)];exact q.old i hi hn⟩
theorem Fi.setF(q:Fi mo h0 h pk fk wk u F W)(G:List D):Fi mo h0 (h.set fk (.lst G)) pk fk wk u G W :=
 ⟨by rw [Oc (Zf6 q.p q.f).symm];exact q.p,by rw [Ol (ZeB q.f)],by rw [Oc q.ne];exact q.w,q.ne,q.o2,q.o3,by simpa using q.ol,fun i hi hn=>by rw [Oc (by have:=q.o2;lia)];exact q.old i hi hn⟩
theorem Fi.setW(q:Fi mo h0 h pk fk wk u F W)(G:List D):Fi mo h0 (h.set wk (.lst G)) pk fk wk u F G :=
 ⟨by rw [Oc (Zf6 q.p q.w).symm];exact q.p,by rw [Oc q.ne.symm];exact q.f,by rw [Ol (ZeB q.w)],q.ne,q.o2,q.o3,by simpa using q.ol,fun i hi hn=>by rw [Oc (by have:=q.o3;lia)];exact q.old i hi hn⟩
theorem Fi.pop{d:D}(q:Fi mo h0 h pk fk wk u F (W++[d])):∃ h1,ZaI .pop (.ref wk) [] h=.ok d h1/\Fi mo h0 h1 pk fk wk u F W:=⟨_,Zhd q.w,q.setW W⟩
theorem Fi.push(q:Fi mo h0 h pk fk wk u F W)(d:D)(hF:F.length<=1000000):∃ h1,ZaI .app (.ref fk) [d] h=.ok .non h1/\Fi mo h0 h1 pk fk wk u (F++[d]) W:=⟨_,ZaS q.f (by rw [sizeLine_eq];lia),q.setF _⟩
theorem Fi.wait(q:Fi mo h0 h pk fk wk u F W)(d:D)(hW:W.length<=1000000):∃ h1,ZaI .app (.ref wk) [d] h=.ok .non h1/\Fi mo h0 h1 pk fk wk u F (W++[d]):=⟨_,ZaS q.w (by rw [sizeLine_eq];lia),q.setW _⟩
theorem Fi.ext(q:Fi mo h0 h pk fk wk u F W)(xs:List D)(hW:W.length+xs.length<=1001000):∃ h1,ZaI .ext (.ref wk) [.ref h.length] (h++[.lst xs])=.ok .non h1/\Fi mo h0 h1 pk fk wk u F (W++xs):=by
 have q1:=q.app (g:=[.lst xs]);refine ⟨_,?_,q1.setW (W++xs)⟩;simp only [ZaI,q1.w,Zff,Zot,ZgI];rw [if_pos (by rw [sizeLine_eq];lia)]
theorem Fi.take (H:Trb P) (n:Nat) (lm:Lim mo (u+1)) (q:Fi mo h0 h pk fk wk u F W):∃ h1,run P (n+1) (mnm (O "Pen") (O "take_place")) [.ref pk] h=.ok .non h1/\Fi mo h0 h1 pk fk wk (u+1) F W:=⟨_,Zqc H n lm q.p,q.setP _⟩
end
noncomputable def ve(pk fk wk:Nat)(o1 o2 o5 o6 o7:Option D):Ev:=[some (.ref pk),o1,o2,some (.ref fk),some (.ref wk),o5,o6,o7]
noncomputable def fl1:Sx:=(.set (.nm 5) (.meth .pop (.var 4) .nil))
noncomputable def fl2:Sx:=(.set (.nm 6) (.call (O "meant_by") (.cons (.ix (.var 5) (.cst (.int 0))) (.cons (.ix (.var 5) (.cst (.int 1))) .nil))))
noncomputable def fa1:Sx:=(.drp (.mcl (O "Pen") (O "take_place") (.var 0) .nil))
noncomputable def fa2:Sx:=(.drp (.meth .app (.var 3) (.cons (.call (O "front_of") (.cons (.ix (.var 5) (.cst (.int 0))) .nil)) .nil)))
noncomputable def fa3:Sx:=(.set (.nm 7) (.call (O "within") (.cons (.ix (.var 5) (.cst (.int 0))) (.cons (.ix (.var 5) (.cst (.int 1))) .nil))))
noncomputable def fa4:Sx:=(.drp (.meth .ext (.var 4) (.cons (.comp [(O "part"),(O "inner")] [none,some 7] (.rev (.call (O "parts_of") (.cons (.ix (.var 5) (.cst (.int 0))) .nil))) (.nm 0) none (.tupl (.cons (.var 0) (.cons (.var 1) .nil)))) .nil)))
noncomputable def fb1:Sx:=(.drp (.meth .app (.var 4) (.cons (.call (O "opened") (.cons (.var 6) .nil)) .nil)))
noncomputable def fl3:Sx:=(.iff (.ex (.cmp .Is (.var 6) (.cst .non))) (.cons fa1 (.cons fa2 (.cons fa3 (.cons fa4 .nil)))) (.cons fb1 .nil))
noncomputable def Zcp:Sxs:=.cons fl1 (.cons fl2 (.cons fl3 .nil))
theorem ZoL:ZbM=.cons (.set (.nm 3) (.lstl .nil)) (.cons (.set (.nm 4) (.lstl (.cons (.tupl (.cons (.var 1) (.cons (.var 2) .nil))) .nil))) (.cons (.whl (.ex (.var 4)) Zcp) (.cons (.ret (.call (O "built") (.cons (.var 3) .nil))) .nil))):=rfl
theorem ZmQ:∀ (ds acc:List D),acc.length+ds.length<=1000->Zq [] (.nm 0) (tsto U none) (ev U (.tupl (.cons (.var 0) (.cons (.var 1) .nil)))) ds [none,some a] acc h=.ok (acc++ds.map fun d=>D.tup [d,a]) h
 | [],acc,_=>by simp [Zq,Wk.stays]
 | x::xs,acc,hz=>by
   have ih:=ZmQ (U:=U) (h:=h) (a:=a) xs (acc++[.tup [x,a]]) (by simp at hz ⊢;lia);have hl:acc.length<16777216:=by simp at hz;lia
   rw [Zx];simp [Wk.stays,hl,sizeLine_eq];simpa using ih
theorem Znp(H:Trb P)(n:Nat)(t:T)(ar:En)(hm:ZbD ar t=none)(lm:Lim mo (u+1))(q:Fi mo h0 h pk fk wk u F (W++[pr (t,ar)]))(hF:F.length<=1000000)(hW:W.length<=1000000)(ha:ar.length<=90000)(o1 o2 o5 o6 o7:Option D):∃ h' o5' o6' o7',
   xs2 (P.tbl (n+2)) Zcp (ve pk fk wk o1 o2 o5 o6 o7) h=.ok (.nx,ve pk fk wk o1 o2 o5' o6' o7') h'/\Fi mo h0 h' pk fk wk (u+1) (F++[tf t]) (W++(t.parts.reverse.map fun s=>pr (s,Zbv t ar))):=by
 obtain ⟨h1,pp,q1⟩:=q.pop;have em:=ZfW H n (h:=h1) t ar;rw [hm] at em;obtain ⟨h2,e2,q2⟩:=q1.take H (n+1) lm;obtain ⟨h3,e3,q3⟩:=q2.push (tf t) hF;obtain ⟨h4,e4,q4⟩:∃ h4,run P (n+2) (O "within") [t.d,.tup (ar.map edd)] h3=.ok (.tup ((Zbv t ar).map edd)) h4/\Fi mo h0 h4 pk fk wk (u+1) (F++[tf t]) W:=⟨_,Zlo H n t ar (by lia),q3.app⟩
 have hp:t.parts.length<=3:=by cases t<;>simp [T.parts]
 obtain ⟨h5,e5,q5⟩:=q4.ext ((t.parts.map T.d).reverse.map fun d=>D.tup [d,.tup ((Zbv t ar).map edd)]) (by simp;lia);have ec:=ZmQ (U:=P.tbl (n+2)) (h:=h4) (a:=.tup ((Zbv t ar).map edd)) (t.parts.map T.d).reverse [] (by simp;lia);refine ⟨h5,some (pr (t,ar)),some .non,some (.tup ((Zbv t ar).map edd)),?_,by simpa [pr,List.map_reverse,Function.comp_def] using q5⟩;refine (Za (Zl (ZeW rfl q.w rfl pp))).trans ((Za (Zl (ZC em rfl))).trans ((Za ((Zy (Zts rfl)).trans ?_)).trans rfl));refine (Za (Zdg (ZpC rfl q1.p rfl rfl e2))).trans ((Za (Zdg (ZeW rfl q2.f (Zb (ZC (ZnC H (n+1) t h2) rfl) rfl) e3))).trans ?_);exact (Za (Zl (ZC e4 rfl))).trans ((Za (Zdg (ZeW rfl q4.w (Zb (ZeY (Zru (ZC (Gn.Zjh H.toTre (n+1) t h4) rfl)) ec) rfl) e5))).trans rfl)
theorem Zp1(H:Trb P)(w:Wid P)(n:Nat)(t:T)(ar:En)(hm:ZbD ar t=none)(q:Fi (.int u) h0 h pk fk wk u F (W++[pr (t,ar)]))(o1 o2 o5 o6 o7:Option D):∃ h',
   xs2 (P.tbl (n+2)) Zcp (ve pk fk wk o1 o2 o5 o6 o7) h=.exc (O "Wide") h'/\Fi (.int u) h0 h' pk fk wk u F W:=by
 obtain ⟨h1,pp,q1⟩:=q.pop;have em:=ZfW H n (h:=h1) t ar;rw [hm] at em;refine ⟨h1,?_,q1⟩;exact (Za (Zl (ZeW rfl q.w rfl pp))).trans ((Za (Zl (ZC em rfl))).trans (ZgM ((Zy (Zts rfl)).trans (ZgM (ZtL (ZpC rfl q1.p rfl rfl (Zlq H w (n+1) q1.p)))))))
theorem Zno(H:Trb P)(n:Nat)(t:T)(ar:En)(hm:ZbD ar t=some v)(q:Fi mo h0 h pk fk wk u F (W++[pr (t,ar)]))(hW:W.length<=1000000)(o1 o2 o5 o6 o7:Option D):∃ h' o5' o6' o7',
   xs2 (P.tbl (n+2)) Zcp (ve pk fk wk o1 o2 o5 o6 o7) h=.ok (.nx,ve pk fk wk o1 o2 o5' o6' o7') h'/\Fi mo h0 h' pk fk wk u F (W++[pr ((opn v).1,up (opn v).2)]):=by
 obtain ⟨h1,pp,q1⟩:=q.pop;have em:=ZfW H n (h:=h1) t ar;rw [hm] at em;obtain ⟨h2,e2,q2⟩:=q1.wait (pr ((opn v).1,up (opn v).2)) hW;have eo:=Zlr H (n+1) (h:=h1) v;rw [<- Zpm] at eo;refine ⟨h2,some (pr (t,ar)),some v.d,o7,?_,q2⟩;refine (Za (Zl (ZeW rfl q.w rfl pp))).trans ((Za (Zl (ZC em rfl))).trans ((Za ((Zu (ZuP rfl (fun z=>by cases v<;>cases z))).trans ?_)).trans rfl));exact (Za (Zdg (ZeW rfl q1.w (Zb (ZC eo rfl) rfl) e2))).trans rfl
end Tm
end
section
namespace Rw
open PySem L2 IV
mutual
noncomputable def ThG(N:Nat):Th->Prop
 | .num _=>True
 | .clo E ar=>(∀ x,E≠.name x)/\ar.len+2 * E.size<=2 * N/\ArG N ar
noncomputable def ArG(N:Nat):Ar->Prop
 | .nil=>True
 | .cons _ v r=>ThG N v/\ArG N r
end
end Rw
namespace Tm
open PySem L2 IV
variable {P:Pg}
theorem Zae:∀ (xs:List Str) (ar:Ar) {x:Str}{V:T},get (xs.map (fun y=>(y,none))++ar) x=some V->get ar x=some V
 | [],ar,x,V,e=>e
 | y::xs,ar,x,V,e=>by
   rw [Op,List.cons_append,get] at e;split at e
   . cases e
   . exact Zae xs ar e
theorem Zn5{t s:T}(hs:s∈t.parts):s.size+1<=t.size:=by
 rw [Zo t];have:∀ l:List T,s∈l->s.size<=(l.map T.size).sum:=by
   intro l;induction l with
   | nil=>intro z;cases z
   | cons a r ih =>
     intro z;rw [Op,OI];rcases O2.mp z with rfl|z
     . lia
     . have:=ih z;lia
 have:=this _ hs
 lia
noncomputable def Wok(N:Nat)(p:T×En):Prop:=p.2.length+2 * p.1.size<=2 * N/\∀ q∈p.2,∀ v,q.2=some v->Rw.ThG N v
theorem Wok.part{N:Nat}(w:Wok N (t,ar))(hs:s∈t.parts):Wok N (s,Zbv t ar):=by
 have h1:=Zn5 hs;have hb:(bnd t).length<=2:=by cases t<;>simp [bnd]
 have h2:=w.1;have:(Zbv t ar).length=(bnd t).length+ar.length:=by simp [Zbv]
 refine ⟨?_,fun q hq v e=>?_⟩
 . simp only at h2 ⊢
   lia
 . rcases OD.mp hq with hq|hq
   . obtain ⟨y,_,rfl⟩:=List.mem_map.mp hq;cases e
   . exact w.2 q hq v e
theorem Zsg:∀ {ar:Rw.Ar},Rw.ArG N ar->∀ q∈up ar,∀ v,q.2=some v->Rw.ThG N v
 | .nil,_,q,hq,_,_=>by cases hq
 | .cons x w r,h,q,hq,v,e=>by
   rcases O2.mp hq with rfl|hq
   . cases e;exact h.1
   . exact Zsg h.2 q hq v e
theorem Wok.thing(hN:1<=N)(h:Rw.ThG N v):Wok N ((opn v).1,up (opn v).2):=by
 cases v with
 | num n=>refine ⟨?_,fun q hq=>by cases hq⟩;show 0+2 * 1<=2 * N;lia
 | clo E ar=>refine ⟨?_,Zsg h.2.2⟩;have:=h.2.1;show (up ar).length+2 * E.size<=2 * N;rw [Zk3];exact this
theorem Zhv:∀ {e:En},ZcV e x=some v->∃ q∈e,q.2=some v
 | [],h=>by cases h
 | (y,o)::r,h=>by
   rw [ZcV] at h;split at h
   . exact ⟨_,Oi,h⟩
   . obtain ⟨q,hq,e⟩:=Zhv h;exact ⟨q,Oh _ hq,e⟩
theorem Wok.mean(w:Wok N (t,e))(h:ZbD e t=some v):Rw.ThG N v:=by
 cases t with
 | name x=>obtain ⟨q,hq,e⟩:=Zhv (show ZcV e x=some v from h);exact w.2 q hq v e
 | _=>cases h
theorem ZlT(h:Rw.ThG N v):ZbD (up (opn v).2) (opn v).1=none:=by
 cases v with
 | num n=>rfl
 | clo E ar=>cases E with
   | name x=>exact absurd rfl (h.1 x)
   | _=>rfl
noncomputable def tot(W:List (T×En)):Nat:=(W.map fun p=>(tel p).size).sum
theorem ZfO(A B_:List (T×En)):tot (A++B_)=tot A+tot B_:=by simp [tot]
theorem ZfN(p:T×En):tot [p]=(tel p).size:=by simp [tot]
theorem Zkf(h:ZbD e t=none):(tel (t,e)).size=1+tot (t.parts.reverse.map fun s=>(s,Zbv t e)):=by
 rw [Zo,(Zfq h).1];simp [tot,List.map_reverse,Function.comp_def]
noncomputable def com(W:List (T×En)):List D:=(W.reverse.flatMap fun p=>(tel p).places).map tf
theorem Zgm(W:List (T×En))(p:T×En):com (W++[p])=(tel p).places.map tf++com W:=by simp [com]
theorem ZkQ(W:List (T×En))(h:ZbD e t=none):com (W++[(t,e)])=tf t::com (W++t.parts.reverse.map fun s=>(s,Zbv t e)):=by
 obtain ⟨h1,h2⟩:=Zfq h;rw [Zgm,T.places_parts,Op,show tf (tel (t,e))=tf t by unfold tf;rw [h2],h1];simp [com,List.flatMap_append,List.map_reverse,List.flatMap_map]
noncomputable def Bud(P:Pg)(mo:D)(u:Int)(K n:Nat):Prop:=(mo=.non/\n<=K)\/(mo=.int (u+(K:Int))/\(n<=K\/Wid P))
noncomputable def nb(e:En)(t:T):Nat:=match ZbD e t with
 | some _=>1
 | none=>0
noncomputable def nbs(W:List (T×En)):Nat:=match W.getLast? with
 | some p=>nb p.2 p.1
 | none=>0
theorem Ztb(e:En)(t:T):nb e t<=1:=by unfold nb;split<;>lia
theorem Zl6(W:List (T×En)):nbs W<=1:=by unfold nbs;split;exact Ztb _ _;lia
theorem Zjt(W:List (T×En))(p:T×En):nbs (W++[p])=nb p.2 p.1:=by simp [nbs]
noncomputable def Old(h0 h:Hd)(pk:Nat):Prop:=h0.length<=h.length/\∀ i,i<h0.length->i≠pk->h[i]? = h0[i]?
inductive Fld(P:Pg)(n:Nat)(mo:D)(h0:Hd)(pk fk wk:Nat)(o1 o2:Option D)(u:Int)(F:List D)(W:List (T×En))(K:Nat):R (Fl×Ev)->Prop
 | ok {h':Hd}{o5 o6 o7:Option D} (le:tot W<=K) (q:Fi mo h0 h' pk fk wk (u+(tot W:Int)) (F++com W) []):Fld P n mo h0 pk fk wk o1 o2 u F W K (.ok (.nx,ve pk fk wk o1 o2 o5 o6 o7) h')
 | ex {h':Hd} (lt:K<tot W) (q:Old h0 h' pk):Fld P n mo h0 pk fk wk o1 o2 u F W K (.exc (O "Wide") h')
theorem Ziz(H:Trb P)(n:Nat)(hN:1<=N)(hN2:N<=45000):∀ (fuel:Nat) (W:List (T×En)) (F:List D) (u:Int) (h:Hd) (o5 o6 o7:Option D) (K:Nat),Bud P mo u K (tot W)->2 * K+1+nbs W<=fuel->F.length+K<=400000->W.length+3 * K<=1000000->(∀ p∈W,Wok N p)->Fi mo h0 h pk fk wk u F (W.map pr) ->
   Fld P n mo h0 pk fk wk o1 o2 u F W K (ZP (tst (P.tbl (n+2)) (.ex (.var 4))) (xs2 (P.tbl (n+2)) Zcp) fuel (ve pk fk wk o1 o2 o5 o6 o7) h)
 | 0,W,F,u,h,o5,o6,o7,K,_,hf,_,_,_,_=>by lia
 | fuel+1,W,F,u,h,o5,o6,o7,K,bu,hf,hz,hw,ok,q=>by
   rcases List.eq_nil_or_concat W with rfl|⟨V,p,rfl⟩
   . rw [Zi3 (Zi7 rfl q.w)];exact .ok (Nat.zero_le _) (by simpa [com,tot] using q)
   . obtain ⟨t,ar⟩:=p;rw [List.concat_eq_append] at bu hf hw ok q ⊢;have q':Fi mo h0 h pk fk wk u F (V.map pr++[pr (t,ar)]):=by simpa using q
     have hW:=ok (t,ar) (by simp);have okV:∀ p∈V,Wok N p:=fun p hp=>ok p (by simp [hp]);rw [Zjt] at hf;simp only at hf;rw [OA,List.length_singleton] at hw;have hV:(V.map pr).length<=1000000:=by rw [List.length_map];lia
     have ha:ar.length<=90000:=by have:=hW.1;simp only at this;lia
     have tt:=Zm (Zi7 (U:=P.tbl (n+2)) (S:=ve pk fk wk o1 o2 o5 o6 o7) (e:=.var 4) rfl q'.w) (c:=true) (by simp);have e1:tot (V++[(t,ar)])=tot V+(tel (t,ar)).size:=by rw [ZfO,ZfN]
     cases hm:ZbD ar t with
     | none =>
       have t1:=Zkf hm;rw [show nb ar t=0 by unfold nb;rw [hm]] at hf;cases K with
       | zero =>
         rcases bu with ⟨_,z⟩|⟨rfl,z⟩
         . lia
         . rcases z with z|z
           . lia
           . have q2:Fi (.int u) h0 h pk fk wk u F (V.map pr++[pr (t,ar)]):=by simpa using q'
             obtain ⟨h1,x,q1⟩:=Zp1 H z n t ar hm q2 o1 o2 o5 o6 o7;rw [Znd tt x];exact .ex (by lia) ⟨q1.ol,q1.old⟩
       | succ K =>
         have lm:Lim mo (u+1):=by
           rcases bu with ⟨e,_⟩|⟨e,_⟩
           . exact .inl e
           . exact .inr ⟨_,e,by lia⟩
         obtain ⟨h1,o51,o61,o71,x,q1⟩:=Znp H n t ar hm lm q' (by lia) hV ha o1 o2 o5 o6 o7;rw [ZfM tt x];have e2:tot (V++t.parts.reverse.map fun s=>(s,Zbv t ar))=tot V+tot (t.parts.reverse.map fun s=>(s,Zbv t ar)):=ZfO _ _;have hp:t.parts.length<=3:=by cases t<;>simp [T.parts]
         have nl:=Zl6 (V++t.parts.reverse.map fun s=>(s,Zbv t ar));have ih:=Ziz H n hN hN2 (o1:=o1) (o2:=o2) fuel (V++t.parts.reverse.map fun s=>(s,Zbv t ar)) (F++[tf t]) (u+1) h1 o51 o61 o71 K (by
           rcases bu with ⟨e,z⟩|⟨e,z⟩
           . exact .inl ⟨e,by lia⟩
           . exact .inr ⟨by rw [e];congr 1;lia,z.imp (fun z=>by lia) id⟩) (by lia) (by rw [OA,List.length_singleton];lia) (by rw [OA,List.length_map,List.length_reverse];lia) (fun p hp=>by
           rcases OD.mp hp with hp|hp
           . exact okV p hp
           . obtain ⟨s,hs,rfl⟩:=List.mem_map.mp hp;exact hW.part (by simpa using hs)) (by simpa [List.map_map,Function.comp_def] using q1)
         generalize ZP _ _ _ _ _=r at ih ⊢;cases ih with
         | ok le q =>
           refine .ok (by lia) ?_;rw [ZkQ V hm,show u+((tot (V++[(t,ar)]):Nat):Int)=u+1+((tot (V++t.parts.reverse.map fun s=>(s,Zbv t ar)):Nat):Int) by rw [e1,e2,t1];lia];simpa using q
         | ex lt q=>exact .ex (by lia) q
     | some v =>
       rw [show nb ar t=1 by unfold nb;rw [hm]] at hf;have g:=hW.mean hm;have s1:(tel (t,ar)).size=(tel ((opn v).1,up (opn v).2)).size:=by rw [Ze0 hm,Zja]
       have e2:tot (V++[((opn v).1,up (opn v).2)])=tot (V++[(t,ar)]):=by rw [e1,ZfO,ZfN,s1]
       obtain ⟨h1,o51,o61,o71,x,q1⟩:=Zno H n t ar hm q' hV o1 o2 o5 o6 o7;rw [ZfM tt x];have ih:=Ziz H n hN hN2 (o1:=o1) (o2:=o2) fuel (V++[((opn v).1,up (opn v).2)]) F u h1 o51 o61 o71 K (by rw [e2];exact bu) (by rw [Zjt];unfold nb;rw [ZlT g];simp only;lia) hz (by rw [OA,List.length_singleton];lia) (fun p hp=>by
         rcases OD.mp hp with hp|hp
         . exact okV p hp
         . rw [Ox.mp hp];exact Wok.thing hN g) (by simpa using q1)
       have e3:com (V++[((opn v).1,up (opn v).2)])=com (V++[(t,ar)]):=by rw [Zgm,Zgm,Ze0 hm,Zja]
       generalize ZP _ _ _ _ _=r at ih ⊢;cases ih with
       | ok le q =>
         rw [e2,e3] at q;exact .ok (by lia) q
       | ex lt q=>exact .ex (by lia) q
end Tm
end
section
namespace Tm
open PySem L2 IV
variable {P:Pg}
theorem grown{h0 h:Hd}(hl:h0.length<=h.length)(old:∀ i,i<h0.length->h[i]? = h0[i]?):∃ g,h=h0++g:=⟨h.drop h0.length,by
 apply List.ext_getElem?;intro i;rcases Nat.lt_or_ge i h0.length with q|q
 . rw [old i q,Oe q]
 . rw [Om q,List.getElem?_drop];congr 1
   lia⟩
noncomputable def Aft(h0 h:Hd)(pk:Nat)(mo:D)(u:Int):Prop:=h[pk]? = some (Zcx mo u)/\h0.length<=h.length/\∀ i,i<h0.length->i≠pk->h[i]? = h0[i]?
inductive Out(h0:Hd)(pk:Nat)(mo:D)(t:T)(u:Int)(K:Nat):R D->Prop
 | ok {h':Hd} (le:t.size<=K) (a:Aft h0 h' pk mo (u+(t.size:Int))):Out h0 pk mo t u K (.ok t.d h')
 | ex {h':Hd} (lt:K<t.size) (a:Old h0 h' pk):Out h0 pk mo t u K (.exc (O "Wide") h')
theorem Zqe(H:Trb P)(n:Nat)(hN:1<=N)(hN2:N<=45000)(t:T)(e:En)(a:Aft h0 h pk mo u)(bu:Bud P mo u K (tel (t,e)).size)(hK:K<=300000)(hw:Wok N (t,e)) :
   Out h0 pk mo (tel (t,e)) u K (run P (n+3) (mnm (O "Pen") (O "filled")) [.ref pk,t.d,.tup (e.map edd)] h):=by
 obtain ⟨hp,hl,old⟩:=a;rw [ZfU H.n_Pen_filled H.Pen_filled (by rfl)];have q0:Fi mo h0 (h++[.lst [],.lst ([(t,e)].map pr)]) pk h.length (h.length+1) u [] ([(t,e)].map pr):=⟨keep hp,by simp,by simp,by lia,hl,by lia,by simp;lia,fun i hi hn=>by rw [Oe (by lia)];exact old i hi hn⟩
 have e1:=ZfN (t,e);have big:=H.big;have nl:=Zl6 [(t,e)];have x:=Ziz H n hN hN2 (o1:=some t.d) (o2:=some (.tup (e.map edd))) P.L [(t,e)] [] u _ none none none K (by rw [e1];exact bu) (by lia) (by simp only [List.length_nil];lia) (by simp only [Os,List.length_nil];lia) (fun p hp=>by rw [Ox.mp hp];exact hw) q0;have x1:xs1 (P.tbl (n+2)) (.set (.nm 3) (.lstl .nil)) [some (.ref pk),some t.d,some (.tup (e.map edd)),none,none,none,none,none] h=.ok (.nx,[some (.ref pk),some t.d,some (.tup (e.map edd)),some (.ref h.length),none,none,none,none]) (h++[.lst []]):=Zl (ZeX rfl (by decide));have x2:xs1 (P.tbl (n+2)) (.set (.nm 4) (.lstl (.cons (.tupl (.cons (.var 1) (.cons (.var 2) .nil))) .nil))) [some (.ref pk),some t.d,some (.tup (e.map edd)),some (.ref h.length),none,none,none,none] (h++[.lst []])=.ok (.nx,[some (.ref pk),some t.d,some (.tup (e.map edd)),some (.ref h.length),some (.ref (h.length+1)),none,none,none]) (h++[.lst [],.lst ([(t,e)].map pr)]):=by
   have:=Zl (U:=P.tbl (n+2)) (i:=4) (ZeX (S:=[some (.ref pk),some t.d,some (.tup (e.map edd)),some (.ref h.length),none,none,none,none]) (h:=h++[.lst []]) (es:=.cons (.tupl (.cons (.var 1) (.cons (.var 2) .nil))) .nil) (Zb (ZaF (Zb rfl (Zb rfl rfl)) (by simp)) rfl) (by simp));simpa [pr] using this
 have key:∀ y,Fld P n mo h0 pk h.length (h.length+1) (some t.d) (some (.tup (e.map edd))) u [] [(t,e)] K y->xs1 (P.tbl (n+2)) (.whl (.ex (.var 4)) Zcp) [some (.ref pk),some t.d,some (.tup (e.map edd)),some (.ref h.length),some (.ref (h.length+1)),none,none,none] (h++[.lst [],.lst ([(t,e)].map pr)])=y->Out h0 pk mo (tel (t,e)) u K (Zt (xs2 (P.tbl (n+2)) ZbM [some (.ref pk),some t.d,some (.tup (e.map edd)),none,none,none,none,none] h)):=by
   intro y x z;rw [ZoL,Za x1,Za x2];cases x with
   | ex lt q =>
     rw [ZgM z];exact .ex (by rw [e1] at lt;exact lt) q
   | @ok h1 o5 o6 o7 le q1 =>
     have qf:=q1.f;have ec:com [(t,e)]=(tel (t,e)).places.map tf:=by simp [com]
     rw [ec,OB] at qf;rw [e1] at le q1;obtain ⟨g2,e3⟩:=ZnF H n (tel (t,e)) qf (by lia);have q2:=q1.app (g:=g2);have x4:xs1 (P.tbl (n+2)) (.ret (.call (O "built") (.cons (.var 3) .nil))) (ve pk h.length (h.length+1) (some t.d) (some (.tup (e.map edd))) o5 o6 o7) h1=.ok (.rt (tel (t,e)).d,ve pk h.length (h.length+1) (some t.d) (some (.tup (e.map edd))) o5 o6 o7) (h1++g2):=ZD (ZC e3 rfl);rw [Za z,Zc x4];exact .ok le ⟨q2.p,q2.ol,q2.old⟩
 exact key _ x rfl
noncomputable abbrev Fil:=List (Str×T)
noncomputable def Fil.ar(f:Fil):Ar:=f.map fun p=>(p.1,some p.2)
noncomputable def fen(f:Fil):En:=f.map fun p=>(p.1,some (Rw.Th.clo p.2 .nil))
theorem ZoM(f:Fil):f.ar.map ard=(fen f).map edd:=by simp [Fil.ar,fen,ard,edd,thd,Rw.thD,Rw.Th.d,Rw.Ar.ds,Function.comp_def]
theorem ZrD(f:Fil):er (fen f)=f.ar:=by simp [er,fen,Fil.ar,Rw.rd,Rw.ra,ZaO _ (show NN [] from fun _=>rfl),Function.comp_def]
noncomputable def Fil.kv(f:Fil):List (Key×D):=f.map fun p=>(.inr p.1,p.2.d)
theorem Zea:∀ {f:Fil}{x:Str}{V:T},(f.map (·.1)).Nodup->(x,V)∈f->ZX f.kv (.inr x)=some V.d
 | (y,W)::r,x,V,nd,hm=>by
   rw [Op,List.nodup_cons] at nd;unfold ZX Fil.kv;rw [Op,List.find?_cons];rcases O2.mp hm with e|hm
   . cases e;simp
   . have ne:y≠x:=fun z=>nd.1 (by rw [z];exact List.mem_map.mpr ⟨(x,V),hm,rfl⟩);have:¬ (Sum.inr y:Key)=Sum.inr x:=fun z=>ne (Sum.inr.inj z);simp only [this,decide_false];exact Zea nd.2 hm
noncomputable def fe1:Ex:=(.tupl (.cons (.var 0) (.cons (.tupl (.cons (.cst (.str (O "clo"))) (.cons (.ix (.var 1) (.var 0)) (.cons (.tupl .nil) .nil)))) .nil)))
theorem ZpJ{U:Tb}{f:Fil}(nd:(f.map (·.1)).Nodup)(hd:h[dk]? = some (.fdic f.kv)):∀ (r:Fil) (acc:List D),(∀ p∈r,p∈f)->acc.length+r.length<=1000 ->
   Zq [] (.nm 0) (tsto U none) (ev U fe1) (r.map fun p=>D.str p.1) [none,some (.ref dk)] acc h=.ok (acc++r.ar.map ard) h
 | [],acc,_,_=>by simp [Zq,Wk.stays,Fil.ar]
 | (x,V)::r,acc,hm,hz=>by
   have ih:=ZpJ (U:=U) nd hd r (acc++[ard (x,some V)]) (fun p hp=>hm p (Oh _ hp)) (by simp at hz ⊢;lia);have hl:acc.length<16777216:=by simp at hz;lia
   have hv:=Zea nd (hm (x,V) Oi);have ix:ZaE U.GD (.ref dk) (.str x) h=.ok V.d h:=by simp [ZaE,dicOf,hd,hv]
   have ee:ev U fe1 [some (.str x),some (.ref dk)] h=.ok (ard (x,some V)) h:=by simp [fe1,ix,sizeLine_eq,ard,thd]
   rw [Op,Zx];simp [Wk.stays,hl,sizeLine_eq,ee];simpa [Fil.ar] using ih
theorem Zif (H:Trb P) (hpi:P.tb.lookup (O "put_in")=some ZeO) (n:Nat) (t:T) (f:Fil) {h:Hd} (nd:(f.map (·.1)).Nodup) (hf:f.length<=100) (hd:h[dk]? = some (.dic f.kv)) {N:Nat} (hN:1<=N) (hN2:N<=45000) (hw:Wok N (t,fen f)) (hz:(sub f.ar t).size<=300000) :
   ∃ g,run P (n+4) (O "put_in") [t.d,.ref dk] h=.ok (sub f.ar t).d (h.set dk (.fdic f.kv)++g):=by
 rw [Zj hpi (by rfl)];have hdl:=ZeB hd;generalize hh1:h.set dk (.fdic f.kv)=h1;have d1:h1[dk]? = some (.fdic f.kv):=by rw [<- hh1,Ol hdl]
 have l1:h1.length=h.length:=by rw [<- hh1];simp
 have ec:=ZpJ (U:=P.tbl (n+3)) nd d1 f [] (fun p hp=>hp) (by simp;lia);have ks:(f.kv.map fun p=>Zml p.1)=f.map fun p=>D.str p.1:=by simp [Fil.kv,Zml,Function.comp_def]
 have x1:xs1 (P.tbl (n+3)) ZbK [some t.d,some (.ref dk),none] h=.ok (.nx,[some t.d,some (.ref dk),some (.tup (f.ar.map ard))]) (h1++[.lst (f.ar.map ard)]):=by
   have ei:evi (P.tbl (n+3)) (.dk (.var 1)) [some t.d,some (.ref dk),none] h=.ok ⟨[],f.map fun p=>D.str p.1⟩ h1:=by
     show Zmw (.ref dk) h=_;simp [Zmw,hd,hh1,ks]
   have ev1:ev (P.tbl (n+3)) (.comp [(O "name"),(O "filling")] [none,some 1] (.dk (.var 1)) (.nm 0) none fe1) [some t.d,some (.ref dk),none] h=.ok (.ref h1.length) (h1++[.lst (f.ar.map ard)]):=by
     rw [Zei,ei,Zr];simp only [Zbd,Op,Oy,Option.bind_none,Option.bind_some];rw [show ([some t.d,some (D.ref dk),none][1]?).join=some (.ref dk) from rfl,ec];rfl
   unfold fe1 at ev1;simp [-Zei,ZbK,ev1,Za7,ZiW,lstOf]
 generalize hh2:h1++[DO.lst (f.ar.map ard)]=h2 at x1;have l2:h2.length=h.length+1:=by rw [<- hh2];simp [l1]
 have old2:∀ i,i<h1.length->(h2++[Zcx .non 0])[i]? = h1[i]? := fun i hi=>by
   rw [Oe (by lia),<- hh2,Oe hi]
 have ep:=ZsF H (n+2) .non h2;have et:tel (t,fen f)=sub f.ar t:=by show sub (er (fen f)) t=_;rw [ZrD]
 have o:=Zqe H n hN hN2 t (fen f) (mo:=.non) (h0:=h1) (h:=h2++[Zcx .non 0]) (pk:=h2.length) (u:=0) (K:=(sub f.ar t).size) ⟨by simp,by simp;lia,fun i hi _=>old2 i hi⟩ (.inl ⟨rfl,by rw [et];exact Oq _⟩) hz hw;rw [et,<- ZoM] at o;obtain ⟨h3,e,a3⟩:∃ h3,run P (n+3) (mnm (O "Pen") (O "filled")) [.ref h2.length,t.d,.tup (f.ar.map ard)] (h2++[Zcx .non 0])=.ok (sub f.ar t).d h3/\Aft h1 h3 h2.length .non (0+((sub f.ar t).size:Int)):=by
   generalize run P (n+3) _ _ _=r at o;cases o with
   | ok le a=>exact ⟨_,rfl,a⟩
   | ex lt a=>lia
 obtain ⟨g,rfl⟩:=grown a3.2.1 (fun i hi=>a3.2.2 i hi (by lia));refine ⟨g,?_⟩;have io:ZR (.ref h2.length) (h2++[Zcx .non 0])=some (O "Pen",[(O "most",.non),(O "used",.int 0)]):=by simp [ZR,Zcx]
 have x2:xs1 (P.tbl (n+3)) ZbJ [some t.d,some (.ref dk),some (.tup (f.ar.map ard))] h2=.ok (.rt (sub f.ar t).d,[some t.d,some (.ref dk),some (.tup (f.ar.map ard))]) (h1++g):=by
   simp [ZbJ,Pg.tbl,ep,io,List.lookup,e]
 show Zt (xs2 (P.tbl (n+3)) (.cons ZbK (.cons ZbJ .nil)) [some t.d,some (.ref dk),none] h)=_;rw [Za x1,Zc x2];rfl
end Tm
end
section
namespace Tm
open PySem L2 IV
variable {P:Pg}{h:Hd}
theorem Zbo(hM:1<=M):∀ (t:T) (ar:Ar),(∀ x V,get ar x=some V->V.size<=M)->(sub ar t).size<=t.size * M
 | .num _,_,_=>by simp [sub,T.size,T.places];lia
 | .name x,ar,hv=>by
   cases e:get ar x with
   | none=>simp [sub,e,T.size,T.places];lia
   | some V=>have:=hv x V e;simp [sub,e];simp [T.size,T.places] at *;lia
 | .fn x e,ar,hv=>by
   have ih:=Zbo hM e ((x,none)::ar) (fun y V q=>hv y V (Zae [x] ar q));rw [sub,Zo,Zo (.fn x e)];simp [T.parts,Nat.add_mul] at ih ⊢
   lia
 | .rcc f x e,ar,hv=>by
   have ih:=Zbo hM e ((f,none)::(x,none)::ar) (fun y V q=>hv y V (Zae [f,x] ar q));rw [sub,Zo,Zo (.rcc f x e)];simp [T.parts,Nat.add_mul] at ih ⊢
   lia
 | .call f a,ar,hv=>by
   have i1:=Zbo hM f ar hv;have i2:=Zbo hM a ar hv;rw [sub,Zo,Zo (.call f a)];simp [T.parts,Nat.add_mul] at i1 i2 ⊢
   lia
 | .op w f a,ar,hv=>by
   have i1:=Zbo hM f ar hv;have i2:=Zbo hM a ar hv;rw [sub,Zo,Zo (.op w f a)];simp [T.parts,Nat.add_mul] at i1 i2 ⊢
   lia
 | .iff c t e,ar,hv=>by
   have i1:=Zbo hM c ar hv;have i2:=Zbo hM t ar hv;have i3:=Zbo hM e ar hv;rw [sub,Zo,Zo (.iff c t e)];simp [T.parts,Nat.add_mul] at i1 i2 i3 ⊢
   lia
theorem ZeK:∀ (f:Fil) {x:Str}{V:T},get f.ar x=some V->(x,V)∈f
 | [],x,V,e=>by cases e
 | (y,W)::r,x,V,e=>by
   rw [Fil.ar,Op,get] at e;split at e
   . rename_i q;cases e;rw [<- q];exact Oi
   . exact Oh _ (ZeK r e)
theorem Zrs{t:T}{f:Fil}(hs:∀ p∈f,p.2.size<=300):(sub f.ar t).size<=t.size * 300:=Zbo (M:=300) (by lia) t f.ar fun x V e=>hs (x,V) (ZeK f e)
end Tm
end
section
namespace Tm
open PySem L2 IV
variable {P:Pg}{h:Hd}
theorem d_s(q:a<=b+M):a+1<=b+1+M:=by lia
theorem d_m{a b c d M:Nat}(p:a<=b+M)(q:c<=d+M):max a c<=max b d+M:=Nat.max_le.mpr ⟨OE p (Nat.add_le_add_right (Nat.le_max_left _ _) _),OE q (Nat.add_le_add_right (Nat.le_max_right _ _) _)⟩
theorem Zat{M:Nat}:∀ (t:T) (ar:Ar),(∀ x V,get ar x=some V->Gn.dep V<=M)->Gn.dep (sub ar t)<=Gn.dep t+M
 | .num _,_,_=>Nat.zero_le _
 | .name x,ar,hv=>by
   cases e:get ar x with
   | none=>simp [sub,e,Gn.dep]
   | some V=>have:=hv x V e;simp [sub,e];lia
 | .fn x e,ar,hv=>d_s (Zat e ((x,none)::ar) (fun y V q=>hv y V (Zae [x] ar q)))
 | .rcc f x e,ar,hv=>d_s (Zat e ((f,none)::(x,none)::ar) (fun y V q=>hv y V (Zae [f,x] ar q)))
 | .call f a,ar,hv=>d_s (d_m (Zat f ar hv) (Zat a ar hv))
 | .op w f a,ar,hv=>d_s (d_m (Zat f ar hv) (Zat a ar hv))
 | .iff c t e,ar,hv=>d_s (d_m (Zat c ar hv) (d_m (Zat t ar hv) (Zat e ar hv)))
end Tm
end
section
namespace Fr
open PySem L2 IV Tm
noncomputable def lf:T->List Str
 | .num _=>[]
 | .name x=>[x]
 | .fn x e=>(lf e).filter fun y=>decide (y≠x)
 | .rcc f x e=>(lf e).filter fun y=>decide (y≠f/\y≠x)
 | .call f a=>lf f++lf a
 | .iff c a b=>lf c++(lf a++lf b)
 | .op _ a b=>lf a++lf b
noncomputable def Fp(p:T×List Str)(x:Str):Prop:=x∈lf p.1/\x ∉ p.2
noncomputable def ben(p:T×List Str):List (T×List Str):=p.1.parts.map fun s=>(s,p.2++bnd p.1)
noncomputable def own(p:T×List Str):Option Str:=match p.1 with
 | .name x=>if x∈p.2 then none else some x
 | _=>none
theorem Zgd(p:T×List Str)(x:Str):Fp p x↔own p=some x\/∃ q∈ben p,Fp q x:=by
 obtain ⟨t,b⟩:=p;cases t with
 | num n=>simp [Fp,lf,own,ben,T.parts]
 | name y =>
   by_cases h:y∈b
   . simp only [Fp,lf,own,ben,T.parts,if_pos h,Ox,Oy];exact ⟨fun ⟨e,n⟩=>absurd (e ▸ h) n,fun z=>by rcases z with z|⟨q,hq,_⟩;cases z;cases hq⟩
   . simp only [Fp,lf,own,ben,T.parts,if_neg h,Ox,Oy];exact ⟨fun ⟨e,n⟩=>.inl (by rw [e]),fun z=>by rcases z with z|⟨q,hq,_⟩;cases z;exact ⟨rfl,h⟩;cases hq⟩
 | fn y e =>
   simp [Fp,lf,own,ben,T.parts,bnd];exact ⟨fun ⟨⟨a,b⟩,c⟩=>⟨a,c,b⟩,fun ⟨a,c,b⟩=>⟨⟨a,b⟩,c⟩⟩
 | rcc f y e =>
   simp [Fp,lf,own,ben,T.parts,bnd];exact ⟨fun ⟨⟨a,b,c⟩,d⟩=>⟨a,d,b,c⟩,fun ⟨a,d,b,c⟩=>⟨⟨a,b,c⟩,d⟩⟩
 | call f a=>simp [Fp,lf,own,ben,T.parts,bnd,or_and_right,exists_or,and_assoc]
 | iff c a d=>simp [Fp,lf,own,ben,T.parts,bnd,or_and_right,exists_or,and_assoc]
 | op w f a=>simp [Fp,lf,own,ben,T.parts,bnd,or_and_right,exists_or,and_assoc]
theorem Ziv(L:List (T×List Str))(x:Str):(∃ p∈L,Fp p x)↔(∃ p∈L,own p=some x)\/∃ q∈L.flatMap ben,Fp q x:=by
 constructor
 . rintro ⟨p,hp,h⟩;rcases (Zgd p x).mp h with h|⟨q,hq,h⟩
   . exact .inl ⟨p,hp,h⟩
   . exact .inr ⟨q,List.mem_flatMap.mpr ⟨p,hp,hq⟩,h⟩
 . rintro (⟨p,hp,h⟩|⟨q,hq,h⟩)
   . exact ⟨p,hp,(Zgd p x).mpr (.inl h)⟩
   . obtain ⟨p,hp,hq⟩:=List.mem_flatMap.mp hq;exact ⟨p,hp,(Zgd p x).mpr (.inr ⟨q,hq,h⟩)⟩
end Fr
end
section
namespace K02L
open PySem L2 IV
noncomputable def Zci:Sx:=(.set (.nm 1) (.dictl .nil))
noncomputable def Zch:Sx:=(.set (.nm 2) (.lstl (.cons (.tupl (.cons (.var 0) (.cons (.tupl .nil) .nil))) .nil)))
noncomputable def Zb6:Tx:=(.ex (.var 2))
noncomputable def ZbE:Sx:=(.set (.nm 3) (.lstl .nil))
noncomputable def ZdB:Ix:=(.pl (.var 2))
noncomputable def ZaW:Tx:=(.ands (.cons (.ex (.cmp .Eq (.ix (.var 4) (.cst (.int 0))) (.cst (.str (O "name"))))) (.one (.ex (.cmp .NotIn (.ix (.var 4) (.cst (.int 1))) (.var 5))))))
noncomputable def ZbR:Sx:=(.put (.var 1) (.ix (.var 4) (.cst (.int 1))) (.cst (.bl true)))
noncomputable def ZcT:Sxs:=(.cons ZbR .nil)
noncomputable def Z4:Sx:=.iff ZaW ZcT .nil
noncomputable def Za3:Sx:=(.set (.nm 6) (.bin .Add (.var 5) (.call (O "bound_names") (.cons (.var 4) .nil))))
noncomputable def Za2:Sx:=(.drp (.meth .ext (.var 3) (.cons (.comp [(O "part"),(O "inner")] [none,some 6] (.pl (.call (O "parts_of") (.cons (.var 4) .nil))) (.nm 0) none (.tupl (.cons (.var 0) (.cons (.var 1) .nil)))) .nil)))
noncomputable def Zal:Sxs:=(.cons Z4 (.cons Za3 (.cons Za2 .nil)))
noncomputable def ZdL:Sx:=.forr (.two 4 5) ZdB Zal
noncomputable def ZdK:Sx:=(.set (.nm 2) (.var 3))
noncomputable def ZbX:Sxs:=(.cons ZbE (.cons ZdL (.cons ZdK .nil)))
noncomputable def Zcg:Sx:=.whl Zb6 ZbX
noncomputable def Zfb:Sx:=(.ret (.blt .srt (.cons (.var 1) .nil)))
noncomputable def Zdm:Sxs:=(.cons Zci (.cons Zch (.cons Zcg (.cons Zfb .nil))))
noncomputable def Zdd:Fd:=⟨[(O "E")],[(O "E"),(O "found"),(O "level"),(O "beneath"),(O "place"),(O "bound"),(O "inner")],Zdm⟩
end K02L
end
section
namespace Fr
open PySem L2 IV Tm K02L
open Gn (dep ZF)
variable {P:Pg}
structure Fre(P:Pg):Prop where
 t:Gn.Tre P
 bound_names:P.tb.lookup (O "bound_names")=some Tm.Zas
 free_names:P.tb.lookup (O "free_names")=some Zdd
noncomputable def pd(p:T×List Str):D:=.tup [p.1.d,.tup (p.2.map .str)]
noncomputable def kd(ks:List Str):List (Key×D):=ks.map fun x=>(.inr x,.bl true)
noncomputable def ad(ks:List Str)(x:Str):List Str:=if x∈ks then ks else ks++[x]
noncomputable def add(ks:List Str)(p:T×List Str):List Str:=match own p with
 | some x=>ad ks x
 | none=>ks
theorem Zre(ks:List Str)(x:Str):putD (kd ks) (.inr x) (.bl true)=kd (ad ks x):=by
 have a:((kd ks).any fun kv=>decide (kv.1=.inr x))=decide (x∈ks):=by
   rw [Bool.eq_iff_iff];simp only [kd,List.any_eq_true,List.mem_map,decide_eq_true_eq];constructor
   . rintro ⟨_,⟨y,hy,rfl⟩,e⟩;cases e;exact hy
   . intro hx;exact ⟨_,⟨x,hx,rfl⟩,rfl⟩
 unfold putD ad;rw [a];by_cases hx:x∈ks
 . rw [if_pos (decide_eq_true hx),if_pos hx];unfold kd;rw [List.map_map];refine List.map_congr_left fun y _=>?_;show (if (Sum.inr y:Key)=.inr x then ((Sum.inr y:Key),D.bl true) else (.inr y,.bl true))=_;split<;>rfl
 . rw [if_neg (by simpa using hx),if_neg hx];simp [kd]
theorem ZjE:∀ ks:List Str,Zad (kd ks)=some ks
 | []=>rfl
 | x::r=>by show (Zad (kd r)).map _=_;rw [ZjE r];rfl
theorem ZrW:y∈ad ks x↔y∈ks\/x=y:=by
 unfold ad;split
 . rename_i hx;exact ⟨.inl,fun z=>by rcases z with z|rfl;exact z;exact hx⟩
 . simp [eq_comm]
theorem ZtS(n:ks.Nodup):(ad ks x).Nodup:=by
 unfold ad;split
 . exact n
 . rename_i hx;exact List.nodup_append.mpr ⟨n,by simp,fun a ha b hb=>by rw [Ox.mp hb];exact fun e=>hx (e ▸ ha)⟩
theorem Zpe:y∈add ks p↔y∈ks\/own p=some y:=by
 unfold add;split
 . rename_i x e;rw [ZrW,e,Option.some.injEq]
 . rename_i e;rw [e];simp
theorem ZrV(n:ks.Nodup):(add ks p).Nodup:=by
 unfold add;split
 . exact ZtS n
 . exact n
theorem Zj7:(add ks p).length<=ks.length+1:=by
 unfold add ad;split
 . split
   . lia
   . simp
 . lia
theorem Zh0:∀ (L:List (T×List Str)) (ks:List Str),y∈L.foldl add ks↔y∈ks\/∃ p∈L,own p=some y
 | [],ks=>by simp
 | p::L,ks=>by
   rw [List.foldl_cons,Zh0 L,Zpe,or_assoc];simp
theorem Zj6:∀ (L:List (T×List Str)) {ks:List Str},ks.Nodup->(L.foldl add ks).Nodup
 | [],ks,n=>n
 | p::L,ks,n=>Zj6 L (ZrV n)
theorem Zh1:∀ (L:List (T×List Str)) (ks:List Str),(L.foldl add ks).length<=ks.length+L.length
 | [],ks=>by simp
 | p::L,ks=>by
   have:=Zh1 L (add ks p);have:=Zj7 (ks:=ks) (p:=p);rw [List.foldl_cons,Os]
   lia
noncomputable def Ok2(i b:Nat)(h h':Hd):Prop:=h.length<=h'.length/\∀ m,m<h.length->m≠i->m≠b->h'[m]? = h[m]?
theorem Ok2.trans(x:Ok2 i b h h')(y:Ok2 i b h' h''):Ok2 i b h h'':=⟨OE x.1 y.1,fun m a c d=>(y.2 m (Ot a x.1) c d).trans (x.2 m a c d)⟩
theorem Zlx{o i e:Ex}(p:ev U e S h=.ok x h1)(q:ev U o S h1=.ok y h2)(r:ev U i S h2=.ok z h3)(s:ZaQ y z x h3=.ok () h4):xs1 U (.put o i e) S h=.ok (.nx,S) h4:=by rw [ZfL,p,Zr,q,Zr,r,Zr,s];rfl
theorem Zly(e:h[i]? = some (.dic kvs))(hz:kvs.length<sizeLine):ZaQ (.ref i) (.str x) v h=.ok () (h.set i (.dic (putD kvs (.inr x) v))):=by
 simp only [ZaQ,e,keyOf];exact if_pos hz
theorem ZtC(e:h[i]? = some (.lst ys))(l:h[j]? = some (.lst zs))(hz:ys.length+zs.length<=sizeLine):ZaI .ext (.ref i) [.ref j] h=.ok .non (h.set i (.lst (ys++zs))):=by
 simp only [ZaI,e,Zff,Zot,l];exact if_pos hz
noncomputable def vf(E:Option D)(i j:Nat)(b x y z:Option D):Ev:=[E,some (.ref i),some (.ref j),b,x,y,z]
theorem ZoD:ZaE GD (.tup (x::xs)) (.int 0) h=.ok x h:=by simp
theorem fn1{U:Tb}{p:T×List Str}(hi:h[i]? = some (.dic (kd ks)))(hk:ks.length<1000000):∃ h1,xs1 U Z4 (vf E i j b (some p.1.d) (some (.tup (p.2.map .str))) z) h=.ok (.nx,vf E i j b (some p.1.d) (some (.tup (p.2.map .str))) z) h1/\h1.length=h.length/\(∀ m,m≠i->h1[m]? = h[m]?)/\h1[i]? = some (.dic (kd (add ks p))):=by
 obtain ⟨t,bs⟩:=p;have no:∀ w ds,t.d=.tup (.str w::ds)->w≠O "name" -> own (t,bs)=none->∃ h1,xs1 U Z4 (vf E i j b (some t.d) (some (.tup (bs.map .str))) z) h=.ok (.nx,vf E i j b (some t.d) (some (.tup (bs.map .str))) z) h1/\h1.length=h.length/\(∀ m,m≠i->h1[m]? = h[m]?)/\h1[i]? = some (.dic (kd (add ks (t,bs)))):=fun w ds e ne o=>by
   refine ⟨h,(Zu (Zm8 (Zm (ZaM ((ZJ rfl rfl).trans (by rw [e];exact ZoD)) rfl) (decide_eq_false ne)))).trans rfl,rfl,fun _ _=>rfl,?_⟩;rw [hi,add,o]
 cases t with
 | name x =>
   have t1:tst U ZaW (vf E i j b (some (T.name x).d) (some (.tup (bs.map .str))) z) h=.ok (!decide (x∈bs)) h:=Zj5 (Zm (ZaM (x:=O "name") rfl rfl) (decide_eq_true rfl)) (Zbu ((Zv (x:=.str x) (y:=.tup (bs.map .str)) rfl rfl).trans ZbO));by_cases hx:x∈bs
   . refine ⟨h,(Zu (Zm t1 (by simp [hx]))).trans rfl,rfl,fun _ _=>rfl,?_⟩;rw [hi];simp [add,own,hx]
   . refine ⟨h.set i (.dic (kd (ad ks x))),(Zy (Zm t1 (by simp [hx]))).trans ((Za (Zlx (x:=.bl true) (y:=.ref i) (z:=.str x) rfl rfl rfl ((Zly hi (by rw [sizeLine_eq];simp [kd];lia)).trans (by rw [Zre])))).trans rfl),by simp,fun m hm=>by rw [Oc (Ne.symm hm)],?_⟩;rw [Ol (Gn.Zi hi)];simp [add,own,hx]
 | num n=>exact no _ _ rfl (by simp) rfl
 | fn x e=>exact no _ _ rfl (by simp) rfl
 | rcc f x e=>exact no _ _ rfl (by simp) rfl
 | call f a=>exact no _ _ rfl (by simp) rfl
 | iff c a d=>exact no _ _ rfl (by simp) rfl
 | op w a d=>exact no _ _ rfl (by simp) rfl
theorem ZpK{U:Tb}{inn:List D}:∀ (ts:List T) (acc:List D),acc.length+ts.length<=1000->Zq [] (.nm 0) (tsto U none) (ev U (.tupl (.cons (.var 0) (.cons (.var 1) .nil)))) (ts.map T.d) [none,some (.tup inn)] acc h=.ok (acc++(ts.map fun s=>D.tup [s.d,.tup inn])) h
 | [],acc,_=>by simp [Zq,Wk.stays]
 | x::xs,acc,hz=>by
   have ih:=ZpK (U:=U) (h:=h) (inn:=inn) xs (acc++[.tup [x.d,.tup inn]]) (by simp at hz ⊢;lia);have hl:acc.length<16777216:=by simp at hz;lia
   rw [Op,Zx];simp [Wk.stays,hl,sizeLine_eq];simpa using ih
theorem ZdI(t:T):(bnd t).length<=2/\t.parts.length<=3:=by cases t<;>simp [bnd,T.parts]
theorem fn3(H:Fre P)(n:Nat){p:T×List Str}{h:Hd}{B_:List D}(hi:h[i]? = some (.dic (kd ks)))(hb:h[b]? = some (.lst B_))(ne:i≠b)(hk:ks.length<1000000)(hB:B_.length<=9000000)(hp:p.2.length<=10000):∃ h',xs2 (P.tbl (n+1)) Zal (vf E i j (some (.ref b)) (some p.1.d) (some (.tup (p.2.map .str))) z) h=.ok (.nx,vf E i j (some (.ref b)) (some p.1.d) (some (.tup (p.2.map .str))) (some (.tup ((p.2++bnd p.1).map .str)))) h'/\Ok2 i b h h'/\h'[i]? = some (.dic (kd (add ks p)))/\h'[b]? = some (.lst (B_++(ben p).map pd)):=by
 obtain ⟨h1,e1,l1,s1,d1⟩:=fn1 (U:=P.tbl (n+1)) (E:=E) (j:=j) (b:=some (.ref b)) (z:=z) (p:=p) hi hk;have e2:=Tm.Zpt H.t H.bound_names n p.1 h1;have e3:=Gn.Zjh H.t n p.1 h1;have hl:=ZdI p.1;have b1:h1[b]? = some (.lst B_):=(s1 b (Ne.symm ne)).trans hb;have lb:=Gn.Zi b1;have li:=Gn.Zi d1;have x2:xs1 (P.tbl (n+1)) Za3 (vf E i j (some (.ref b)) (some p.1.d) (some (.tup (p.2.map .str))) z) h1=.ok (.nx,vf E i j (some (.ref b)) (some p.1.d) (some (.tup (p.2.map .str))) (some (.tup ((p.2++bnd p.1).map .str)))) h1:=by
   refine Zl (i:=6) ((Zg (x:=.tup (p.2.map .str)) rfl (ZC e2 rfl)).trans ?_);rw [Zee (by rw [sizeLine_eq];simp;lia),List.map_append]
 have c:Zq [] (.nm 0) (tsto (P.tbl (n+1)) none) (ev (P.tbl (n+1)) (.tupl (.cons (.var 0) (.cons (.var 1) .nil)))) (p.1.parts.map T.d) [none,some (.tup ((p.2++bnd p.1).map .str))] [] h1=.ok ((ben p).map pd) h1:=by
   rw [ZpK _ _ (by simp;lia)];simp [ben,pd,Function.comp_def]
 have x3:xs1 (P.tbl (n+1)) Za2 (vf E i j (some (.ref b)) (some p.1.d) (some (.tup (p.2.map .str))) (some (.tup ((p.2++bnd p.1).map .str)))) h1=.ok (.nx,vf E i j (some (.ref b)) (some p.1.d) (some (.tup (p.2.map .str))) (some (.tup ((p.2++bnd p.1).map .str)))) ((h1++[DO.lst ((ben p).map pd)]).set b (DO.lst (B_++(ben p).map pd))) :=
   Zdg (ZeW (i:=b) rfl b1 (Zb (ZeY (ZeV (ZC e3 rfl)) c) rfl) (ZtC (by rw [Oe lb];exact b1) (by simp) (by rw [sizeLine_eq];simp [ben];lia)))
 refine ⟨_,(Za e1).trans ((Za x2).trans ((Za x3).trans rfl)),⟨by simp;lia,fun m a c d=>?_⟩,?_,?_⟩
 . rw [Oc (Ne.symm d),Oe (by lia)];exact s1 m c
 . rw [Oc (Ne.symm ne),Oe li];exact d1
 . rw [Ol (by simp;lia)]
theorem Zmx(e:h[j]? = some (.lst L))(b:ZaX g d S=some ρ1)(q:body ρ1 h=.ok (.nx,ρ2) h2):ZG [(j,L)] g body (d::ds) S h=ZG [(j,L)] g body ds ρ2 h2:=by
 have:Wk.stays [(j,L)] h=true:=by simp [Wk.stays,e]
 rw [ZG,if_pos this,b];simp only;rw [q];rfl
theorem ZjK{g:Tg}{body:Ev->Hd->R (Fl×Ev)}(e:h[j]? = some (.lst L)):ZG [(j,L)] g body [] S h=.ok (.nx,S) h:=by
 have:Wk.stays [(j,L)] h=true:=by simp [Wk.stays,e]
 rw [ZG,if_pos this]
theorem ZdF{U:Tb}(p:ev U e S h=.ok (.ref i) h1)(l:h1[i]? = some (.lst ys)):evi U (.pl e) S h=.ok ⟨[(i,ys)],ys⟩ h1:=by
 rw [ZmC,p,Zr];simp only [ZaD,l];rfl
theorem ZpB(H:Fre P)(n:Nat)(ij:j≠i)(jb:j≠b)(ib:i≠b):∀ (xs:List (T×List Str)) (ks:List Str) (B_:List D) (h:Hd) (x y z:Option D),(∀ p∈xs,p.2.length<=10000)->h[i]? = some (.dic (kd ks))->h[b]? = some (.lst B_)->h[j]? = some (.lst Ld)->ks.length+xs.length<1000000->B_.length+3 * xs.length<=9000000 ->
   ∃ h' x' y' z',ZG [(j,Ld)] (.two 4 5) (xs2 (P.tbl (n+1)) Zal) (xs.map pd) (vf E i j (some (.ref b)) x y z) h=.ok (.nx,vf E i j (some (.ref b)) x' y' z') h'/\Ok2 i b h h'/\h'[i]? = some (.dic (kd (xs.foldl add ks)))/\h'[b]? = some (.lst (B_++(xs.flatMap ben).map pd))
 | [],ks,B_,h,x,y,z,_,hi,hb,hj,_,_=>⟨h,x,y,z,ZjK hj,⟨Oq _,fun _ _ _ _=>rfl⟩,hi,by simpa using hb⟩
 | p::xs,ks,B_,h,x,y,z,hp,hi,hb,hj,hk,hB=>by
   rw [Os] at hk hB;obtain ⟨h1,e1,o1,d1,b1⟩:=fn3 H n (E:=E) (j:=j) (z:=z) (p:=p) hi hb ib (by lia) (by lia) (hp p (.head _));have hl:(ben p).length<=3:=by simp [ben];exact (ZdI p.1).2
   have al:=Zj7 (ks:=ks) (p:=p);obtain ⟨h2,x',y',z',e2,o2,d2,b2⟩:=ZpB H n (E:=E) (Ld:=Ld) ij jb ib xs (add ks p) (B_++(ben p).map pd) h1 (some p.1.d) (some (.tup (p.2.map .str))) (some (.tup ((p.2++bnd p.1).map .str))) (fun q hq=>hp q (.tail _ hq)) d1 b1 ((o1.2 j (Gn.Zi hj) ij jb).trans hj) (by lia) (by simp;lia);exact ⟨h2,x',y',z',(Zmx hj rfl e1).trans e2,o1.trans o2,d2,by rw [b2];simp⟩
noncomputable def pls(L:List (T×List Str)):Nat:=(L.flatMap fun p=>p.1.places).length
theorem ZlH(p:T×List Str)(L:List (T×List Str)):pls (p::L)=p.1.places.length+pls L:=by simp [pls]
theorem ZnS(L M:List (T×List Str)):pls (L++M)=pls L+pls M:=by simp [pls]
theorem ZnR(p:T×List Str):pls (ben p)+1=p.1.places.length:=by
 rw [T.places_parts p.1];simp [pls,ben,List.flatMap_map]
theorem Zg0:∀ L:List (T×List Str),pls (L.flatMap ben)+L.length=pls L
 | []=>rfl
 | p::L=>by
   have:=Zg0 L;have:=ZnR p;rw [List.flatMap_cons,ZnS,ZlH,Os]
   lia
theorem ZpA(H:Fre P)(n:Nat):∀ (f F:Nat) (L:List (T×List Str)) (ks:List Str) (h:Hd) (j:Nat) (b x y z:Option D),f<F->(∀ p∈L,dep p.1<f/\p.2.length+2 * dep p.1<=9000)->ks.length+pls L<=900000->ks.Nodup->h[i]? = some (.dic (kd ks))->h[j]? = some (.lst (L.map pd)) ->
   ∃ h' ks' j' b' x' y' z',ZP (tst (P.tbl (n+1)) Zb6) (xs2 (P.tbl (n+1)) ZbX) F (vf E i j b x y z) h=.ok (.nx,vf E i j' b' x' y' z') h'/\Gn.Up i h h'/\h'[i]? = some (.dic (kd ks'))/\ks'.Nodup/\∀ v,v∈ks'↔v∈ks\/∃ p∈L,Fp p v
 | f,0,L,ks,h,j,b,x,y,z,hf,_,_,_,_,_=>by lia
 | f,F+1,[],ks,h,j,b,x,y,z,hf,hp,hs,nd,hi,hj=>⟨h,ks,j,b,x,y,z,Zi3 (Zi7 rfl hj),Gn.Up.refl,hi,nd,by simp⟩
 | 0,F+1,p::L,ks,h,j,b,x,y,z,hf,hp,hs,nd,hi,hj=>by have:=(hp p (.head _)).1;lia
 | f+1,F+1,p::L,ks,h,j,b,x,y,z,hf,hp,hs,nd,hi,hj=>by
   have ij:j≠i:=fun e=>by rw [e,hi] at hj;cases hj
   have li:=Gn.Zi hi;have lj:=Gn.Zi hj;have hn:=Zg0 (p::L);have x1:xs1 (P.tbl (n+1)) ZbE (vf E i j b x y z) h=.ok (.nx,vf E i j (some (.ref h.length)) x y z) (h++[.lst []]):=Zl (i:=3) (ZeX (xs:=[]) rfl (Nat.zero_le _));obtain ⟨h1,x1',y1,z1,e1,o1,d1,b1⟩:=ZpB H n (E:=E) (i:=i) (j:=j) (b:=h.length) (Ld:=(p::L).map pd) ij (by lia) (by lia) (p::L) ks [] (h++[.lst []]) x y z (fun q hq=>by have:=(hp q hq).2;lia) (by rw [Oe li];exact hi) (by simp) (by rw [Oe lj];exact hj) (by lia) (by rw [List.length_nil];lia);have al:=Zh1 (p::L) ks;obtain ⟨h2,ks',j',b',x',y',z',e2,o2,d2,nd2,m2⟩:=ZpA H n (E:=E) (i:=i) f F ((p::L).flatMap ben) ((p::L).foldl add ks) h1 h.length (some (.ref h.length)) x1' y1 z1 (by lia) (fun q hq=>by
     obtain ⟨r,hr,hq⟩:=List.mem_flatMap.mp hq;obtain ⟨s,hs,rfl⟩:=List.mem_map.mp hq;have:=ZF hs;have:=hp r hr;have:=ZdI r.1;simp
     lia) (by lia) (Zj6 _ nd) d1 (by rw [b1];rfl)
   refine ⟨h2,ks',j',b',x',y',z',(ZfM (Zi7 rfl hj) ((Za x1).trans ((Za ((ZcU (ZdF rfl (by rw [Oe lj];exact hj))).trans e1)).trans ((Za (Zl (i:=2) (d:=.ref h.length) rfl)).trans rfl)))).trans e2,?_,d2,nd2,fun v=>?_⟩
   . refine Gn.Up.trans ⟨?_,fun m hm hi=>?_⟩ o2
     . have:=o1.1;simp at this;lia
     . rw [o1.2 m (by simp;lia) hi (by lia),Oe hm]
   . rw [m2,Zh0,or_assoc,<- Ziv]
theorem Zft{a b:List Str}(p:a.Perm b):ZQ a=ZQ b:=((Z6 a).trans (p.trans (Z6 b).symm)).eq_of_pairwise (fun _ _ _ _ h q=>Zhf h q) (Zcl a) (Zcl b)
theorem kept{h h':Hd}(u:h.length<=h'.length)(s:∀ m,m<h.length->h'[m]? = h[m]?):∃ g,h'=h++g:=by
 refine ⟨h'.drop h.length,?_⟩;refine List.ext_getElem? fun m=>?_;rcases Nat.lt_or_ge m h.length with q|q
 . rw [Oe q,s m q]
 . rw [Om q,List.getElem?_drop];congr 1;lia
theorem Zqd (H:Fre P) (n:Nat) (t:T) (h:Hd) (hs:t.size<=800000) (hd:dep t<=900) (hk:∀ x∈lf t,PyData.strOk x=true) (hl:(ddS (lf t)).length<64):∃ g,run P (n+2) (O "free_names") [t.d] h=.ok (.ref (h++g).length) (h++g++[.lst ((ZQ (ddS (lf t))).map .str)]):=by
 rw [Zj H.free_names rfl];have x1:xs1 (P.tbl (n+1)) Zci [some t.d,none,none,none,none,none,none] h=.ok (.nx,[some t.d,some (.ref h.length),none,none,none,none,none]) (h++[.dic []]):=Zl (i:=1) rfl;have x2:xs1 (P.tbl (n+1)) Zch [some t.d,some (.ref h.length),none,none,none,none,none] (h++[.dic []])=.ok (.nx,vf (some t.d) h.length (h++[DO.dic []]).length none none none none) (h++[DO.dic []]++[DO.lst ([(t,[])].map pd)]):=Zl (i:=2) (ZeX (xs:=[_]) rfl (show 1<=1000 by decide));obtain ⟨h',ks,j',b',x',y',z',e3,u,d,nd,mm⟩:=ZpA H n (E:=some t.d) (i:=h.length) (dep t+1) P.L [(t,[])] [] (h++[DO.dic []]++[DO.lst ([(t,[])].map pd)]) (h++[DO.dic []]).length none none none none (by have:=H.t.big;lia) (by simp;lia) (by simp [pls];exact OE hs (by decide)) List.nodup_nil (by simp [kd]) (by simp);have m2:∀ v,v∈ks↔v∈lf t:=fun v=>by rw [mm];simp [Fp]
 have pm:=Zej nd m2;have hlen:ks.length<64:=by rw [pm.length_eq];exact hl
 obtain ⟨g,eg⟩:=kept (h:=h) (h':=h') (by have:=u.1;simp at this;lia) (fun m hm=>(u.2 m (by simp;lia) (by lia)).trans (by rw [Oe (by simp;lia),Oe hm]));refine ⟨g,?_⟩;have x4:ev (P.tbl (n+1)) (.blt .srt (.cons (.var 1) .nil)) (vf (some t.d) h.length j' b' x' y' z') h'=.ok (.ref h'.length) (h'++[.lst ((ZQ (ddS (lf t))).map .str)]):=by
   refine Zgj (xs:=[.ref h.length]) rfl ?_;show ZbN P.GD [.ref h.length] h'=_;simp only [ZbN,dicOf,d,Option.bind_some,ZjE];rw [if_pos ⟨hlen,OC.mpr fun x hx=>hk x ((m2 x).mp hx)⟩,Zft pm];rfl
 rw [eg] at x4;rw [<- eg] at x4;have e3:xs1 (P.tbl (n+1)) Zcg (vf (some t.d) h.length (h++[DO.dic []]).length none none none none) (h++[DO.dic []]++[DO.lst ([(t,[])].map pd)])=.ok (.nx,vf (some t.d) h.length j' b' x' y' z') h':=e3;have w:xs2 (P.tbl (n+1)) Zdm [some t.d,none,none,none,none,none,none] h=.ok (.rt (.ref h'.length),vf (some t.d) h.length j' b' x' y' z') (h'++[.lst ((ZQ (ddS (lf t))).map .str)]):=(Za x1).trans ((Za x2).trans ((Za e3).trans (Zc (ZD x4))));rw [<- eg];exact congrArg Zt w
end Fr
end
section
namespace K12L
open PySem L2 IV
noncomputable def ZbQ:Tx:=(.ex (.cmp .Lt (.var 1) (.blt .len (.cons (.var 0) .nil))))
noncomputable def ZcY:Sx:=(.ret (.ix (.var 0) (.var 1)))
noncomputable def Zd0:Sxs:=(.cons ZcY .nil)
noncomputable def Zd9:Sx:=.iff ZbQ Zd0 .nil
noncomputable def Zd8:Sx:=(.ret (.cst (.int 0)))
noncomputable def Zbw:Sxs:=(.cons Zd9 (.cons Zd8 .nil))
noncomputable def ZcH:Fd:=⟨[(O "_law_script"),(O "_law_k")],[(O "_law_script"),(O "_law_k")],Zbw⟩
noncomputable def Zbe:Tx:=(.ands (.cons (.ex (.cmp .Eq (.ix (.var 0) (.cst (.int 0))) (.cst (.str (O "name"))))) (.one (.ex (.cmp .In (.ix (.var 0) (.cst (.int 1))) (.var 1))))))
noncomputable def Ze8:Sx:=(.ret (.ix (.var 2) (.lix (.var 1) (.ix (.var 0) (.cst (.int 1))))))
noncomputable def Zhh:Sxs:=(.cons Ze8 .nil)
noncomputable def ZhQ:Sx:=.iff Zbe Zhh .nil
noncomputable def ZdU:Tx:=(.ors (.cons (.ex (.cmp .Eq (.ix (.var 0) (.cst (.int 0))) (.cst (.str (O "fn"))))) (.one (.ex (.cmp .Eq (.ix (.var 0) (.cst (.int 0))) (.cst (.str (O "rec"))))))))
noncomputable def Zca:Sx:=(.set (.nm 3) (.comp [(O "_law_name"),(O "_law_told")] [none,some 0] (.pl (.var 1)) (.nm 0) (some (.ex (.cmp .NotIn (.var 0) (.sl (.var 1) (some (.cst (.int 1))) (some (.neg (.cst (.int 1)))))))) (.var 0)))
noncomputable def Zb9:Sx:=(.set (.nm 4) (.comp [(O "_law_name"),(O "_law_held"),(O "_law_names_here")] [none,some 2,some 1] (.pl (.var 3)) (.nm 0) none (.ix (.var 1) (.lix (.var 2) (.var 0)))))
noncomputable def Zb8:Sx:=(.ret (.bin .Add (.sl (.var 0) none (some (.neg (.cst (.int 1))))) (.tupl (.cons (.call (O "_law_put") (.cons (.ix (.var 0) (.neg (.cst (.int 1)))) (.cons (.var 3) (.cons (.var 4) .nil)))) .nil))))
noncomputable def Zhg:Sxs:=(.cons Zca (.cons Zb9 (.cons Zb8 .nil)))
noncomputable def ZhP:Sx:=.iff ZdU Zhg .nil
noncomputable def ZhO:Sx:=(.set (.nm 5) (.lstl .nil))
noncomputable def Zhn:Ix:=(.pl (.var 0))
noncomputable def Zfk:Tx:=(.ex (.blt .isi (.cons (.var 6) (.cons (.cst (.ty "tuple")) .nil))))
noncomputable def ZdJ:Sx:=(.set (.nm 6) (.call (O "_law_put") (.cons (.var 6) (.cons (.var 1) (.cons (.var 2) .nil)))))
noncomputable def Zfg:Sxs:=(.cons ZdJ .nil)
noncomputable def Zfl:Sx:=.iff Zfk Zfg .nil
noncomputable def ZcN:Sx:=(.drp (.meth .app (.var 5) (.cons (.var 6) .nil)))
noncomputable def Zba:Sxs:=(.cons Zfl (.cons ZcN .nil))
noncomputable def ZhN:Sx:=.forr (.nm 6) Zhn Zba
noncomputable def ZhM:Sx:=(.ret (.blt .tup (.cons (.var 5) .nil)))
noncomputable def Zcv:Sxs:=(.cons ZhQ (.cons ZhP (.cons ZhO (.cons ZhN (.cons ZhM .nil)))))
noncomputable def ZfC:Fd:=⟨[(O "_law_told"),(O "_law_names_here"),(O "_law_held")],[(O "_law_told"),(O "_law_names_here"),(O "_law_held"),(O "_law_left"),(O "_law_inner"),(O "_law_made"),(O "_law_part")],Zcv⟩
noncomputable def Zd7:Sx:=(.set (.nm 2) (.dictl .nil))
noncomputable def Zd2:Ix:=(.rng (.cst (.int 5)))
noncomputable def Zbj:Sx:=(.set (.nm 4) (.lstl (.cons (.tupl (.cons (.cst (.str (O "num"))) (.cons (.bin .Mod (.bin .FloorDiv (.var 0) (.bin .Add (.var 3) (.cst (.int 2)))) (.cst (.int 1000000))) .nil))) (.cons (.call (O "_law_plain") (.cons (.cst (.str (O "f"))) (.cons (.bin .FloorDiv (.var 0) (.bin .Add (.var 3) (.cst (.int 1)))) .nil))) .nil))))
noncomputable def Zbi:Sx:=(.drp (.meth .app (.var 4) (.cons (.call (O "_law_plain") (.cons (.cst (.str (O "g"))) (.cons (.bin .FloorDiv (.var 0) (.bin .Add (.var 3) (.cst (.int 3)))) .nil))) .nil)))
noncomputable def Zbh:Sx:=(.drp (.meth .app (.var 4) (.cons (.tupl (.cons (.cst (.str (O "call"))) (.cons (.ix (.var 4) (.cst (.int 1))) (.cons (.ix (.var 4) (.cst (.int 0))) .nil)))) .nil)))
noncomputable def Zbf:Tx:=(.ex (.cmp .Eq (.bin .Mod (.bin .FloorDiv (.var 0) (.ix (.lstl (.cons (.cst (.int 1)) (.cons (.cst (.int 2)) (.cons (.cst (.int 4)) (.cons (.cst (.int 8)) (.cons (.cst (.int 16)) .nil)))))) (.var 3))) (.cst (.int 2))) (.cst (.int 1))))
noncomputable def Zcf:Sx:=(.put (.var 2) (.ix (.var 1) (.var 3)) (.ix (.var 4) (.bin .Mod (.bin .FloorDiv (.bin .FloorDiv (.var 0) (.cst (.int 32))) (.bin .Add (.var 3) (.cst (.int 1)))) (.cst (.int 4)))))
noncomputable def Zc8:Sxs:=(.cons Zcf .nil)
noncomputable def Zbg:Sx:=.iff Zbf Zc8 .nil
noncomputable def Z1:Sxs:=(.cons Zbj (.cons Zbi (.cons Zbh (.cons Zbg .nil))))
noncomputable def Zd6:Sx:=.forr (.nm 3) Zd2 Z1
noncomputable def Zd5:Sx:=(.ret (.var 2))
noncomputable def ZcO:Sxs:=(.cons Zd7 (.cons Zd6 (.cons Zd5 .nil)))
noncomputable def ZcG:Fd:=⟨[(O "_law_number_here"),(O "_law_names_here")],[(O "_law_number_here"),(O "_law_names_here"),(O "_law_filling_here"),(O "_law_k"),(O "_law_held")],ZcO⟩
noncomputable def Zgs:Tx:=(.ex (.cmp .Eq (.ix (.var 0) (.cst (.int 0))) (.cst (.str (O "name")))))
noncomputable def Zd4:Sx:=(.ret (.comp [(O "_law_name"),(O "_law_bound")] [none,some 1] (.pl (.lstl (.cons (.ix (.var 0) (.cst (.int 1))) .nil))) (.nm 0) (some (.ex (.cmp .NotIn (.var 0) (.var 1)))) (.var 0)))
noncomputable def Zga:Sxs:=(.cons Zd4 .nil)
noncomputable def Zdl:Sx:=.iff Zgs Zga .nil
noncomputable def ZgA:Sx:=(.set (.nm 2) (.var 1))
noncomputable def Zdi:Tx:=(.ors (.cons (.ex (.cmp .Eq (.ix (.var 0) (.cst (.int 0))) (.cst (.str (O "fn"))))) (.one (.ex (.cmp .Eq (.ix (.var 0) (.cst (.int 0))) (.cst (.str (O "rec"))))))))
noncomputable def Zd3:Sx:=(.set (.nm 2) (.bin .Add (.var 1) (.blt .lst (.cons (.sl (.var 0) (some (.cst (.int 1))) (some (.neg (.cst (.int 1))))) .nil))))
noncomputable def Zf9:Sxs:=(.cons Zd3 .nil)
noncomputable def Zdk:Sx:=.iff Zdi Zf9 .nil
noncomputable def Zgz:Sx:=(.set (.nm 3) (.lstl .nil))
noncomputable def Zda:Ix:=(.pl (.var 0))
noncomputable def Ze6:Tx:=(.ex (.blt .isi (.cons (.var 4) (.cons (.cst (.ty "tuple")) .nil))))
noncomputable def Zdj:Sx:=(.set (.nm 3) (.bin .Add (.var 3) (.call (O "_law_free") (.cons (.var 4) (.cons (.var 2) .nil)))))
noncomputable def ZbW:Sxs:=(.cons Zdj .nil)
noncomputable def Zfa:Sx:=.iff Ze6 ZbW .nil
noncomputable def ZaL:Sxs:=(.cons Zfa .nil)
noncomputable def Zgy:Sx:=.forr (.nm 4) Zda ZaL
noncomputable def Zgx:Sx:=(.ret (.var 3))
noncomputable def ZcX:Sxs:=(.cons Zdl (.cons ZgA (.cons Zdk (.cons Zgz (.cons Zgy (.cons Zgx .nil))))))
noncomputable def ZeR:Fd:=⟨[(O "_law_told"),(O "_law_bound")],[(O "_law_told"),(O "_law_bound"),(O "_law_inner"),(O "_law_found"),(O "_law_part")],ZcX⟩
noncomputable def ZgF:Sx:=(.set (.nm 1) (.comp [(O "_law_k"),(O "_law_cell")] [none,none] (.enu (.sl (.var 0) (some (.cst (.int 2))) none)) (.two 0 1) none (.call (O "_law_mixed") (.cons (.var 1) (.cons (.bin .Add (.var 0) (.cst (.int 2))) .nil)))))
noncomputable def ZgE:Sx:=(.set (.nm 2) (.lstl (.cons (.var 1) (.cons (.cst (.int 0)) (.cons (.cst (.int 26)) .nil)))))
noncomputable def ZgD:Sx:=(.set (.nm 3) (.call (O "_law_names") (.cons (.call (O "_law_next") (.cons (.var 2) .nil)) .nil)))
noncomputable def ZgC:Sx:=(.set (.nm 4) (.lstl (.cons (.tupl (.cons (.ix (.var 3) (.cst (.int 0))) (.cons (.cst (.str (O "n"))) .nil))) (.cons (.tupl (.cons (.ix (.var 3) (.cst (.int 1))) (.cons (.cst (.str (O "f"))) .nil))) (.cons (.tupl (.cons (.ix (.var 3) (.cst (.int 2))) (.cons (.cst (.str (O "g"))) .nil))) .nil)))))
noncomputable def ZgB:Sx:=(.set (.nm 5) (.call (O "_law_any") (.cons (.cst (.str (O "n"))) (.cons (.var 4) (.cons (.var 2) (.cons (.var 3) (.cons (.cst (.int 6)) .nil)))))))
noncomputable def ZjW:Tx:=(.ex (.cmp .Gt (.call (O "_law_width") (.cons (.var 5) .nil)) (.cst (.int 120))))
noncomputable def ZiT:Sx:=(.set (.nm 5) (.tupl (.cons (.cst (.str (O "call"))) (.cons (.tupl (.cons (.cst (.str (O "name"))) (.cons (.ix (.var 3) (.cst (.int 1))) .nil))) (.cons (.tupl (.cons (.cst (.str (O "name"))) (.cons (.ix (.var 3) (.cst (.int 0))) .nil))) .nil)))))
noncomputable def Zox:Sxs:=(.cons ZiT .nil)
noncomputable def Zj3:Sx:=.iff ZjW Zox .nil
noncomputable def Zj2:Sx:=(.set (.nm 6) (.call (O "_law_filling") (.cons (.call (O "_law_mixed") (.cons (.call (O "_law_cell_at") (.cons (.var 0) (.cons (.cst (.int 1)) .nil))) (.cons (.cst (.int 1)) .nil))) (.cons (.var 3) .nil))))
noncomputable def Zj1:Sx:=(.set (.nm 7) (.blt .dct (.cons (.var 6) .nil)))
noncomputable def Zj0:Sx:=(.set (.nm 8) (.blt .ldk (.cons (.var 6) .nil)))
noncomputable def ZhY:Sx:=(.set (.nm 9) (.call (O "_law_put") (.cons (.var 5) (.cons (.var 8) (.cons (.comp [(O "_law_name"),(O "_law_filling_here")] [none,some 6] (.pl (.var 8)) (.nm 0) none (.ix (.var 1) (.var 0))) .nil)))))
noncomputable def ZmS:Tx:=(.ors (.cons (.ex (.cmp .NotEq (.call (O "put_in") (.cons (.var 5) (.cons (.var 7) .nil))) (.var 9))) (.one (.ex (.dne (.var 7) (.var 6))))))
noncomputable def ZhW:Sx:=(.ret (.cst (.bl false)))
noncomputable def Zmg:Sxs:=(.cons ZhW .nil)
noncomputable def ZhX:Sx:=.iff ZmS Zmg .nil
noncomputable def ZhV:Sx:=(.set (.nm 10) (.sorts (.call (O "_law_free") (.cons (.var 5) (.cons (.lstl .nil) .nil)))))
noncomputable def ZmR:Tx:=(.ors (.cons (.ex (.cmp .NotEq (.call (O "free_names") (.cons (.var 5) .nil)) (.var 10))) (.one (.ex (.cmp .NotEq (.call (O "put_in") (.cons (.var 5) (.cons (.dictl .nil) .nil))) (.var 5))))))
noncomputable def ZhT:Sx:=(.ret (.cst (.bl false)))
noncomputable def Zmf:Sxs:=(.cons ZhT .nil)
noncomputable def ZhU:Sx:=.iff ZmR Zmf .nil
noncomputable def ZmY:Sx:=(.set (.nm 11) (.dictl .nil))
noncomputable def Zmo:Ix:=(.pl (.var 3))
noncomputable def Ze7:Tx:=(.ex (.cmp .NotIn (.var 12) (.var 10)))
noncomputable def Zfm:Sx:=(.put (.var 11) (.var 12) (.tupl (.cons (.cst (.str (O "num"))) (.cons (.cst (.int 7)) .nil))))
noncomputable def Ziy:Sxs:=(.cons Zfm .nil)
noncomputable def ZiU:Sx:=.iff Ze7 Ziy .nil
noncomputable def Zhi:Sxs:=(.cons ZiU .nil)
noncomputable def ZhS:Sx:=.forr (.nm 12) Zmo Zhi
noncomputable def ZhR:Sx:=(.ret (.cmp .Eq (.call (O "put_in") (.cons (.var 5) (.cons (.var 11) .nil))) (.var 5)))
noncomputable def ZpM:Sxs:=(.cons ZgF (.cons ZgE (.cons ZgD (.cons ZgC (.cons ZgB (.cons Zj3 (.cons Zj2 (.cons Zj1 (.cons Zj0 (.cons ZhY (.cons ZhX (.cons ZhV (.cons ZhU (.cons ZmY (.cons ZhS (.cons ZhR .nil))))))))))))))))
noncomputable def Zht:Fd:=⟨[(O "_law_script")],[(O "_law_script"),(O "_law_cells"),(O "_law_state"),(O "_law_names_here"),(O "_law_scope"),(O "_law_told"),(O "_law_filling_here"),(O "_law_handed"),(O "_law_keys"),(O "_law_due"),(O "_law_free_here"),(O "_law_others"),(O "_law_name")],ZpM⟩
structure Lw(P:Pg):Prop where
 t:Tm.Trb P
 pi:P.tb.lookup (O "put_in")=some Tm.ZeO
 f:Fr.Fre P
 m:Gn.Mk0 P
 law_cell_at:P.tb.lookup (O "_law_cell_at")=some ZcH
 law_put:P.tb.lookup (O "_law_put")=some ZfC
 law_filling:P.tb.lookup (O "_law_filling")=some ZcG
 law_free:P.tb.lookup (O "_law_free")=some ZeR
 law:P.tb.lookup (O "law")=some Zht
end K12L
end
section
namespace Fr
open PySem L2 IV Tm K02L
open Gn (dep ZF)
variable {P:Pg}
theorem Zak:∀ t:T,t.d.pure=true/\t.d.dp<=dep t+1
 | .num _=>⟨rfl,by simp [T.d,D.dp,D.dps,dep]⟩
 | .name _=>⟨rfl,by simp [T.d,D.dp,D.dps,dep]⟩
 | .fn x e=>by have:=Zak e;simp [T.d,D.pure,D.pures,D.dp,D.dps,dep,this.1];lia
 | .rcc f x e=>by have:=Zak e;simp [T.d,D.pure,D.pures,D.dp,D.dps,dep,this.1];lia
 | .call f a=>by have p:=Zak f;have q:=Zak a;simp [T.d,D.pure,D.pures,D.dp,D.dps,dep,p.1,q.1];lia
 | .iff c a b=>by have o:=Zak c;have p:=Zak a;have q:=Zak b;simp [T.d,D.pure,D.pures,D.dp,D.dps,dep,o.1,p.1,q.1];lia
 | .op w a b=>by have p:=Zak a;have q:=Zak b;simp [T.d,D.pure,D.pures,D.dp,D.dps,dep,p.1,q.1];lia
noncomputable def tl(t:T):List D:=(fr t).tail++t.parts.map T.d
theorem ZuZ(t:T):∃ w,t.d=.tup (.str w::tl t):=by cases t<;>exact ⟨_,rfl⟩
theorem Zpy {U:Tb}{e:Ex} (t:T) (p:ev U e S h=.ok t.d h):tst U (.ex (.blt .isi (.cons e (.cons (.cst (.ty "tuple")) .nil)))) S h=.ok true h:=by
 obtain ⟨w,q⟩:=ZuZ t;exact Zbu (Zgj (Zb p (Zb rfl rfl)) (by rw [q];rfl))
theorem Zpz {U:Tb}{e:Ex} (f:Gn.ZaV d=true) (p:ev U e S h=.ok d h):tst U (.ex (.blt .isi (.cons e (.cons (.cst (.ty "tuple")) .nil)))) S h=.ok false h :=
 Zbu (Zgj (Zb p (Zb rfl rfl)) (Gn.Zhl f))
theorem add_l(e:h[i]? = some (.lst xs))(e':h[j]? = some (.lst ys))(hz:xs.length+ys.length<=10000000):opB .Add (.ref i) (.ref j) h=.ok (.ref h.length) (h++[.lst (xs++ys)]):=by
 show ZkT (.ref i) (.ref j) h=_;simp only [ZkT,e,e'];rw [if_pos (by rw [sizeLine_eq];lia)];rfl
theorem Zgt{U:Tb}{e0:Ev}{p:Str->Bool}{tx:Tx}(hj:h[j]? = some (.lst L))(ht:∀ x,tst U tx (some (.str x)::e0) h=.ok (p x) h):∀ (xs acc:List Str),acc.length+xs.length<=9000000->Zq [(j,L)] (.nm 0) (tsto U (some tx)) (ev U (.var 0)) (xs.map .str) (none::e0) (acc.map .str) h=.ok ((acc++xs.filter p).map .str) h
 | [],acc,_=>by
   have:Wk.stays [(j,L)] h=true:=by simp [Wk.stays,hj]
   rw [Oy,Zq,if_pos this];simp
 | x::xs,acc,hz=>by
   rw [Os] at hz;have st:Wk.stays [(j,L)] h=true:=by simp [Wk.stays,hj]
   rw [Op,Zx,if_pos ⟨st,by rw [sizeLine_eq,List.length_map];lia⟩];show (tst U tx (some (.str x)::e0) h).plain.bnd _=_;rw [ht];show (if p x=true then Zq [(j,L)] (.nm 0) (tsto U (some tx)) (ev U (.var 0)) (xs.map .str) (none::e0) (acc.map .str++[.str x]) h else Zq [(j,L)] (.nm 0) (tsto U (some tx)) (ev U (.var 0)) (xs.map .str) (none::e0) (acc.map .str) h)=_;by_cases hx:p x=true
   . have ih:=Zgt (U:=U) (e0:=e0) hj ht xs (acc++[x]) (by simp;lia);rw [if_pos hx,List.filter_cons_of_pos hx];simpa using ih
   . rw [if_neg hx,List.filter_cons_of_neg hx];exact Zgt hj ht xs acc (by lia)
theorem Znu{t s:T}(hs:s∈t.parts):s.size<=t.size:=by
 cases t<;>simp [T.parts] at hs
 . subst hs;simp [T.size,T.places]
 . subst hs;simp [T.size,T.places]
 . rcases hs with rfl|rfl<;>simp [T.size,T.places]<;>lia
 . rcases hs with rfl|rfl|rfl<;>simp [T.size,T.places]<;>lia
 . rcases hs with rfl|rfl<;>simp [T.size,T.places]<;>lia
end Fr
end
section
namespace Fr
open PySem L2 IV Tm K02L
open Gn (dep ZF)
variable {P:Pg}
theorem ZfR:∀ ss:List Str,strsOf (ss.map .str)=some ss
 | []=>rfl
 | x::r=>by show (strsOf (r.map .str)).map _=_;rw [ZfR r];rfl
theorem ZtE{U:Tb}{e:Ex}{ss:List Str}(p:ev U e S h=.ok (.ref r) h1)(l:h1[r]? = some (.lst (ss.map .str)))(h4:ss.length<4000)(h64:(ddS ss).length<64)(ok:∀ x∈ss,PyData.strOk x=true):ev U (.sorts e) S h=.ok (.ref h1.length) (h1++[.lst ((ZQ (ddS ss)).map .str)]):=by
 rw [ev,p,R.bind_ok];simp only [lstOf,l,Option.bind_some,ZfR];rw [if_pos ⟨h4,h64,OC.mpr ok⟩];rfl
theorem Zds:∀ ss:List Str,D.pures (ss.map .str)=true/\D.dps (ss.map .str)=0
 | []=>⟨rfl,rfl⟩
 | x::r=>by have:=Zds r;simp [D.pures,D.pure,D.dps,D.dp,this.1,this.2]
theorem Zky{ss:List Str}(e1:h[i]? = some (.lst (ss.map .str)))(e2:h[j]? = some (.lst (ss.map .str))):IV.ZaR n (.ref i) (.ref j) h=.ok (.bl (!n)) h:=by
 obtain ⟨ps,a1,a2,a3⟩:=pys_same (rd:=Zdu h 3) (ss.map .str) (Zds ss).1;have q:∀ k,h[k]? = some (.lst (ss.map .str))->ZdZ h (.ref k)=some (.list ps):=fun k e=>by
   show (match h[k]? with
     | some (.lst xs)=>(D.pys (Zdu h 3) xs).map PyData.list
     | _=>none)=_
   rw [e];show (D.pys (Zdu h 3) (ss.map .str)).map PyData.list=_;rw [a1];rfl
 unfold IV.ZaR;rw [q i e1,q j e2];simp only;have dz:PyData.depthAll ps<=0:=by have:=(Zds ss).2;lia
 rw [if_pos (by simp only [PyData.depth];lia)];have:PyData.eqv (.list ps) (.list ps)=true:=by simpa [PyData.eqv] using a3
 rw [this];cases n<;>rfl
end Fr
end
section
namespace K12L
open PySem L2 IV Tm Fr
open Gn (dep ZF Cl Wl)
variable {P:Pg}
theorem ZN:∀ (t:T) {a b:Tm.Ar},(∀ y,Tm.get a y=Tm.get b y)->sub a t=sub b t
 | .num _,_,_,_=>rfl
 | .name x,_,_,h=>by rw [sub,sub,h x]
 | .fn x e,a,b,h=>by rw [sub,sub,ZN e (a:=(x,none)::a) (b:=(x,none)::b) fun y=>by rw [Tm.get,Tm.get,h y]]
 | .rcc f x e,a,b,h=>by rw [sub,sub,ZN e (a:=(f,none)::(x,none)::a) (b:=(f,none)::(x,none)::b) fun y=>by simp only [Tm.get,h y]]
 | .call f a,_,_,h=>by rw [sub,sub,ZN f h,ZN a h]
 | .iff c a b,_,_,h=>by rw [sub,sub,ZN c h,ZN a h,ZN b h]
 | .op w a b,_,_,h=>by rw [sub,sub,ZN a h,ZN b h]
theorem ZjH(ar:Tm.Ar)(y:Str):∀ bs:List Str,Tm.get (bs.map (fun x=>(x,none))++ar) y=if y∈bs then none else Tm.get ar y
 | []=>by simp
 | b::bs=>by
   rw [Op,List.cons_append,Tm.get,ZjH ar y bs];by_cases e:b=y
   . simp [e]
   . have e':¬ y=b:=fun q=>e q.symm;simp [e,e']
noncomputable def Za6(f:Fil)(bs:List Str):Fil:=f.filter fun p=>!decide (p.1∈bs)
theorem Zho(y:Str)(bs:List Str):∀ f:Fil,Tm.get (Za6 f bs).ar y=if y∈bs then none else Tm.get f.ar y
 | []=>by simp [Za6,Fil.ar,Tm.get]
 | (x,V)::f=>by
   have ih:=Zho y bs f;unfold Za6 at ih ⊢;rw [List.filter_cons];by_cases hx:x∈bs
   . simp only [hx,decide_true,Bool.not_true,OG,if_false];rw [ih];by_cases hy:y∈bs
     . simp [hy]
     . have:x≠y:=fun e=>hy (e ▸ hx);simp [hy,Fil.ar,Tm.get,this]
   . simp only [hx,decide_false,Bool.not_false,if_true];by_cases e:x=y
     . subst e;simp [Fil.ar,Tm.get,hx]
     . simp only [Fil.ar,Op,Tm.get,if_neg e] at ih ⊢;exact ih
theorem Zdv:∀ (f:Fil) (x:Str),x∈f.map (·.1)->∃ (j:Nat) (V:T),Tx.place x (f.map (·.1))=some j/\(f.map fun p=>p.2.d)[j]? = some V.d/\Tm.get f.ar x=some V
 | (y,V)::f,x,h=>by
   rw [Op,Tx.place];by_cases e:y=x
   . exact ⟨0,V,by simp [e],rfl,by simp [Fil.ar,Tm.get,e]⟩
   . have hx:x∈f.map (·.1):=by rcases O2.mp h with q|q;exact absurd q.symm e;exact q
     obtain ⟨j,W,h1,h2,h3⟩:=Zdv f x hx;refine ⟨j+1,W,?_,by rw [Op,O0];exact h2,by simp only [Fil.ar,Op,Tm.get,if_neg e] at h3 ⊢;exact h3⟩;simp [e,h1]
theorem Zms:∀ {f:Fil}{x:Str}{V:T},(f.map (·.1)).Nodup->(x,V)∈f->Tm.get f.ar x=some V
 | (y,W)::r,x,V,nd,hm=>by
   rw [Op,List.nodup_cons] at nd;rcases O2.mp hm with e|hm
   . cases e;simp [Fil.ar,Tm.get]
   . have ne:y≠x:=fun z=>nd.1 (by rw [z];exact List.mem_map.mpr ⟨(x,V),hm,rfl⟩);have:=Zms nd.2 hm;simp only [Fil.ar,Op,Tm.get,if_neg ne] at this ⊢;exact this
theorem ZlZ{GD}{h:Hd}{ss:List Str}(e:h[k]? = some (.lst (ss.map .str))):opC GD .In (.str x) (.ref k) h=.ok (.bl (decide (x∈ss))) h:=by
 show Zaj GD false (.str x) (.ref k) h=_;unfold Zaj;simp only [seqOf,lstOf,e,ZbF,any_words];rfl
theorem ZdO{GD}{h:Hd}{ss:List Str}(e:h[k]? = some (.lst (ss.map .str))):opC GD .NotIn (.str x) (.ref k) h=.ok (.bl (!decide (x∈ss))) h:=by
 show Zaj GD true (.str x) (.ref k) h=_;unfold Zaj;simp only [seqOf,lstOf,e,ZbF,any_words];rfl
theorem ZpD{U:Tb}{h:Hd}{ss:List Str}{j:Nat}(l:h[k]? = some (.lst (ss.map .str)))(hp:Tx.place x ss=some j)(p:ev U o S h=.ok (.ref k) h)(q:ev U e S h=.ok (.str x) h):ev U (.lix o e) S h=.ok (.int (j:Int)) h:=by
 rw [Zrw,p,Zr,Zcr l,if_pos rfl,q,Zr];simp only [Zm0,lstOf,l,Fr.ZfR,hp];rfl
noncomputable def vq(t:T)(k q:Nat)(a b c d:Option D):Ev:=[some t.d,some (.ref k),some (.ref q),a,b,c,d]
noncomputable def hp(h:Hd)(acc:List D)(g:Hd):Hd:=h++.lst acc::g
theorem Zmp:(hp h acc g)[h.length]? = some (.lst acc):=by simp [hp]
theorem Zrl:hp h acc g++g'=hp h acc (g++g'):=by simp [hp]
theorem Zrk:(hp h acc g).set h.length (.lst acc')=hp h acc' g:=by simp [hp]
theorem Zpu{U:Tb}(hz:acc.length<=1000):xs1 U ZcN (vq t k q a b (some (.ref h.length)) (some d)) (hp h acc g)=.ok (.nx,vq t k q a b (some (.ref h.length)) (some d)) (hp h (acc++[d]) g) :=
 Zdg (ZeW (i:=h.length) rfl Zmp rfl ((ZaS Zmp (by rw [sizeLine_eq];lia)).trans (by rw [Zrk])))
theorem ZlS{U:Tb}:∀ (fs rest acc:List D) (o:Option D),(∀ d∈fs,Gn.ZaV d=true)->acc.length+fs.length<=1000->∃ o',ZG [] (.nm 6) (xs2 U Zba) (fs++rest) (vq t k q a b (some (.ref h.length)) o) (hp h acc g)=ZG [] (.nm 6) (xs2 U Zba) rest (vq t k q a b (some (.ref h.length)) o') (hp h (acc++fs) g)
 | [],rest,acc,o,_,_=>⟨o,by simp⟩
 | d::fs,rest,acc,o,hf,hz=>by
   rw [Os] at hz;obtain ⟨o',e⟩:=ZlS (U:=U) (t:=t) (k:=k) (q:=q) (a:=a) (b:=b) (h:=h) (g:=g) fs rest (acc++[d]) (some d) (fun x hx=>hf x (.tail _ hx)) (by simp;lia);refine ⟨o',(ZbZ (ρ1:=vq t k q a b (some (.ref h.length)) (some d)) rfl ((Za ((Zu (Zpz (hf d (.head _)) rfl)).trans rfl)).trans ((Za (Zpu (by lia))).trans rfl))).trans (e.trans ?_)⟩;rw [Oz];rfl
theorem Zjp {U:Tb}{F:T->T}:∀ (ss:List T) (acc:List D) (g:Hd) (o:Option D),(∀ s∈ss,∀ acc g,∃ g',U.C (O "_law_put") [s.d,.ref k,.ref q] (hp h acc g)=.ok (F s).d (hp h acc g++g'))->acc.length+ss.length<=1000 ->
   ∃ g' o',ZG [] (.nm 6) (xs2 U Zba) (ss.map T.d) (vq t k q a b (some (.ref h.length)) o) (hp h acc g)=.ok (.nx,vq t k q a b (some (.ref h.length)) o') (hp h (acc++ss.map fun s=>(F s).d) g')
 | [],acc,g,o,_,_=>⟨g,o,by simp⟩
 | s::ss,acc,g,o,hc,hz=>by
   rw [Os] at hz;obtain ⟨g1,e1⟩:=hc s (.head _) acc g;obtain ⟨g2,o2,e2⟩:=Zjp (U:=U) (F:=F) (t:=t) (k:=k) (q:=q) (a:=a) (b:=b) (h:=h) ss (acc++[(F s).d]) (g++g1) (some (F s).d) (fun x hx=>hc x (.tail _ hx)) (by simp;lia);rw [Zrl] at e1;refine ⟨g2,o2,(ZbZ (ρ1:=vq t k q a b (some (.ref h.length)) (some s.d)) rfl ((Za ((Zy (Zpy s rfl)).trans ((Za (Zl (i:=6) (ZC e1 rfl))).trans rfl))).trans ((Za (Zpu (by lia))).trans rfl))).trans (e2.trans ?_)⟩;rw [Oz];rfl
theorem ZmT{U:Tb}{f:Fil}{h:Hd}(nd:(f.map (·.1)).Nodup)(hk:h[k]? = some (.lst ((f.map (·.1)).map .str)))(hq:h[q]? = some (.lst (f.map fun p=>p.2.d)))(hj:h[j]? = some (.lst L)):∀ (r:Fil) (acc:List D),(∀ p∈r,p∈f)->acc.length+r.length<=1000 ->
   Zq [(j,L)] (.nm 0) (tsto U none) (ev U (.ix (.var 1) (.lix (.var 2) (.var 0)))) ((r.map (·.1)).map .str) [none,some (.ref q),some (.ref k)] acc h=.ok (acc++r.map fun p=>p.2.d) h
 | [],acc,_,_=>by simp [Zq,Wk.stays,hj]
 | (x,V)::r,acc,hm,hz=>by
   rw [Os] at hz;have ih:=ZmT (U:=U) nd hk hq hj r (acc++[V.d]) (fun p hp=>hm p (.tail _ hp)) (by simp;lia);have mx:=hm (x,V) (.head _);obtain ⟨i,W,p1,p2,p3⟩:=Zdv f x (List.mem_map.mpr ⟨_,mx,rfl⟩);rw [Zms nd mx] at p3;cases p3;have z:ev U (.ix (.var 1) (.lix (.var 2) (.var 0))) [some (.str x),some (.ref q),some (.ref k)] h=.ok V.d h:=(ZJ rfl (ZpD hk p1 rfl rfl)).trans ((ZB hq).trans (by rw [IV.Z2,p2];rfl));have st:Wk.stays [(j,L)] h=true:=by simp [Wk.stays,hj]
   rw [Op,Op,Zx,if_pos ⟨st,by rw [sizeLine_eq];lia⟩];show (ev U (.ix (.var 1) (.lix (.var 2) (.var 0))) [some (.str x),some (.ref q),some (.ref k)] h).plain.bnd _=_;rw [z];show Zq [(j,L)] (.nm 0) (tsto U none) (ev U (.ix (.var 1) (.lix (.var 2) (.var 0)))) ((r.map (·.1)).map .str) [none,some (.ref q),some (.ref k)] (acc++[V.d]) h=_;rw [ih];simp
theorem Zk{h g:Hd}{k:Nat}(e:h[k]? = some o):(h++g)[k]? = some o:=by rw [Oe (Gn.Zi e)];exact e
theorem ZsP(H:Lw P)(m:Nat)(t:T)(f:Fil){h:Hd}(nd:(f.map (·.1)).Nodup)(hf:f.length<=100)(hk:h[k]? = some (.lst ((f.map (·.1)).map .str)))(hq:h[q]? = some (.lst (f.map fun p=>p.2.d)))
   (hc:∀ s∈t.parts,∀ (f:Fil) (h:Hd) (k q:Nat),(f.map (·.1)).Nodup->f.length<=100->h[k]? = some (.lst ((f.map (·.1)).map .str))->h[q]? = some (.lst (f.map fun p=>p.2.d))->∃ g,run P m (O "_law_put") [s.d,.ref k,.ref q] h=.ok (sub f.ar s).d (h++g)) :
   ∃ g,run P (m+1) (O "_law_put") [t.d,.ref k,.ref q] h=.ok (sub f.ar t).d (h++g):=by
 have h0:∀ w ds (a b c d:Option D) (hh:Hd),t.d=.tup (.str w::ds)->ev (P.tbl m) (.ix (.var 0) (.cst (.int 0))) (vq t k q a b c d) hh=.ok (.str w) hh:=fun w ds a b c d hh e=>(ZJ rfl rfl).trans (by rw [e];exact ZoD);have pl:∀ w ds,t.d=.tup (.str w::ds)->w≠O "fn" -> w≠O "rec" -> tst (P.tbl m) Zbe (vq t k q none none none none) h=.ok false h->(sub f.ar t).d=.tup (fr t++t.parts.map fun s=>(sub f.ar s).d)->∃ g,run P (m+1) (O "_law_put") [t.d,.ref k,.ref q] h=.ok (sub f.ar t).d (h++g):=fun w ds e n1 n2 t1 es=>by
   have ft:∀ d∈fr t,Gn.ZaV d=true:=by cases t<;>simp [fr,Gn.ZaV]
   obtain ⟨o1,e1⟩:=ZlS (U:=P.tbl m) (t:=t) (k:=k) (q:=q) (a:=none) (b:=none) (h:=h) (g:=[]) (fr t) (t.parts.map T.d) [] none ft (by cases t<;>simp [fr]);obtain ⟨g,o2,e2⟩:=Zjp (U:=P.tbl m) (F:=sub f.ar) (t:=t) (k:=k) (q:=q) (a:=none) (b:=none) (h:=h) t.parts ([]++fr t) [] o1 (fun s hs acc g=>hc s hs f (hp h acc g) k q nd hf (Zk hk) (Zk hq)) (by cases t<;>simp [fr,T.parts]);refine ⟨.lst (fr t++t.parts.map fun s=>(sub f.ar s).d)::g,?_⟩;rw [Zj H.law_put rfl,es];have w:xs2 (P.tbl m) Zcv (vq t k q none none none none) h=.ok (.rt (.tup (fr t++t.parts.map fun s=>(sub f.ar s).d)),vq t k q none none (some (.ref h.length)) o2) (hp h (fr t++t.parts.map fun s=>(sub f.ar s).d) g) :=
     (Za ((Zu t1).trans rfl)).trans ((Za ((Zu (Zg4 (Zm (ZaM (h0 _ _ _ _ _ _ _ e) rfl) (decide_eq_false n1)) (Zm (ZaM (h0 _ _ _ _ _ _ _ e) rfl) (decide_eq_false n2)))).trans rfl)).trans ((Za (Zl (i:=5) (ZeX (xs:=[]) rfl (Nat.zero_le _)))).trans ((Za ((ZcU (ZeV (U:=P.tbl m) (S:=vq t k q none none (some (.ref h.length)) none) (e:=.var 0) (congrArg (fun d=>R.ok d (h++[DO.lst []])) (ZrI t)))).trans (e1.trans e2))).trans (Zc (ZD (Zgj (Zb rfl rfl) (Zsk Zmp)))))))
   exact congrArg Zt w
 have nn:∀ w ds,t.d=.tup (.str w::ds)->w≠O "name" -> tst (P.tbl m) Zbe (vq t k q none none none none) h=.ok false h:=fun w ds e n=>Zm8 (Zm (ZaM (h0 _ _ _ _ _ _ _ e) rfl) (decide_eq_false n));have fu:∀ (w:Str) (e:T),t.d=.tup (.str w::(bnd t).map .str++[e.d])->e∈t.parts->(w=O "fn" \/ w=O "rec")->w≠O "name" -> cutD (.str w::(bnd t).map .str++[e.d]) (some 1) (some (-1))=(bnd t).map .str->cutD (.str w::(bnd t).map .str++[e.d]) none (some (-1))=.str w::(bnd t).map .str->(sub f.ar t).d=.tup (.str w::(bnd t).map .str++[(sub (inn t f.ar) e).d])->∃ g,run P (m+1) (O "_law_put") [t.d,.ref k,.ref q] h=.ok (sub f.ar t).d (h++g):=fun w e ht me hw nw c1 c2 es=>by
   have bl:=(ZdI t).1;have sl1:∀ (y:Str) (hh:Hd),ev (P.tbl m) (.sl (.var 1) (some (.cst (.int 1))) (some (.neg (.cst (.int 1))))) [some (.str y),some t.d] hh=.ok (.tup ((bnd t).map .str)) hh:=fun y hh=>(Gn.Zfu (a:=.var 1) (x:=t.d) (l:=some 1) (u:=some (-1)) rfl rfl rfl).trans (by rw [ht,Zez,c1]);have cl:=Zgt (U:=P.tbl m) (e0:=[some t.d]) (p:=fun y=>!decide (y∈bnd t)) (tx:=.ex (.cmp .NotIn (.var 0) (.sl (.var 1) (some (.cst (.int 1))) (some (.neg (.cst (.int 1))))))) hk (fun y=>Zbu ((Zv rfl (sl1 y h)).trans ZbO)) (f.map (·.1)) [] (by simp;lia);have lf:(f.map (·.1)).filter (fun y=>!decide (y∈bnd t))=(Za6 f (bnd t)).map (·.1):=by
     unfold Za6;rw [List.filter_map];rfl
   rw [OB,lf] at cl;have y1:xs1 (P.tbl m) Zca (vq t k q none none none none) h=.ok (.nx,vq t k q (some (.ref h.length)) none none none) (h++[.lst (((Za6 f (bnd t)).map (·.1)).map .str)]):=Zl (i:=3) (ZeY (ZdF rfl hk) cl);have fl:(Za6 f (bnd t)).length<=f.length:=List.length_filter_le _ _;generalize e1:h++[DO.lst (((Za6 f (bnd t)).map (·.1)).map .str)]=h1 at y1;have k1:h1[h.length]? = some (.lst (((Za6 f (bnd t)).map (·.1)).map .str)):=by rw [<- e1];simp
   have ch:=ZmT (U:=P.tbl m) (f:=f) (h:=h1) nd (by rw [<- e1];exact Zk hk) (by rw [<- e1];exact Zk hq) k1 (Za6 f (bnd t)) [] (fun p hp=>(List.mem_filter.mp hp).1) (by simp;lia);have y2:xs1 (P.tbl m) Zb9 (vq t k q (some (.ref h.length)) none none none) h1=.ok (.nx,vq t k q (some (.ref h.length)) (some (.ref h1.length)) none none) (h1++[.lst ((Za6 f (bnd t)).map fun p=>p.2.d)]):=Zl (i:=4) (ZeY (ZdF rfl k1) ch);obtain ⟨g,e3⟩:=hc e me (Za6 f (bnd t)) (h1++[.lst ((Za6 f (bnd t)).map fun p=>p.2.d)]) h.length h1.length (List.Pairwise.sublist (List.Sublist.map _ List.filter_sublist) nd) (by lia) (Zk k1) (by simp);rw [ZN e (a:=(Za6 f (bnd t)).ar) (b:=inn t f.ar) fun y=>by rw [Zho,inn,ZjH]] at e3;refine ⟨.lst (((Za6 f (bnd t)).map (·.1)).map .str)::.lst ((Za6 f (bnd t)).map fun p=>p.2.d)::g,?_⟩;have eh:h++DO.lst (((Za6 f (bnd t)).map (·.1)).map .str)::.lst ((Za6 f (bnd t)).map fun p=>p.2.d)::g=h1++[.lst ((Za6 f (bnd t)).map fun p=>p.2.d)]++g:=by rw [<- e1];simp
   rw [eh];have la:∀ hh,ev (P.tbl m) (.ix (.var 0) (.neg (.cst (.int 1)))) (vq t k q (some (.ref h.length)) (some (.ref h1.length)) none none) hh=.ok e.d hh:=fun hh=>(ZJ (x:=t.d) (y:=.int (-1)) rfl rfl).trans (by rw [ht,ZlU,IV.Zm4];rfl);have sl2:∀ hh,ev (P.tbl m) (.sl (.var 0) none (some (.neg (.cst (.int 1))))) (vq t k q (some (.ref h.length)) (some (.ref h1.length)) none none) hh=.ok (.tup (.str w::(bnd t).map .str)) hh:=fun hh=>(Gn.Zfu (a:=.var 0) (x:=t.d) (l:=none) (u:=some (-1)) rfl rfl rfl).trans (by rw [ht,Zez,c2]);have y3:xs1 (P.tbl m) Zb8 (vq t k q (some (.ref h.length)) (some (.ref h1.length)) none none) (h1++[.lst ((Za6 f (bnd t)).map fun p=>p.2.d)])=.ok (.rt (sub f.ar t).d,vq t k q (some (.ref h.length)) (some (.ref h1.length)) none none) (h1++[.lst ((Za6 f (bnd t)).map fun p=>p.2.d)]++g):=ZD ((Zg (sl2 _) (ZaF (xs:=[_]) (Zb (ZC e3 (Zb (la _) (Zb rfl (Zb rfl rfl)))) rfl) (show 1<=1000 by decide))).trans ((Zee (by rw [sizeLine_eq];simp;lia)).trans (by rw [es])));have tt:tst (P.tbl m) ZdU (vq t k q none none none none) h=.ok true h:=by
     rcases hw with rfl|rfl
     . exact ZqF (Zm (ZaM (h0 _ _ _ _ _ _ _ ht) rfl) (decide_eq_true rfl))
     . exact Zg4 (Zm (ZaM (h0 _ _ _ _ _ _ _ ht) rfl) (decide_eq_false (by simp))) (Zm (ZaM (h0 _ _ _ _ _ _ _ ht) rfl) (decide_eq_true rfl))
   rw [Zj H.law_put rfl];have w:xs2 (P.tbl m) Zcv (vq t k q none none none none) h=.ok (.rt (sub f.ar t).d,vq t k q (some (.ref h.length)) (some (.ref h1.length)) none none) (h1++[.lst ((Za6 f (bnd t)).map fun p=>p.2.d)]++g):=(Za ((Zu (nn _ _ ht nw)).trans rfl)).trans (Zc ((Zy tt).trans ((Za y1).trans ((Za y2).trans (Zc y3)))));exact congrArg Zt w
 cases t with
 | num z=>exact pl _ _ rfl (by simp) (by simp) (nn _ _ rfl (by simp)) rfl
 | call a b=>exact pl _ _ rfl (by simp) (by simp) (nn _ _ rfl (by simp)) rfl
 | iff a b c=>exact pl _ _ rfl (by simp) (by simp) (nn _ _ rfl (by simp)) rfl
 | op w a b=>exact pl _ _ rfl (by simp) (by simp) (nn _ _ rfl (by simp)) rfl
 | fn x e=>exact fu _ e rfl (.head _) (.inl rfl) (by simp) rfl rfl rfl
 | rcc g x e=>exact fu _ e rfl (.head _) (.inr rfl) (by simp) rfl rfl rfl
 | name x =>
   have ti:tst (P.tbl m) Zbe (vq (.name x) k q none none none none) h=.ok (decide (x∈f.map (·.1))) h:=Zj5 (Zm (ZaM (x:=O "name") rfl rfl) (decide_eq_true rfl)) (Zbu ((Zv (x:=.str x) rfl rfl).trans (ZlZ hk)));by_cases hx:x∈f.map (·.1)
   . obtain ⟨j,V,p1,p2,p3⟩:=Zdv f x hx;refine ⟨[],?_⟩;rw [List.append_nil,Zj H.law_put rfl,sub,p3];have z:ev (P.tbl m) (.ix (.var 2) (.lix (.var 1) (.ix (.var 0) (.cst (.int 1))))) (vq (.name x) k q none none none none) h=.ok V.d h:=(ZJ rfl (ZpD hk p1 rfl rfl)).trans ((ZB hq).trans (by rw [IV.Z2,p2];rfl));have w:xs2 (P.tbl m) Zcv (vq (.name x) k q none none none none) h=.ok (.rt V.d,vq (.name x) k q none none none none) h:=Zc ((Zy (Zm ti (decide_eq_true hx))).trans (Zc (ZD z)));exact congrArg Zt w
   . have gn:Tm.get f.ar x=none:=by
       cases e:Tm.get f.ar x with
       | none=>rfl
       | some V=>exact absurd (List.mem_map.mpr ⟨_,ZeK f e,rfl⟩) hx
     exact pl _ _ rfl (by simp) (by simp) (Zm ti (decide_eq_false hx)) (by rw [sub,gn];rfl)
theorem Zlt (H:Lw P):∀ (d n:Nat) (t:T) (f:Fil) (h:Hd) (k q:Nat),dep t<=d->(f.map (·.1)).Nodup->f.length<=100->h[k]? = some (.lst ((f.map (·.1)).map .str))->h[q]? = some (.lst (f.map fun p=>p.2.d))->∃ g,run P (n+d+1) (O "_law_put") [t.d,.ref k,.ref q] h=.ok (sub f.ar t).d (h++g)
 | 0,n,t,f,h,k,q,hd,nd,hf,hk,hq=>ZsP H (n+0) t f nd hf hk hq fun s hs=>by have:=ZF hs;lia
 | d+1,n,t,f,h,k,q,hd,nd,hf,hk,hq=>ZsP H (n+(d+1)) t f nd hf hk hq fun s hs f' h' k' q'=>Zlt H d n s f' h' k' q' (by have:=ZF hs;lia)
end K12L
end
section
namespace K12L
open PySem L2 IV Tm Fr
open Gn (dep ZF Cl Wl Up)
variable {P:Pg}
noncomputable def frb:T->List Str->List Str
 | .num _,_=>[]
 | .name x,bs=>if x∈bs then [] else [x]
 | .fn x e,bs=>frb e (bs++[x])
 | .rcc f x e,bs=>frb e (bs++[f,x])
 | .call f a,bs=>frb f bs++frb a bs
 | .iff c a b,bs=>frb c bs++(frb a bs++frb b bs)
 | .op _ a b,bs=>frb a bs++frb b bs
theorem Zar(y:Str):∀ (t:T) (bs:List Str),y∈frb t bs↔y∈lf t/\y ∉ bs
 | .num _,bs=>by simp [frb,lf]
 | .name x,bs=>by
   by_cases h:x∈bs
   . simp only [frb,lf,if_pos h,Ox,List.not_mem_nil,false_iff,not_and,Classical.not_not];intro e;rw [e];exact h
   . simp only [frb,lf,if_neg h,Ox];exact ⟨fun e=>⟨e,by rw [e];exact h⟩,fun e=>e.1⟩
 | .fn x e,bs=>by
   simp [frb,lf,Zar y e];exact ⟨fun ⟨a,b,c⟩=>⟨⟨a,c⟩,b⟩,fun ⟨⟨a,c⟩,b⟩=>⟨a,b,c⟩⟩
 | .rcc f x e,bs=>by
   simp [frb,lf,Zar y e];exact ⟨fun ⟨a,b,c,d⟩=>⟨⟨a,c,d⟩,b⟩,fun ⟨⟨a,c,d⟩,b⟩=>⟨a,b,c,d⟩⟩
 | .call f a,bs=>by simp [frb,lf,Zar y f,Zar y a,or_and_right]
 | .iff c a b,bs=>by simp [frb,lf,Zar y c,Zar y a,Zar y b,or_and_right]
 | .op w a b,bs=>by simp [frb,lf,Zar y a,Zar y b,or_and_right]
theorem Zaf:∀ (t:T) (bs:List Str),(frb t bs).length<=t.size
 | .num _,_=>by simp [frb]
 | .name x,bs=>by unfold frb;split<;>simp [T.size,T.places]
 | .fn x e,bs=>by have:=Zaf e (bs++[x]);simp only [T.size,T.places,frb,Os] at *;lia
 | .rcc f x e,bs=>by have:=Zaf e (bs++[f,x]);simp only [T.size,T.places,frb,Os] at *;lia
 | .call f a,bs=>by have:=Zaf f bs;have:=Zaf a bs;simp only [T.size,T.places,frb,Os,OA] at *;lia
 | .iff c a b,bs=>by have:=Zaf c bs;have:=Zaf a bs;have:=Zaf b bs;simp only [T.size,T.places,frb,Os,OA] at *;lia
 | .op w a b,bs=>by have:=Zaf a bs;have:=Zaf b bs;simp only [T.size,T.places,frb,Os,OA] at *;lia
theorem ZkM(t:T)(bs:List Str)(nn:∀ x,t≠.name x):frb t bs=t.parts.flatMap fun s=>frb s (bs++bnd t):=by
 cases t with
 | name x=>exact absurd rfl (nn x)
 | _=>simp [frb,T.parts,bnd]
noncomputable def vz(t:T)(b i r:Nat)(o:Option D):Ev:=[some t.d,some (.ref b),some (.ref i),some (.ref r),o]
theorem ZkU{U:Tb}:∀ (fs rest:List D) (o:Option D),(∀ d∈fs,Gn.ZaV d=true)->∃ o',ZG [] (.nm 4) (xs2 U ZaL) (fs++rest) (vz t b i r o) h=ZG [] (.nm 4) (xs2 U ZaL) rest (vz t b i r o') h
 | [],rest,o,_=>⟨o,rfl⟩
 | d::fs,rest,o,hf=>by
   obtain ⟨o',e⟩:=ZkU (U:=U) (t:=t) (b:=b) (i:=i) (r:=r) (h:=h) fs rest (some d) (fun x hx=>hf x (.tail _ hx));exact ⟨o',(ZbZ (ρ1:=vz t b i r (some d)) rfl ((Za ((Zu (Zpz (hf d (.head _)) rfl)).trans rfl)).trans rfl)).trans e⟩
theorem ZiZ {U:Tb}{bs:List Str}:∀ (ss:List T) (acc:List Str) (h:Hd) (r:Nat) (o:Option D),(∀ s∈ss,∀ h:Hd,h[i]? = some (.lst (bs.map .str))->∃ g r,U.C (O "_law_free") [s.d,.ref i] h=.ok (.ref r) (h++g)/\(h++g)[r]? = some (.lst ((frb s bs).map .str)))->h[i]? = some (.lst (bs.map .str))->h[r]? = some (.lst (acc.map .str))->acc.length+(ss.flatMap T.places).length<=9000000 ->
   ∃ g r' o',ZG [] (.nm 4) (xs2 U ZaL) (ss.map T.d) (vz t b i r o) h=.ok (.nx,vz t b i r' o') (h++g)/\(h++g)[r']? = some (.lst ((acc++ss.flatMap fun s=>frb s bs).map .str))
 | [],acc,h,r,o,_,_,hr,_=>⟨[],r,o,by rw [List.append_nil];rfl,by simpa using hr⟩
 | s::ss,acc,h,r,o,hc,hi,hr,hz=>by
   rw [List.flatMap_cons,OA] at hz;have hl:=Zaf s bs;unfold T.size at hl;obtain ⟨g1,r1,c,e1⟩:=hc s (.head _) h hi;obtain ⟨g2,r2,o2,e2,q2⟩:=ZiZ (U:=U) (t:=t) (b:=b) (i:=i) (bs:=bs) ss (acc++frb s bs) (h++g1++[.lst ((acc++frb s bs).map .str)]) (h++g1).length (some s.d) (fun x hx=>hc x (.tail _ hx)) (Zk (Zk hi)) (by simp) (by rw [OA];lia);refine ⟨g1++(.lst ((acc++frb s bs).map .str)::g2),r2,o2,?_,by rw [List.flatMap_cons,<- Oz acc,<- q2];simp⟩;have x1:xs2 U ZbW (vz t b i r (some s.d)) h=.ok (.nx,vz t b i (h++g1).length (some s.d)) (h++g1++[.lst ((acc++frb s bs).map .str)]):=(Za (Zl (i:=3) ((Zg rfl (ZC c rfl)).trans ((add_l (Zk hr) e1 (by simp;lia)).trans (by rw [<- List.map_append]))))).trans rfl;refine (ZbZ (ρ1:=vz t b i r (some s.d)) rfl ((Za ((Zy (Zpy s rfl)).trans x1)).trans rfl)).trans (e2.trans ?_);simp
theorem Zto (H:Lw P) (m:Nat) (t:T) (bs:List Str) {h:Hd} (hb:h[b]? = some (.lst (bs.map .str))) (hl:bs.length<=1000) (hs:t.size<=800000) (hc:∀ s∈t.parts,∀ (bs':List Str) (i:Nat) (h:Hd),bs'.length<=bs.length+2->h[i]? = some (.lst (bs'.map .str))->∃ g r,run P m (O "_law_free") [s.d,.ref i] h=.ok (.ref r) (h++g)/\(h++g)[r]? = some (.lst ((frb s bs').map .str))) :
   ∃ g r,run P (m+1) (O "_law_free") [t.d,.ref b] h=.ok (.ref r) (h++g)/\(h++g)[r]? = some (.lst ((frb t bs).map .str)):=by
 have gen:∀ (w:Str) (ds:List D) (i:Nat) (g0:Hd),t.d=.tup (.str w::ds)->w≠O "name" -> (∀ x,t≠.name x)->(h++g0)[i]? = some (.lst ((bs++bnd t).map .str))->xs1 (P.tbl m) Zdk [some t.d,some (.ref b),some (.ref b),none,none] h=.ok (.nx,[some t.d,some (.ref b),some (.ref i),none,none]) (h++g0)->∃ g r,run P (m+1) (O "_law_free") [t.d,.ref b] h=.ok (.ref r) (h++g)/\(h++g)[r]? = some (.lst ((frb t bs).map .str)):=fun w ds i g0 e ne nn hi x3=>by
   have ft:∀ d∈fr t,Gn.ZaV d=true:=by cases t<;>simp [fr,Gn.ZaV]
   obtain ⟨o1,e1⟩:=ZkU (U:=P.tbl m) (t:=t) (b:=b) (i:=i) (r:=(h++g0).length) (h:=h++g0++[.lst []]) (fr t) (t.parts.map T.d) none ft;have bl:=(ZdI t).1;obtain ⟨g,r,o,e2,q⟩:=ZiZ (U:=P.tbl m) (t:=t) (b:=b) (i:=i) (bs:=bs++bnd t) t.parts [] (h++g0++[.lst []]) (h++g0).length o1 (fun s hs h' hi'=>hc s hs (bs++bnd t) i h' (by simp;lia) hi') (Zk hi) (by simp) (by rw [T.size,T.places_parts,Os] at hs;simp only [List.length_nil];lia);refine ⟨g0++(.lst []::g),r,?_,by rw [ZkM t bs nn];simpa using q⟩;rw [Zj H.law_free rfl];have x1:xs1 (P.tbl m) Zdl [some t.d,some (.ref b),none,none,none] h=.ok (.nx,[some t.d,some (.ref b),none,none,none]) h:=(Zu (Zm (ZaM ((ZJ rfl rfl).trans (by rw [e];exact ZoD)) rfl) (decide_eq_false ne))).trans rfl;have ei:evi (P.tbl m) Zda (vz t b i (h++g0).length none) (h++g0++[.lst []])=.ok ⟨[],fr t++t.parts.map T.d⟩ (h++g0++[.lst []]):=ZeV (U:=P.tbl m) (e:=.var 0) (congrArg (fun d=>R.ok d (h++g0++[DO.lst []])) (ZrI t));have w:xs2 (P.tbl m) ZcX [some t.d,some (.ref b),none,none,none] h=.ok (.rt (.ref r),vz t b i r o) (h++g0++[.lst []]++g):=(Za x1).trans ((Za (Zl (i:=2) (d:=.ref b) rfl)).trans ((Za x3).trans ((Za (Zl (i:=3) (ZeX (xs:=[]) rfl (Nat.zero_le _)))).trans ((Za ((ZcU ei).trans (e1.trans e2))).trans (Zc (ZD rfl))))));rw [show h++(g0++DO.lst []::g)=h++g0++[.lst []]++g by simp];exact congrArg Zt w
 have h0:∀ (w:Str) (ds:List D) (a c d:Option D) (hh:Hd),t.d=.tup (.str w::ds)->ev (P.tbl m) (.ix (.var 0) (.cst (.int 0))) [some t.d,some (.ref b),a,c,d] hh=.ok (.str w) hh:=fun w ds a c d hh e=>(ZJ rfl rfl).trans (by rw [e];exact ZoD);have pl:∀ (w:Str) (ds:List D),t.d=.tup (.str w::ds)->w≠O "name" -> w≠O "fn" -> w≠O "rec" -> (∀ x,t≠.name x)->bnd t=[]->∃ g r,run P (m+1) (O "_law_free") [t.d,.ref b] h=.ok (.ref r) (h++g)/\(h++g)[r]? = some (.lst ((frb t bs).map .str)):=fun w ds e n1 n2 n3 nn bn =>
   gen w ds b [] e n1 nn (by rw [bn];simpa using hb) (by rw [List.append_nil];exact (Zu (Zg4 (Zm (ZaM (h0 _ _ _ _ _ _ e) rfl) (decide_eq_false n2)) (Zm (ZaM (h0 _ _ _ _ _ _ e) rfl) (decide_eq_false n3)))).trans rfl)
 have fu:∀ (w:Str) (e:T),t.d=.tup (.str w::(bnd t).map .str++[e.d])->(w=O "fn" \/ w=O "rec")->w≠O "name" -> (∀ x,t≠.name x)->cutD (.str w::(bnd t).map .str++[e.d]) (some 1) (some (-1))=(bnd t).map .str->∃ g r,run P (m+1) (O "_law_free") [t.d,.ref b] h=.ok (.ref r) (h++g)/\(h++g)[r]? = some (.lst ((frb t bs).map .str)):=fun w e ht hw nw nn c1=>by
   have bl:=(ZdI t).1;refine gen w _ (h++[DO.lst ((bnd t).map .str)]).length [.lst ((bnd t).map .str),.lst ((bs++bnd t).map .str)] ht nw nn (by simp) ?_;have tt:tst (P.tbl m) Zdi [some t.d,some (.ref b),some (.ref b),none,none] h=.ok true h:=by
     rcases hw with rfl|rfl
     . exact ZqF (Zm (ZaM (h0 _ _ _ _ _ _ ht) rfl) (decide_eq_true rfl))
     . exact Zg4 (Zm (ZaM (h0 _ _ _ _ _ _ ht) rfl) (decide_eq_false (by simp))) (Zm (ZaM (h0 _ _ _ _ _ _ ht) rfl) (decide_eq_true rfl))
   have sl1:ev (P.tbl m) (.sl (.var 0) (some (.cst (.int 1))) (some (.neg (.cst (.int 1))))) [some t.d,some (.ref b),some (.ref b),none,none] h=.ok (.tup ((bnd t).map .str)) h:=(Gn.Zfu (a:=.var 0) (x:=t.d) (l:=some 1) (u:=some (-1)) rfl rfl rfl).trans (by rw [ht,Zez,c1]);refine (Zy tt).trans ((Za (Zl (i:=2) ((Zg (y:=.ref h.length) (h2:=h++[.lst ((bnd t).map .str)]) rfl (Zgj (Zb sl1 rfl) rfl)).trans ((add_l (ys:=(bnd t).map .str) (Zk hb) (by simp) (by simp;lia)).trans ?_)))).trans rfl);rw [<- List.map_append,Oz];rfl
 cases t with
 | num z=>exact pl _ _ rfl (by simp) (by simp) (by simp) (by simp) rfl
 | call a b=>exact pl _ _ rfl (by simp) (by simp) (by simp) (by simp) rfl
 | iff a b c=>exact pl _ _ rfl (by simp) (by simp) (by simp) (by simp) rfl
 | op w a b=>exact pl _ _ rfl (by simp) (by simp) (by simp) (by simp) rfl
 | fn x e=>exact fu _ e rfl (.inl rfl) (by simp) (by simp) rfl
 | rcc g x e=>exact fu _ e rfl (.inr rfl) (by simp) (by simp) rfl
 | name x =>
   have c:=Zgt (U:=P.tbl m) (e0:=[some (.ref b)]) (h:=h++[.lst [.str x]]) (j:=h.length) (L:=[.str x]) (p:=fun y=>!decide (y∈bs)) (tx:=.ex (.cmp .NotIn (.var 0) (.var 1))) (by simp) (fun y=>Zbu ((Zv rfl rfl).trans (ZdO (Zk hb)))) [x] [] (by simp);have ef:[x].filter (fun y=>!decide (y∈bs))=frb (.name x) bs:=by
     unfold frb;by_cases hx:x∈bs<;>simp [hx]
   rw [OB,ef] at c;refine ⟨[.lst [.str x],.lst ((frb (.name x) bs).map .str)],(h++[DO.lst [.str x]]).length,?_,by simp⟩;rw [Zj H.law_free rfl];have w:xs2 (P.tbl m) ZcX [some (T.name x).d,some (.ref b),none,none,none] h=.ok (.rt (.ref (h++[DO.lst [.str x]]).length),[some (T.name x).d,some (.ref b),none,none,none]) (h++[.lst [.str x]]++[.lst ((frb (.name x) bs).map .str)]):=Zc ((Zy (Zm (ZaM (x:=O "name") rfl rfl) (decide_eq_true rfl))).trans (Zc (ZD (ZeY (ZdF (ZeX (xs:=[.str x]) rfl (show 1<=1000 by decide)) (by simp)) c))));rw [show h++[DO.lst [.str x],.lst ((frb (.name x) bs).map .str)]=h++[.lst [.str x]]++[.lst ((frb (.name x) bs).map .str)] by simp];exact congrArg Zt w
theorem Zps (H:Lw P):∀ (d n:Nat) (t:T) (bs:List Str) (b:Nat) (h:Hd),dep t<=d->bs.length+2 * d<=1000->t.size<=800000->h[b]? = some (.lst (bs.map .str))->∃ g r,run P (n+d+1) (O "_law_free") [t.d,.ref b] h=.ok (.ref r) (h++g)/\(h++g)[r]? = some (.lst ((frb t bs).map .str))
 | 0,n,t,bs,b,h,hd,hl,hs,hb=>Zto H (n+0) t bs hb (by lia) hs fun s q=>by have:=ZF q;lia
 | d+1,n,t,bs,b,h,hd,hl,hs,hb=>Zto H (n+(d+1)) t bs hb (by lia) hs fun s q bs' i h' l' hi =>
   Zps H d n s bs' i h' (by have:=ZF q;lia) (by lia) (OE (Znu q) hs) hi
end K12L
end
section
set_option exponentiation.threshold 3000
namespace K12L
open PySem L2 IV Tm Fr
open Gn (dep ZF Cl Wl Up)
variable {P:Pg}
noncomputable def Gv(V:T):Prop:=Cl [] V/\V.size<=9/\dep V<=3
theorem Zmj{f:Fil}{x:Str}{V:T}(h:x ∉ f.map (·.1)):putD f.kv (.inr x) V.d=Fil.kv (f++[(x,V)]):=by
 have a:(f.kv.any fun kv=>decide (kv.1=.inr x))=false:=by
   rw [Bool.eq_false_iff];intro e;obtain ⟨_,m,e⟩:=List.any_eq_true.mp e;obtain ⟨p,hp,rfl⟩:=List.mem_map.mp m;have:=of_decide_eq_true e;exact h (List.mem_map.mpr ⟨p,hp,Sum.inr.inj this⟩)
 unfold putD;rw [a,if_neg (by decide)];simp [Fil.kv]
noncomputable def Zbn(v:Int)(m r:Nat)(k l:Option D):Ev:=[some (.int v),some (.ref m),some (.ref r),k,l]
theorem Zu8{a b c d:T}(z:Int)(h0:0<=z/\z<4)(ga:Gv a)(gb:Gv b)(gc:Gv c)(gd:Gv d):∃ V,atI [a.d,b.d,c.d,d.d] z=some V.d/\Gv V:=by
 have:z=0\/z=1\/z=2\/z=3:=by lia
 rcases this with rfl|rfl|rfl|rfl
 . exact ⟨a,by simp,ga⟩
 . exact ⟨b,by simp,gb⟩
 . exact ⟨c,by simp,gc⟩
 . exact ⟨d,by simp,gd⟩
theorem pw5(k:Nat)(hk:k<5):∃ p:Int,atI [D.int 1,.int 2,.int 4,.int 8,.int 16] (k:Int)=some (.int p)/\0<p/\p<1073741824:=by
 have:k=0\/k=1\/k=2\/k=3\/k=4:=by lia
 rcases this with rfl|rfl|rfl|rfl|rfl
 . exact ⟨1,rfl,by decide⟩
 . exact ⟨2,rfl,by decide⟩
 . exact ⟨4,rfl,by decide⟩
 . exact ⟨8,rfl,by decide⟩
 . exact ⟨16,rfl,by decide⟩
inductive Tu(ns:List Str)(m r k:Nat)(v:Int)(h:Hd)(f:Fil)(x:R (Fl×Ev)):Prop
 | mk (h':Hd) (f':Fil) (l:Option D) (e:x=.ok (.nx,Zbn v m r (some (.int (k:Int))) l) h') (u:Up r h h') (d:h'[r]? = some (.dic f'.kv)) (c:f'=f\/∃ y V,ns[k]? = some y/\f'=f++[(y,V)]/\Gv V)
theorem ZtB(H:Lw P)(n:Nat){ns:List Str}{h:Hd}{f:Fil}(v:Int)(k:Nat)(hk:k<5)(h5:ns.length=5)(hm:h[m]? = some (.lst (ns.map .str)))(hr:h[r]? = some (.dic f.kv))(hf:f.length<=10)(nf:∀ y,ns[k]? = some y->y ∉ f.map (·.1))(l:Option D) :
   Tu ns m r k v h f (xs2 (P.tbl (n+1)) Z1 (Zbn v m r (some (.int (k:Int))) l) h):=by
 have mr:m≠r:=fun e=>by rw [e,hr] at hm;cases hm
 have dv:∀ (j:Nat) (l:Option D) (hh:Hd),j<=10->1<=j->ev (P.tbl (n+1)) (.bin .FloorDiv (.var 0) (.bin .Add (.var 3) (.cst (.int (j:Int))))) (Zbn v m r (some (.int (k:Int))) l) hh=.ok (.int (v / ((k:Int)+(j:Int)))) hh:=fun j l hh h1 h2=>(Zg rfl rfl).trans (Zac ⟨by lia,by lia⟩);obtain ⟨t1,g1,e1,c1,p1,s1,_⟩:=Gn.Zec H.m n (O "f") (v / ((k:Int)+((1:Nat):Int))) h [];have hn:Gv (.num (v / ((k:Int)+((2:Nat):Int)) % 1000000)):=⟨⟨by lia,by lia⟩,by simp [T.size,T.places],by simp [dep]⟩
 generalize en:T.num (v / ((k:Int)+((2:Nat):Int)) % 1000000)=tn at hn;have zn:∀ (l:Option D) (hh:Hd),ev (P.tbl (n+1)) (.tupl (.cons (.cst (.str (O "num"))) (.cons (.bin .Mod (.bin .FloorDiv (.var 0) (.bin .Add (.var 3) (.cst (.int 2)))) (.cst (.int 1000000))) .nil))) (Zbn v m r (some (.int (k:Int))) l) hh=.ok tn.d hh:=fun l hh=>(ZaF (xs:=[_,_]) (Zb rfl (Zb ((Zg (dv 2 l hh (by lia) (by lia)) rfl).trans (ZH (by decide))) rfl)) (show 2<=1000 by decide)).trans (by rw [<- en];rfl);have x1:xs1 (P.tbl (n+1)) Zbj (Zbn v m r (some (.int (k:Int))) l) h=.ok (.nx,Zbn v m r (some (.int (k:Int))) (some (.ref (h++g1).length))) (h++g1++[.lst [tn.d,t1.d]]):=Zl (i:=4) (ZeX (xs:=[_,_]) (Zb (zn l h) (Zb (ZC e1 (Zb rfl (Zb (dv 1 l h (by lia) (by lia)) rfl))) rfl)) (show 2<=1000 by decide));generalize eh1:h++g1++[DO.lst [tn.d,t1.d]]=h1 at x1;have u1:Up r h h1:=by rw [<- eh1];exact Up.app.trans Up.app
 generalize eq1:(h++g1).length=q at x1;have q1:h1[q]? = some (.lst [tn.d,t1.d]):=by rw [<- eh1,<- eq1];simp
 have hrl:=Gn.Zi hr;have hml:=Gn.Zi hm;have qh:h.length<=q:=by rw [<- eq1];simp
 obtain ⟨t2,g2,e2,c2,p2,s2,_⟩:=Gn.Zec H.m n (O "g") (v / ((k:Int)+((3:Nat):Int))) h1 [];have q2:(h1++g2)[q]? = some (.lst [tn.d,t1.d]):=Zk q1;have x2:xs1 (P.tbl (n+1)) Zbi (Zbn v m r (some (.int (k:Int))) (some (.ref q))) h1=.ok (.nx,Zbn v m r (some (.int (k:Int))) (some (.ref q))) ((h1++g2).set q (.lst [tn.d,t1.d,t2.d])):=Zdg (ZeW (i:=q) rfl q1 (Zb (ZC e2 (Zb rfl (Zb (dv 3 _ _ (by lia) (by lia)) rfl))) rfl) ((ZaS q2 (by rw [sizeLine_eq];simp)).trans rfl));generalize eh2:(h1++g2).set q (DO.lst [tn.d,t1.d,t2.d])=h2 at x2;have q3:h2[q]? = some (.lst [tn.d,t1.d,t2.d]):=by rw [<- eh2,Ol (Gn.Zi q2)]
 have x3:xs1 (P.tbl (n+1)) Zbh (Zbn v m r (some (.int (k:Int))) (some (.ref q))) h2=.ok (.nx,Zbn v m r (some (.int (k:Int))) (some (.ref q))) (h2.set q (.lst [tn.d,t1.d,t2.d,(T.call t1 tn).d])):=Zdg (ZeW (i:=q) rfl q3 (Zb (ZaF (xs:=[_,_,_]) (Zb rfl (Zb ((ZJ rfl rfl).trans ((ZB q3).trans rfl)) (Zb ((ZJ rfl rfl).trans ((ZB q3).trans rfl)) rfl))) (show 3<=1000 by decide)) rfl) ((ZaS q3 (by rw [sizeLine_eq];simp)).trans rfl));generalize eh3:h2.set q (DO.lst [tn.d,t1.d,t2.d,(T.call t1 tn).d])=h3 at x3;have q4:h3[q]? = some (.lst [tn.d,t1.d,t2.d,(T.call t1 tn).d]):=by rw [<- eh3,Ol (Gn.Zi q3)]
 have u3:Up r h h3:=by
   refine ⟨?_,fun i hi hn=>?_⟩
   . have:=u1.1;rw [<- eh3,<- eh2];simp;lia
   . rw [<- eh3,Oc (by lia),<- eh2,Oc (by lia),Oe (by have:=u1.1;lia)];exact u1.2 i hi hn
 have r3:h3[r]? = some (.dic f.kv):=by
   rw [<- eh3,Oc (by lia),<- eh2,Oc (by lia),Oe (by have:=u1.1;lia),<- eh1,Oz,Oe hrl];exact hr
 have m3:=u3.at hm mr;obtain ⟨p,ep,pp⟩:=pw5 k hk;have y4:ev (P.tbl (n+1)) (.ix (.lstl (.cons (.cst (.int 1)) (.cons (.cst (.int 2)) (.cons (.cst (.int 4)) (.cons (.cst (.int 8)) (.cons (.cst (.int 16)) .nil)))))) (.var 3)) (Zbn v m r (some (.int (k:Int))) (some (.ref q))) h3=.ok (.int p) (h3++[.lst [.int 1,.int 2,.int 4,.int 8,.int 16]]):=ZfF ep rfl rfl (by simp);have t4:tst (P.tbl (n+1)) Zbf (Zbn v m r (some (.int (k:Int))) (some (.ref q))) h3=.ok (decide (v / p % 2=1)) (h3++[.lst [.int 1,.int 2,.int 4,.int 8,.int 16]]):=Zdf ((Zg ((Zg rfl y4).trans (Zac pp)) rfl).trans (ZH (by decide))) rfl;generalize eh4:h3++[DO.lst [.int 1,.int 2,.int 4,.int 8,.int 16]]=h4 at t4;have u4:Up r h h4:=u3.trans (by rw [<- eh4];exact Up.app);have r4:h4[r]? = some (.dic f.kv):=by rw [<- eh4];exact Zk r3
 have m4:h4[m]? = some (.lst (ns.map .str)):=by rw [<- eh4];exact Zk m3
 have q5:h4[q]? = some (.lst [tn.d,t1.d,t2.d,(T.call t1 tn).d]):=by rw [<- eh4];exact Zk q4
 have x123:xs2 (P.tbl (n+1)) Z1 (Zbn v m r (some (.int (k:Int))) l) h=xs2 (P.tbl (n+1)) (.cons Zbg .nil) (Zbn v m r (some (.int (k:Int))) (some (.ref q))) h3:=(Za x1).trans ((Za x2).trans (Za x3));rw [x123];by_cases hb:v / p % 2=1
 . have g1':Gv t1:=⟨c1,by lia,by lia⟩
   have g2':Gv t2:=⟨c2,by lia,by lia⟩
   have g3':Gv (.call t1 tn):=⟨⟨c1,hn.1⟩,by have:=hn.2.1;rw [<- en] at this ⊢;simp only [T.size,T.places,Os,OA,List.length_nil] at *;lia,by rw [<- en];simp only [dep];lia⟩
   obtain ⟨V,eV,gV⟩:=Zu8 (v / 32 / ((k:Int)+1) % 4) (by lia) hn g1' g2' g3';have hk':k<ns.length:=by lia
   have ek:ns[k]? = some ns[k]:=Og hk';have z5:ev (P.tbl (n+1)) (.ix (.var 4) (.bin .Mod (.bin .FloorDiv (.bin .FloorDiv (.var 0) (.cst (.int 32))) (.bin .Add (.var 3) (.cst (.int 1)))) (.cst (.int 4)))) (Zbn v m r (some (.int (k:Int))) (some (.ref q))) h4=.ok V.d h4:=(ZJ rfl ((Zg ((Zg ((Zg rfl rfl).trans (Zac (by decide))) rfl).trans (Zac ⟨by lia,by lia⟩)) rfl).trans (ZH (by decide)))).trans ((ZB q5).trans (by rw [eV];rfl));have zk:ev (P.tbl (n+1)) (.ix (.var 1) (.var 3)) (Zbn v m r (some (.int (k:Int))) (some (.ref q))) h4=.ok (.str ns[k]) h4:=(ZJ rfl rfl).trans ((ZB m4).trans (by rw [IV.Z2,On,ek];rfl));refine ⟨h4.set r (.dic (Fil.kv (f++[(ns[k],V)]))),f++[(ns[k],V)],some (.ref q),(Za ((Zy (Zm t4 (decide_eq_true hb))).trans ((Za (Zlx z5 rfl zk ((Zly r4 (by rw [sizeLine_eq];simp [Fil.kv];lia)).trans (by rw [Zmj (nf _ ek)])))).trans rfl))).trans rfl,u4.trans Up.set,by rw [Ol (Gn.Zi r4)],.inr ⟨ns[k],V,ek,rfl,gV⟩⟩
 . exact ⟨h4,f,some (.ref q),(Za ((Zu (Zm t4 (decide_eq_false hb))).trans rfl)).trans rfl,u4,r4,.inl rfl⟩
structure Flg(ns:List Str)(f:Fil):Prop where
 nd:(f.map (·.1)).Nodup
 le:f.length<=5
 mem:∀ p∈f,p.1∈ns
 gv:∀ p∈f,Gv p.2
theorem Zhj(H:Lw P)(n:Nat){ns:List Str}(v:Int)(h5:ns.length=5)(nn:ns.Nodup):∀ (j k:Nat) (h:Hd) (f:Fil) (o l:Option D),j+k=5->h[m]? = some (.lst (ns.map .str))->h[r]? = some (.dic f.kv)->f.length<=k->(f.map (·.1)).Nodup->(∀ p∈f,∃ i,i<k/\ns[i]? = some p.1)->(∀ p∈f,Gv p.2) ->
   ∃ h' f' o' l',ZG [] (.nm 3) (xs2 (P.tbl (n+1)) Z1) (((List.range' k j).map fun (i:Nat)=>D.int (i:Int))) (Zbn v m r o l) h=.ok (.nx,Zbn v m r o' l') h'/\Up r h h'/\h'[r]? = some (.dic f'.kv)/\Flg ns f'
 | 0,k,h,f,o,l,hj,hm,hr,hf,nd,hi,hg=>⟨h,f,o,l,rfl,Up.refl,hr,nd,by lia,fun p hp=>by obtain ⟨i,_,e⟩:=hi p hp;exact O1 e,hg⟩
 | j+1,k,h,f,o,l,hj,hm,hr,hf,nd,hi,hg=>by
   have mr:m≠r:=fun e=>by rw [e,hr] at hm;cases hm
   have nf:∀ y,ns[k]? = some y->y ∉ f.map (·.1):=fun y ey my=>by
     obtain ⟨p,hp,rfl⟩:=List.mem_map.mp my;obtain ⟨i,hik,ei⟩:=hi p hp;have hk':=(Ob.mp ey)
     have hi':=(Ob.mp ei)
     obtain ⟨a,ea⟩:=hk';obtain ⟨b,eb⟩:=hi';exact List.pairwise_iff_getElem.mp nn i k b a hik (eb.trans ea.symm)
   obtain ⟨h1,f1,l1,e1,u1,d1,c1⟩:=ZtB H n v k (by lia) h5 hm hr (by lia) nf l;have ih:=Zhj H n (m:=m) (r:=r) v h5 nn j (k+1) h1 f1 (some (.int (k:Int))) l1 (by lia) (u1.at hm mr) d1;rw [List.range'_succ,Op];rcases c1 with rfl|⟨y,V,ey,rfl,gV⟩
   . obtain ⟨h2,f2,o2,l2,e2,u2,d2,q2⟩:=ih (by lia) nd (fun p hp=>by obtain ⟨i,a,b⟩:=hi p hp;exact ⟨i,by lia,b⟩) hg;exact ⟨h2,f2,o2,l2,(ZbZ (ρ1:=Zbn v m r (some (.int (k:Int))) l) rfl e1).trans e2,u1.trans u2,d2,q2⟩
   . obtain ⟨h2,f2,o2,l2,e2,u2,d2,q2⟩:=ih (by simp;lia) (by
       rw [List.map_append];exact List.nodup_append.mpr ⟨nd,by simp,fun a ha b hb=>by
         have:b=y:=by simpa using hb
         rw [this];exact fun e=>nf y ey (e ▸ ha)⟩) (fun p hp=>by
       rcases OD.mp hp with hp|hp
       . obtain ⟨i,a,b⟩:=hi p hp;exact ⟨i,by lia,b⟩
       . rw [Ox.mp hp];exact ⟨k,by lia,ey⟩) (fun p hp=>by
       rcases OD.mp hp with hp|hp
       . exact hg p hp
       . rw [Ox.mp hp];exact gV)
     exact ⟨h2,f2,o2,l2,(ZbZ (ρ1:=Zbn v m r (some (.int (k:Int))) l) rfl e1).trans e2,u1.trans u2,d2,q2⟩
theorem Zkk (H:Lw P) (n:Nat) {ns:List Str} (v:Int) (h5:ns.length=5) (nn:ns.Nodup) {h:Hd} (hm:h[m]? = some (.lst (ns.map .str))):∃ g f r,run P (n+2) (O "_law_filling") [.int v,.ref m] h=.ok (.ref r) (h++g)/\(h++g)[r]? = some (.dic (Fil.kv f))/\Flg ns f/\h.length<=r:=by
 obtain ⟨h',f,o',l',e,u,d,q⟩:=Zhj H n (m:=m) (r:=h.length) v h5 nn 5 0 (h++[.dic []]) [] none none rfl (Zk hm) (by simp [Fil.kv]) (Oq _) (by simp) (by simp) (by simp);obtain ⟨g,rfl⟩:=kept (h:=h) (h':=h') (by have:=u.1;simp at this;lia) fun i hi=>(u.2 i (by simp;lia) (by lia)).trans (by rw [Oe hi]);refine ⟨g,f,h.length,?_,d,q,Oq _⟩;rw [Zj H.law_filling rfl];have w:xs2 (P.tbl (n+1)) ZcO [some (.int v),some (.ref m),none,none,none] h=.ok (.rt (.ref h.length),Zbn v m h.length o' l') (h++g):=(Za (Zl (i:=2) (d:=.ref h.length) (h1:=h++[.dic []]) rfl)).trans ((Za ((ZcU (w:=⟨[],(List.range' 0 5).map fun (i:Nat)=>D.int (i:Int)⟩) rfl).trans e)).trans (Zc (ZD rfl)));exact congrArg Zt w
end K12L
end
section
set_option exponentiation.threshold 3000
namespace K12L
open PySem L2 IV Tm Fr
open Gn (dep ZF Cl Wl Up)
variable {P:Pg}
theorem ZnE (H:Lw P) (n:Nat) (zs:List Int) (h:Hd):∃ v,run P (n+1) (O "_law_cell_at") [.ro (zs.map .int),.int 1] h=.ok (.int v) h:=by
 rw [Zj H.law_cell_at rfl];have tt:tst (P.tbl n) ZbQ [some (.ro (zs.map .int)),some (.int 1)] h=.ok (decide ((1:Int)<(zs.map D.int).length)) h:=Ztj rfl rfl;by_cases hz:1<zs.length
 . refine ⟨zs[1],?_⟩;have ea:atI (zs.map D.int) 1=some (.int zs[1]):=by
     have:=IV.Z2 (l:=zs.map D.int) (k:=1);rw [On,Og hz] at this;exact this
   have w:xs2 (P.tbl n) Zbw [some (.ro (zs.map .int)),some (.int 1)] h=.ok (.rt (.int zs[1]),[some (.ro (zs.map .int)),some (.int 1)]) h:=Zc ((Zy (Zm tt (decide_eq_true (by rw [List.length_map];lia)))).trans (Zc (ZD ((ZJ rfl rfl).trans (by rw [Zod,ea];rfl)))));exact congrArg Zt w
 . refine ⟨0,?_⟩;have w:xs2 (P.tbl n) Zbw [some (.ro (zs.map .int)),some (.int 1)] h=.ok (.rt (.int 0),[some (.ro (zs.map .int)),some (.int 1)]) h:=(Za ((Zu (Zm tt (decide_eq_false (by rw [List.length_map];lia)))).trans rfl)).trans (Zc (ZD rfl));exact congrArg Zt w
noncomputable def v12(ro:D)(o1 o2 o3 o4 o5 o6 o7 o8 o9 o10 o11 o12:Option D):Ev:=[some ro,o1,o2,o3,o4,o5,o6,o7,o8,o9,o10,o11,o12]
inductive Pro(ro:D)(r:Sxs->R (Fl×Ev))(U:Tb):Prop
 | mk (ns:List Str) (t:T) (h:Hd) (o1 o2 o4:Option D) (m:Nat) (e:∀ s,r s=xs2 U s (v12 ro o1 o2 (some (.ref m)) o4 (some t.d) none none none none none none none) h) (hm:h[m]? = some (.lst (ns.map .str))) (n5:ns.length=5) (nok:∀ x∈ns,Wl 20 x) (nd:ns.Nodup) (c:Cl (ns.take 3) t) (sz:t.size<=120) (d:dep t<=21)
theorem Zqp(H:Lw P)(zs:List Int)(hz:zs.length<=63):Pro (.ro (zs.map .int)) (fun s=>xs2 (P.tbl 250) (.cons ZgF (.cons ZgE (.cons ZgD (.cons ZgC (.cons ZgB (.cons Zj3 s)))))) (v12 (.ro (zs.map .int)) none none none none none none none none none none none none) []) (P.tbl 250):=by
 obtain ⟨ys,hyl,osl⟩:=Gn.ZsH zs 2 (by lia);obtain ⟨cs,hcl,ec⟩:=Gn.Ze3 H.m (n:=249) (h:=[.lst (ys.map .int)]) (k:=0) (xs0:=ys.map .int) rfl ys 0 [] (by simp;lia) (by lia);have en:Zb4 (ys.map D.int)=ys.mapIdx fun q x=>D.tup [.int ((q+0:Nat):Int),.int x]:=by
   unfold Zb4;apply List.ext_getElem?;intro q;simp [List.getElem?_mapIdx];cases ys[q]?<;>rfl
 have ei:evi (P.tbl 250) (.enu (.sl (.var 0) (some (.cst (.int 2))) none)) (v12 (.ro (zs.map .int)) none none none none none none none none none none none none) []=.ok ⟨[(0,ys.map .int)],Zb4 (ys.map D.int)⟩ [.lst (ys.map .int)]:=by
   rw [ZoQ,show ev (P.tbl 250) (.sl (.var 0) (some (.cst (.int 2))) none) (v12 (.ro (zs.map .int)) none none none none none none none none none none none none) []=.ok (.ref 0) [.lst (ys.map .int)] from osl [],Zr];simp [Zfn]
 rw [<- en] at ec;have x1:xs1 (P.tbl 250) ZgF (v12 (.ro (zs.map .int)) none none none none none none none none none none none none) []=.ok (.nx,v12 (.ro (zs.map .int)) (some (.ref 1)) none none none none none none none none none none none) [.lst (ys.map .int),.lst (cs.map .int)]:=Zl (i:=1) ((ZeY ei ec).trans rfl);have x2:xs1 (P.tbl 250) ZgE (v12 (.ro (zs.map .int)) (some (.ref 1)) none none none none none none none none none none none) [.lst (ys.map .int),.lst (cs.map .int)]=.ok (.nx,v12 (.ro (zs.map .int)) (some (.ref 1)) (some (.ref 2)) none none none none none none none none none none) [.lst (ys.map .int),.lst (cs.map .int),.lst [.ref 1,.int 0,.int 26]]:=Zl (i:=2) ((ZeX (xs:=[_,_,_]) rfl (show 3<=1000 by decide)).trans rfl);generalize D.ro (zs.map .int)=ro at *;obtain ⟨v,e3,_⟩:=Gn.Zls H.m 248 (h:=[.lst (ys.map .int),.lst (cs.map .int),.lst [.ref 1,.int 0,.int 26]]) (i:=2) (j:=1) (cs:=cs) (a:=0) (b:=26) ⟨rfl,rfl,by decide⟩ (by decide);obtain ⟨ns,n5,nok,nnd,e4⟩:=Gn.ZnB H.m 249 v [.lst (ys.map .int),.lst (cs.map .int),.lst [.ref 1,.int 1,.int 26]];have x3:xs1 (P.tbl 250) ZgD (v12 ro (some (.ref 1)) (some (.ref 2)) none none none none none none none none none none) [.lst (ys.map .int),.lst (cs.map .int),.lst [.ref 1,.int 0,.int 26]]=.ok (.nx,v12 ro (some (.ref 1)) (some (.ref 2)) (some (.ref 3)) none none none none none none none none none) [.lst (ys.map .int),.lst (cs.map .int),.lst [.ref 1,.int 1,.int 26],.lst (ns.map .str)]:=Zl (i:=3) (ZC e4 (Zb (ZC e3 rfl) rfl));obtain ⟨a0,a1,a2,a3,a4,rfl⟩:∃ a b c d e,ns=[a,b,c,d,e]:=by match ns,n5 with|[a,b,c,d,e],_=>exact ⟨a,b,c,d,e,rfl⟩
 generalize eh3:[DO.lst (ys.map .int),.lst (cs.map .int),.lst [.ref 1,.int 1,.int 26],.lst ([a0,a1,a2,a3,a4].map .str)]=h3 at x3;have m3:h3[3]? = some (.lst ([a0,a1,a2,a3,a4].map .str)):=by rw [<- eh3];rfl
 have l3:h3.length=4:=by rw [<- eh3];rfl
 have ix:∀ (k:Nat) (a:Str) (o4 o5:Option D) (hh:Hd),hh[3]? = some (.lst ([a0,a1,a2,a3,a4].map .str))->[a0,a1,a2,a3,a4][k]? = some a->ev (P.tbl 250) (.ix (.var 3) (.cst (.int (k:Int)))) (v12 ro (some (.ref 1)) (some (.ref 2)) (some (.ref 3)) o4 o5 none none none none none none none) hh=.ok (.str a) hh:=fun k a o4 o5 hh hm ek=>(ZJ rfl rfl).trans ((ZB hm).trans (by rw [IV.Z2,On,ek];rfl));have x4:xs1 (P.tbl 250) ZgC (v12 ro (some (.ref 1)) (some (.ref 2)) (some (.ref 3)) none none none none none none none none none) h3=.ok (.nx,v12 ro (some (.ref 1)) (some (.ref 2)) (some (.ref 3)) (some (.ref 4)) none none none none none none none none) (h3++[.lst ([(a0,O "n"),(a1,O "f"),(a2,O "g")].map Gn.pairOf)]) :=
   Zl (i:=4) ((ZeX (xs:=[_,_,_]) (Zb (ZaF (xs:=[_,_]) (Zb (ix 0 a0 none none h3 m3 rfl) rfl) (show 2<=1000 by decide)) (Zb (ZaF (xs:=[_,_]) (Zb (ix 1 a1 none none h3 m3 rfl) rfl) (show 2<=1000 by decide)) (Zb (ZaF (xs:=[_,_]) (Zb (ix 2 a2 none none h3 m3 rfl) rfl) (show 2<=1000 by decide)) rfl))) (show 3<=1000 by decide)).trans (by rw [l3];rfl))
 have ctx:Gn.Ctx cs [a0,a1,a2,a3,a4] (h3++[.lst ([(a0,O "n"),(a1,O "f"),(a2,O "g")].map Gn.pairOf)]) 2 1 3 4 [(a0,O "n"),(a1,O "f"),(a2,O "g")] 1 26:=by
   refine ⟨⟨?_,?_,by decide⟩,Zk m3,n5,nok,nnd,?_,?_,by decide,by decide,by decide⟩
   . rw [<- eh3];rfl
   . rw [<- eh3];rfl
   . show (h3++_)[4]? = _;rw [<- l3];simp
   . intro p hp;simp at hp;rcases hp with rfl|rfl|rfl
     . exact nok a0 (by simp)
     . exact nok a1 (by simp)
     . exact nok a2 (by simp)
 have A6:Gn.A 6=16384:=by decide
 cases Gn.ZrU H.m 6 250 (by lia) ctx (O "n") 6 (by decide) (by simp) (by rw [A6];decide) with
 | mk t h5 a' b' e5 u5 s5 l1 l2 ct p5 z5 =>
 have m5:=u5.at ctx.nm (by decide);obtain ⟨g6,e6⟩:=Gn.Zlp H.m 21 228 t h5 (by lia);have x5:xs1 (P.tbl 250) ZgB (v12 ro (some (.ref 1)) (some (.ref 2)) (some (.ref 3)) (some (.ref 4)) none none none none none none none none) (h3++[.lst ([(a0,O "n"),(a1,O "f"),(a2,O "g")].map Gn.pairOf)])=.ok (.nx,v12 ro (some (.ref 1)) (some (.ref 2)) (some (.ref 3)) (some (.ref 4)) (some t.d) none none none none none none none) h5:=Zl (i:=5) (ZC e5 rfl);have t6:tst (P.tbl 250) ZjW (v12 ro (some (.ref 1)) (some (.ref 2)) (some (.ref 3)) (some (.ref 4)) (some t.d) none none none none none none none) h5=.ok (decide ((120:Int)<t.size)) (h5++g6):=ZuR (ZC e6 rfl) rfl;by_cases hw:(120:Int)<t.size
 . refine ⟨[a0,a1,a2,a3,a4],.call (.name a1) (.name a0),h5++g6,some (.ref 1),some (.ref 2),some (.ref 4),3,fun s=>?_,Zk m5,n5,nok,nnd,⟨by show a1∈[a0,a1,a2];simp,by show a0∈[a0,a1,a2];simp⟩,by simp [T.size,T.places],by simp [dep]⟩;exact (Za x1).trans ((Za x2).trans ((Za x3).trans ((Za x4).trans ((Za x5).trans (Za ((Zy (Zm t6 (decide_eq_true hw))).trans ((Za (Zl (i:=5) (ZaF (xs:=[_,_,_]) (Zb rfl (Zb (ZaF (xs:=[_,_]) (Zb rfl (Zb (ix 1 a1 _ _ _ (Zk m5) rfl) rfl)) (show 2<=1000 by decide)) (Zb (ZaF (xs:=[_,_]) (Zb rfl (Zb (ix 0 a0 _ _ _ (Zk m5) rfl) rfl)) (show 2<=1000 by decide)) rfl))) (show 3<=1000 by decide)))).trans rfl)))))))
 . refine ⟨[a0,a1,a2,a3,a4],t,h5++g6,some (.ref 1),some (.ref 2),some (.ref 4),3,fun s=>?_,Zk m5,n5,nok,nnd,ct,by lia,by lia⟩;exact (Za x1).trans ((Za x2).trans ((Za x3).trans ((Za x4).trans ((Za x5).trans (Za ((Zu (Zm t6 (decide_eq_false hw))).trans rfl))))))
end K12L
end
section
namespace K12L
open PySem L2 IV Tm Fr
open Gn (dep ZF Cl Wl Up)
variable {P:Pg}
theorem ZcB:∀ {t:T}{sc:List Str},Cl sc t->∀ x∈lf t,x∈sc
 | .num _,_,_,x,hx=>by cases hx
 | .name y,_,n,x,hx=>by rw [Ox.mp hx];exact n
 | .fn y e,sc,n,x,hx=>by
   obtain ⟨h1,h2⟩:=List.mem_filter.mp hx;rcases O2.mp (ZcB n.1 x h1) with q|q
   . exact absurd q (of_decide_eq_true h2)
   . exact q
 | .rcc f y e,sc,n,x,hx=>by
   obtain ⟨h1,h2⟩:=List.mem_filter.mp hx;have h2:=of_decide_eq_true h2;rcases O2.mp (ZcB n.1 x h1) with q|q
   . exact absurd q h2.2
   . rcases O2.mp q with q|q
     . exact absurd q h2.1
     . exact q
 | .call f a,_,n,x,hx=>by rcases OD.mp hx with q|q;exact ZcB n.1 x q;exact ZcB n.2 x q
 | .iff c a b,_,n,x,hx=>by
   rcases OD.mp hx with q|q
   . exact ZcB n.1 x q
   . rcases OD.mp q with q|q;exact ZcB n.2.1 x q;exact ZcB n.2.2 x q
 | .op w a b,_,n,x,hx=>by rcases OD.mp hx with q|q;exact ZcB n.1 x q;exact ZcB n.2 x q
theorem ZY:∀ (t:T) (ar:Tm.Ar),(∀ x∈lf t,Tm.get ar x=none)->sub ar t=t
 | .num _,_,_=>rfl
 | .name x,ar,h=>by rw [sub,h x (.head _)];rfl
 | .fn x e,ar,h=>by
   rw [sub,ZY e ((x,none)::ar) fun y hy=>by
     rw [Tm.get];split
     . rfl
     . rename_i ne;exact h y (List.mem_filter.mpr ⟨hy,decide_eq_true (Ne.symm ne)⟩)]
 | .rcc f x e,ar,h=>by
   rw [sub,ZY e ((f,none)::(x,none)::ar) fun y hy=>by
     rw [Tm.get];split
     . rfl
     . rename_i n1;rw [Tm.get];split
       . rfl
       . rename_i n2;exact h y (List.mem_filter.mpr ⟨hy,decide_eq_true ⟨Ne.symm n1,Ne.symm n2⟩⟩)]
 | .call f a,ar,h=>by rw [sub,ZY f ar fun y hy=>h y (List.mem_append_left _ hy),ZY a ar fun y hy=>h y (Ov _ hy)]
 | .iff c a b,ar,h=>by rw [sub,ZY c ar fun y hy=>h y (List.mem_append_left _ hy),ZY a ar fun y hy=>h y (Ov _ (List.mem_append_left _ hy)),ZY b ar fun y hy=>h y (Ov _ (Ov _ hy))]
 | .op w a b,ar,h=>by rw [sub,ZY a ar fun y hy=>h y (List.mem_append_left _ hy),ZY b ar fun y hy=>h y (Ov _ hy)]
theorem Zha{α:Type}:∀ (l m:List α),l.Nodup->(∀ x∈l,x∈m)->l.length<=m.length
 | [],m,_,_=>Nat.zero_le _
 | x::l,m,nd,s=>by
   obtain ⟨a,b,rfl⟩:=List.append_of_mem (s x (.head _));obtain ⟨n1,n2⟩:=List.nodup_cons.mp nd;have:=Zha l (a++b) n2 fun y hy=>by
     rcases OD.mp (s y (.tail _ hy)) with q|q
     . exact List.mem_append_left _ q
     . rcases O2.mp q with q|q
       . exact absurd (q ▸ hy) n1
       . exact Ov _ q
   simp at this ⊢
   lia
theorem ZkW{t:T}{f:Fil}(ht:t.size<=120)(hf:f.length<=5)(hs:∀ p∈f,Gv p.2):Wok 301 (t,fen f)/\(sub f.ar t).size<=300000:=by
 have:=Zrs (t:=t) (f:=f) fun p hp=>by have:=(hs p hp).2.1;lia
 refine ⟨⟨?_,fun q hq v e=>?_⟩,by lia⟩
 . have:(fen f).length=f.length:=by simp [fen]
   simp only
   lia
 . obtain ⟨p,hp,rfl⟩:=List.mem_map.mp hq;cases e;refine ⟨fun x e=>?_,?_,trivial⟩
   . have c:=(hs p hp).1;rw [e] at c;cases c
   . have:=(hs p hp).2.1;show 0+2 * p.2.size<=602
     lia
theorem Zoz(f:Fil):Zad f.kv=some (f.map (·.1)):=by
 induction f with
 | nil=>rfl
 | cons p f ih=>show (Zad (Fil.kv f)).map _=_;rw [ih];rfl
theorem ZmP{U:Tb}{f:Fil}{h:Hd}(nd:(f.map (·.1)).Nodup)(hr:h[r]? = some (.dic f.kv))(hj:h[j]? = some (.lst L)):∀ (q:Fil) (acc:List D),(∀ p∈q,p∈f)->acc.length+q.length<=1000 ->
   Zq [(j,L)] (.nm 0) (tsto U none) (ev U (.ix (.var 1) (.var 0))) ((q.map (·.1)).map .str) [none,some (.ref r)] acc h=.ok (acc++q.map fun p=>p.2.d) h
 | [],acc,_,_=>by simp [Zq,Wk.stays,hj]
 | (x,V)::q,acc,hm,hz=>by
   rw [Os] at hz;have ih:=ZmP (U:=U) nd hr hj q (acc++[V.d]) (fun p hp=>hm p (.tail _ hp)) (by simp;lia);have z:ev U (.ix (.var 1) (.var 0)) [some (.str x),some (.ref r)] h=.ok V.d h:=(ZJ rfl rfl).trans (by simp [ZaE,dicOf,hr,Zea nd (hm (x,V) (.head _))]);have st:Wk.stays [(j,L)] h=true:=by simp [Wk.stays,hj]
   rw [Op,Op,Zx,if_pos ⟨st,by rw [sizeLine_eq];lia⟩];show (ev U (.ix (.var 1) (.var 0)) [some (.str x),some (.ref r)] h).plain.bnd _=_;rw [z];show Zq [(j,L)] (.nm 0) (tsto U none) (ev U (.ix (.var 1) (.var 0))) ((q.map (·.1)).map .str) [none,some (.ref r)] (acc++[V.d]) h=_;rw [ih];simp
theorem ZmI{GD}{h:Hd}{f:Fil}(nd:(f.map (·.1)).Nodup)(gv:∀ p∈f,Gv p.2)(ha:h[a]? = some (.fdic f.kv))(hb:h[b]? = some (.dic f.kv)):ZgH GD (.ref a) (.ref b) h=.ok (.bl false) h:=by
 simp only [ZgH,dicOf,ha,hb];rw [if_pos];refine ⟨trivial,OC.mpr fun p hp=>?_⟩;obtain ⟨q,hq,rfl⟩:=List.mem_map.mp hp;obtain ⟨y,e1,e2,e3⟩:=ZfZ (rd:=Zdu h 4) q.2.d (Zak q.2).1;have dq:=(Zak q.2).2;have:=(gv q hq).2.2;unfold Zp9;rw [Zea nd (x:=q.1) (V:=q.2) hq,decide_eq_true rfl,show ZdZ h q.2.d=some y from e1];simp only [Bool.true_and,e3,Bool.and_true];exact decide_eq_true (by lia)
noncomputable def oth(ns fs:List Str):Fil:=(ns.filter fun x=>!decide (x∈fs)).map fun x=>(x,T.num 7)
theorem Zey(ns fs:List Str):(oth ns fs).map (·.1)=ns.filter fun x=>!decide (x∈fs):=by simp [oth,Function.comp_def]
theorem Zpw{U:Tb}{fs ns:List Str}{h0:Hd}(hm:h0[m]? = some (.lst (ns.map .str)))(hf:h0[q]? = some (.lst (fs.map .str))):∀ (ys xs:List Str) (o:Option D),(xs++ys).Nodup->xs.length+ys.length<=100 ->
   ∃ o',ZG [(m,ns.map .str)] (.nm 12) (xs2 U Zhi) (ys.map .str) (v12 ro o1 o2 o3 o4 o5 o6 o7 o8 o9 (some (.ref q)) (some (.ref h0.length)) o) (h0++[.dic (oth xs fs).kv])=.ok (.nx,v12 ro o1 o2 o3 o4 o5 o6 o7 o8 o9 (some (.ref q)) (some (.ref h0.length)) o') (h0++[.dic (oth (xs++ys) fs).kv])
 | [],xs,o,_,_=>⟨o,by rw [List.append_nil];exact ZjK (Zk hm)⟩
 | y::ys,xs,o,nd,hz=>by
   rw [Os] at hz;obtain ⟨o',e⟩:=Zpw (U:=U) (ro:=ro) (o1:=o1) (o2:=o2) (o3:=o3) (o4:=o4) (o5:=o5) (o6:=o6) (o7:=o7) (o8:=o8) (o9:=o9) hm hf ys (xs++[y]) (some (.str y)) (by simpa using nd) (by simp;lia);rw [show xs++[y]++ys=xs++y::ys by simp] at e;refine ⟨o',(Zmx (Zk hm) (ρ1:=v12 ro o1 o2 o3 o4 o5 o6 o7 o8 o9 (some (.ref q)) (some (.ref h0.length)) (some (.str y))) rfl ?_).trans e⟩;have tt:tst U Ze7 (v12 ro o1 o2 o3 o4 o5 o6 o7 o8 o9 (some (.ref q)) (some (.ref h0.length)) (some (.str y))) (h0++[.dic (oth xs fs).kv])=.ok (!decide (y∈fs)) (h0++[.dic (oth xs fs).kv]):=Zbu ((Zv rfl rfl).trans (ZdO (Zk hf)));by_cases hy:y∈fs
   . have eo:oth (xs++[y]) fs=oth xs fs:=by simp [oth,hy]
     rw [eo];exact (Za ((Zu (Zm tt (by simp [hy]))).trans rfl)).trans rfl
   . have eo:oth (xs++[y]) fs=oth xs fs++[(y,.num 7)]:=by simp [oth,hy]
     have ny:y ∉ (oth xs fs).map (·.1):=by
       rw [Zey];intro m;have:=(List.mem_filter.mp m).1;exact (List.nodup_append.mp nd).2.2 y this y (.head _) rfl
     have ll:(oth xs fs).length<=xs.length:=by unfold oth;rw [List.length_map];exact List.length_filter_le _ _
     rw [eo];refine (Za ((Zy (Zm tt (by simp [hy]))).trans ((Za (Zlx (x:=(T.num 7).d) (y:=.ref h0.length) (z:=.str y) rfl rfl rfl ((Zly (kvs:=(oth xs fs).kv) (by simp) (by rw [sizeLine_eq];simp [Fil.kv];lia)).trans ?_))).trans rfl))).trans rfl;rw [Zmj ny];simp
theorem ZsG (H:Lw P) (zs:List Int) (hz:zs.length<=63):∃ h',run P (250+1) (O "law") [.ro (zs.map .int)] []=.ok (.bl true) h':=by
 rw [Zj H.law rfl];cases Zqp H zs hz with
 | mk ns t h6 o1 o2 o4 m e hm n5 nok nnd ct sz dt =>
 obtain ⟨c0,e70⟩:=ZnE H 249 zs h6;have e71:=Gn.Zet H.m 249 c0 1 h6 (by decide);obtain ⟨g7,f,r,e7,d7,fl,_⟩:=Zkk H 248 (Gn.mixed c0 1) n5 nnd hm;generalize D.ro (zs.map .int)=ro at *;have x7:xs1 (P.tbl 250) Zj2 (v12 ro o1 o2 (some (.ref m)) o4 (some t.d) none none none none none none none) h6=.ok (.nx,v12 ro o1 o2 (some (.ref m)) o4 (some t.d) (some (.ref r)) none none none none none none) (h6++g7):=Zl (i:=6) (ZC e7 (Zb (ZC e71 (Zb (ZC e70 rfl) rfl)) rfl));have m7:(h6++g7)[m]? = some (.lst (ns.map .str)):=Zk hm;generalize h6++g7=h7 at x7 d7 m7;have x8:xs1 (P.tbl 250) Zj1 (v12 ro o1 o2 (some (.ref m)) o4 (some t.d) (some (.ref r)) none none none none none none) h7=.ok (.nx,v12 ro o1 o2 (some (.ref m)) o4 (some t.d) (some (.ref r)) (some (.ref h7.length)) none none none none none) (h7++[.dic f.kv]):=Zl (i:=7) (Zgj (Zb rfl rfl) (by show Zm3 [.ref r] h7=_;simp only [Zm3,d7];rfl));have kok:(f.map (·.1)).all PyData.strOk=true:=OC.mpr fun x hx=>by
   obtain ⟨p,hp,rfl⟩:=List.mem_map.mp hx;exact (nok _ (fl.mem p hp)).1
 generalize eh8:h7++[DO.dic f.kv]=h8 at x8;have r8:h8[r]? = some (.dic f.kv):=by rw [<- eh8];exact Zk d7
 have a8:h8[h7.length]? = some (.dic f.kv):=by rw [<- eh8];simp
 have m8:h8[m]? = some (.lst (ns.map .str)):=by rw [<- eh8];exact Zk m7
 generalize ea:h7.length=a at x8 a8;have ra:r<a:=by rw [<- ea];exact Gn.Zi d7
 have x9:xs1 (P.tbl 250) Zj0 (v12 ro o1 o2 (some (.ref m)) o4 (some t.d) (some (.ref r)) (some (.ref a)) none none none none none) h8=.ok (.nx,v12 ro o1 o2 (some (.ref m)) o4 (some t.d) (some (.ref r)) (some (.ref a)) (some (.ref h8.length)) none none none none) (h8++[.lst ((f.map (·.1)).map .str)]):=Zl (i:=8) (Zgj (Zb rfl rfl) (by
   show Zm2 P.GD [.ref r] h8=_;simp only [Zm2,dicOf,r8,Option.bind_some,Zoz];rw [if_pos kok];rfl))
 generalize eh9:h8++[DO.lst ((f.map (·.1)).map .str)]=h9 at x9;have r9:h9[r]? = some (.dic f.kv):=by rw [<- eh9];exact Zk r8
 have a9:h9[a]? = some (.dic f.kv):=by rw [<- eh9];exact Zk a8
 have m9:h9[m]? = some (.lst (ns.map .str)):=by rw [<- eh9];exact Zk m8
 have k9:h9[h8.length]? = some (.lst ((f.map (·.1)).map .str)):=by rw [<- eh9];simp
 generalize h8.length=k at x9 k9;have fle:=fl.le;have cv:=ZmP (U:=P.tbl 250) fl.nd r9 k9 f [] (fun p hp=>hp) (by simp;lia);obtain ⟨g10,e10⟩:=Zlt H 21 228 t f (h9++[.lst (f.map fun p=>p.2.d)]) k h9.length dt fl.nd (by lia) (Zk k9) (by simp);have x10:xs1 (P.tbl 250) ZhY (v12 ro o1 o2 (some (.ref m)) o4 (some t.d) (some (.ref r)) (some (.ref a)) (some (.ref k)) none none none none) h9=.ok (.nx,v12 ro o1 o2 (some (.ref m)) o4 (some t.d) (some (.ref r)) (some (.ref a)) (some (.ref k)) (some (sub f.ar t).d) none none none) (h9++[.lst (f.map fun p=>p.2.d)]++g10):=Zl (i:=9) (ZC e10 (Zb rfl (Zb rfl (Zb (ZeY (ZdF rfl k9) cv) rfl))));have r10:(h9++[.lst (f.map fun p=>p.2.d)]++g10)[r]? = some (.dic f.kv):=Zk (Zk r9);have a10:(h9++[.lst (f.map fun p=>p.2.d)]++g10)[a]? = some (.dic f.kv):=Zk (Zk a9);have m10:(h9++[.lst (f.map fun p=>p.2.d)]++g10)[m]? = some (.lst (ns.map .str)):=Zk (Zk m9);generalize h9++[DO.lst (f.map fun p=>p.2.d)]++g10=h10 at x10 r10 a10 m10;obtain ⟨w1,w2⟩:=ZkW sz fle fl.gv;obtain ⟨g11,e11⟩:=Zif H.t H.pi 246 t f fl.nd (by lia) a10 (by decide) (by decide) w1 w2;have am:a≠m:=fun e=>by rw [e,m10] at a10;cases a10
 have a11:(h10.set a (.fdic f.kv)++g11)[a]? = some (.fdic f.kv):=Zk (by rw [Ol (Gn.Zi a10)]);have r11:(h10.set a (.fdic f.kv)++g11)[r]? = some (.dic f.kv):=Zk (by rw [Oc (by lia)];exact r10);have m11:(h10.set a (.fdic f.kv)++g11)[m]? = some (.lst (ns.map .str)):=Zk (by rw [Oc am];exact m10);generalize h10.set a (.fdic f.kv)++g11=h11 at e11 a11 r11 m11;have ds:dep (sub f.ar t)<=24:=by
   have:=Zat (M:=3) t f.ar fun x V e=>(fl.gv (x,V) (ZeK f e)).2.2
   lia
 have pu:=Zak (sub f.ar t);have ptt:=Zak t;have x11:xs1 (P.tbl 250) ZhX (v12 ro o1 o2 (some (.ref m)) o4 (some t.d) (some (.ref r)) (some (.ref a)) (some (.ref k)) (some (sub f.ar t).d) none none none) h10=.ok (.nx,v12 ro o1 o2 (some (.ref m)) o4 (some t.d) (some (.ref r)) (some (.ref a)) (some (.ref k)) (some (sub f.ar t).d) none none none) h11:=by
   refine (Zu (Zg4 (Zbu (b:=false) ((Zv (ZC e11 rfl) rfl).trans (Zim.trans (Zdx (n:=true) pu.1 (by lia))))) (Zbu (b:=false) ?_))).trans rfl;rw [Zrx];exact ZmI fl.nd fl.gv a11 r11
 obtain ⟨g12,q12,e12,d12⟩:=Zps H 21 228 t [] h11.length (h11++[.lst []]) dt (by simp) (by lia) (by simp);have fm:∀ x,x∈frb t []↔x∈lf t:=fun x=>by rw [Zar];simp
 have sub3:∀ x∈lf t,x∈ns:=fun x hx=>List.mem_of_mem_take (ZcB ct x hx);have dl:∀ l:List Str,(∀ x∈l,x∈ns)->(ddS l).length<64:=fun l hl=>by
   have:=Zha (ddS l) ns (Zhy _) fun x hx=>hl x ((Zb5 x _).mp hx)
   lia
 have fle2:=Zaf t [];have x12:xs1 (P.tbl 250) ZhV (v12 ro o1 o2 (some (.ref m)) o4 (some t.d) (some (.ref r)) (some (.ref a)) (some (.ref k)) (some (sub f.ar t).d) none none none) h11=.ok (.nx,v12 ro o1 o2 (some (.ref m)) o4 (some t.d) (some (.ref r)) (some (.ref a)) (some (.ref k)) (some (sub f.ar t).d) (some (.ref (h11++[DO.lst []]++g12).length)) none none) (h11++[.lst []]++g12++[.lst ((ZQ (ddS (frb t []))).map .str)]):=Zl (i:=10) (ZtE (ZC e12 (Zb rfl (Zb (ZeX (xs:=[]) rfl (Nat.zero_le _)) rfl))) d12 (by lia) (dl _ fun x hx=>sub3 x ((fm x).mp hx)) fun x hx=>(nok x (sub3 x ((fm x).mp hx))).1);have es:ZQ (ddS (frb t []))=ZQ (ddS (lf t)):=Zft (Zej (Zhy _) fun x=>(Zb5 x _).trans (fm x));rw [es] at x12;generalize eF:ZQ (ddS (lf t))=F at x12;have m12:(h11++[.lst []]++g12++[.lst (F.map .str)])[m]? = some (.lst (ns.map .str)):=Zk (Zk (Zk m11));have f12:(h11++[.lst []]++g12++[.lst (F.map .str)])[(h11++[DO.lst []]++g12).length]? = some (.lst (F.map .str)):=by simp
 generalize (h11++[DO.lst []]++g12).length=q at x12 f12;generalize h11++[DO.lst []]++g12++[.lst (F.map .str)]=h12 at x12 m12 f12;obtain ⟨g13,e13⟩:=Zqd H.f 248 t h12 (by lia) (by lia) (fun x hx=>(nok x (sub3 x hx)).1) (dl _ sub3);rw [eF] at e13;have q13:IV.ZaR true (.ref (h12++g13).length) (.ref q) (h12++g13++[.lst (F.map .str)])=.ok (.bl false) (h12++g13++[.lst (F.map .str)]):=Zky (n:=true) (ss:=F) (by simp) (Zk (Zk f12));have m13:(h12++g13++[.lst (F.map .str)])[m]? = some (.lst (ns.map .str)):=Zk (Zk m12);have f13:(h12++g13++[.lst (F.map .str)])[q]? = some (.lst (F.map .str)):=Zk (Zk f12);generalize h12++g13++[DO.lst (F.map .str)]=h13 at e13 q13 m13 f13;obtain ⟨w3,w4⟩:=ZkW (t:=t) (f:=[]) sz (Nat.zero_le _) (by simp);obtain ⟨g14,e14⟩:=Zif H.t H.pi 246 t [] (h:=h13++[.dic []]) (dk:=h13.length) (by simp) (by simp) (by simp [Fil.kv]) (by decide) (by decide) w3 w4;rw [show sub (Fil.ar []) t=t from ZaO t fun x=>rfl] at e14;have sw:(h13++[DO.dic []]).set h13.length (.fdic (Fil.kv []))++g14=h13++(.fdic (Fil.kv [])::g14):=by simp
 rw [sw] at e14;have x13:xs1 (P.tbl 250) ZhU (v12 ro o1 o2 (some (.ref m)) o4 (some t.d) (some (.ref r)) (some (.ref a)) (some (.ref k)) (some (sub f.ar t).d) (some (.ref q)) none none) h12=.ok (.nx,v12 ro o1 o2 (some (.ref m)) o4 (some t.d) (some (.ref r)) (some (.ref a)) (some (.ref k)) (some (sub f.ar t).d) (some (.ref q)) none none) (h13++(.fdic (Fil.kv [])::g14)) :=
   (Zu (Zg4 (Zbu (b:=false) ((Zv (ZC e13 rfl) rfl).trans (Zim.trans q13))) (Zbu (b:=false) ((Zv (ZC e14 (Zb rfl (Zb (x:=.ref h13.length) (h1:=h13++[.dic []]) rfl rfl))) rfl).trans (Zim.trans (Zdx (n:=true) ptt.1 (by lia))))))).trans rfl
 have m14:(h13++(.fdic (Fil.kv [])::g14))[m]? = some (.lst (ns.map .str)):=Zk m13;have f14:(h13++(.fdic (Fil.kv [])::g14))[q]? = some (.lst (F.map .str)):=Zk f13;generalize h13++(DO.fdic (Fil.kv [])::g14)=h14 at x13 m14 f14;obtain ⟨o15,e15⟩:=Zpw (U:=P.tbl 250) (ro:=ro) (o1:=o1) (o2:=o2) (o3:=some (.ref m)) (o4:=o4) (o5:=some t.d) (o6:=some (.ref r)) (o7:=some (.ref a)) (o8:=some (.ref k)) (o9:=some (sub f.ar t).d) m14 f14 ns [] none (by simpa using nnd) (by simp;lia);rw [OB] at e15;have x15:xs1 (P.tbl 250) ZhS (v12 ro o1 o2 (some (.ref m)) o4 (some t.d) (some (.ref r)) (some (.ref a)) (some (.ref k)) (some (sub f.ar t).d) (some (.ref q)) (some (.ref h14.length)) none) (h14++[.dic []])=_:=(ZcU (ZdF (i:=m) rfl (Zk m14))).trans e15;have onl:(oth ns F).length<=5:=by unfold oth;rw [List.length_map];have:=List.length_filter_le (fun x=>!decide (x∈F)) ns;lia
 obtain ⟨w5,w6⟩:=ZkW (t:=t) (f:=oth ns F) sz onl (fun p hp=>by
   obtain ⟨x,_,rfl⟩:=List.mem_map.mp hp;exact ⟨⟨by decide,by decide⟩,by simp [T.size,T.places],by simp [dep]⟩)
 obtain ⟨g16,e16⟩:=Zif H.t H.pi 246 t (oth ns F) (h:=h14++[.dic (oth ns F).kv]) (dk:=h14.length) (by rw [Zey];exact List.Pairwise.filter _ nnd) (by lia) (by simp) (by decide) (by decide) w5 w6;have st:sub (oth ns F).ar t=t:=ZY t _ fun x hx=>by
   cases eg:Tm.get (oth ns F).ar x with
   | none=>rfl
   | some V =>
     have mk:x∈(oth ns F).map (·.1):=List.mem_map.mpr ⟨_,ZeK _ eg,rfl⟩;rw [Zey] at mk;have nf:=(List.mem_filter.mp mk).2;have:x∈F:=by rw [<- eF,(Z6 _).mem_iff,Zb5];exact hx
     simp [this] at nf
 rw [st] at e16;have x16:xs1 (P.tbl 250) ZhR (v12 ro o1 o2 (some (.ref m)) o4 (some t.d) (some (.ref r)) (some (.ref a)) (some (.ref k)) (some (sub f.ar t).d) (some (.ref q)) (some (.ref h14.length)) o15) (h14++[.dic (oth ns F).kv])=.ok (.rt (.bl true),_) _:=ZD ((Zv (ZC e16 rfl) rfl).trans (Zin.trans (Zdx (n:=false) ptt.1 (by lia))));have w:xs2 (P.tbl 250) ZpM (v12 ro none none none none none none none none none none none none) []=.ok (.rt (.bl true),_) _:=(e _).trans ((Za x7).trans ((Za x8).trans ((Za x9).trans ((Za x10).trans ((Za x11).trans ((Za x12).trans ((Za x13).trans ((Za (Zl (i:=11) (d:=.ref h14.length) (h1:=h14++[.dic []]) rfl)).trans ((Za x15).trans (Zc x16))))))))));exact ⟨_,congrArg Zt w⟩
end K12L
end
section
set_option maxHeartbeats 4000000
namespace K12
open PySem L2 IV PyProof.Rows
noncomputable def ZrO:Sxs:=(.cons .any .nil)
noncomputable def Zrt:Fd:=⟨[(O "k")],[(O "k")],ZrO⟩
noncomputable def ZgG:Sxs:=(.cons (.drp (.call (O "_wall") (.cons (.cst (.int 0)) .nil))) .nil)
noncomputable def Zgg:Fd:=⟨[(O "self"),(O "front"),(O "parts")],[(O "self"),(O "front"),(O "parts")],ZgG⟩
noncomputable def ZiV:Sxs:=(.cons (.set (.nm 2) (.call (O "opened") (.cons (.var 1) .nil))) (.cons (.ret (.mcl (O "Pen") (O "filled") (.var 0) (.cons (.ix (.var 2) (.cst (.int 0))) (.cons (.ix (.var 2) (.cst (.int 1))) .nil)))) .nil))
noncomputable def ZiJ:Fd:=⟨[(O "self"),(O "thing")],[(O "self"),(O "thing"),(O "pair")],ZiV⟩
noncomputable def cG:List (Str×D):=[((O "FORMS"),.kd (O "FORMS"))]
noncomputable def cD:List (Str×List (Key×D)):=[((O "FORMS"),[(.inr (O "fn"),(.tup [(.int 1),(.int 1)])),(.inr (O "rec"),(.tup [(.int 2),(.int 1)])),(.inr (O "call"),(.tup [(.int 0),(.int 2)])),(.inr (O "if"),(.tup [(.int 0),(.int 3)])),(.inr (O "+"),(.tup [(.int 0),(.int 2)])),(.inr (O "-"),(.tup [(.int 0),(.int 2)])),(.inr (O "*"),(.tup [(.int 0),(.int 2)])),(.inr (O "<"),(.tup [(.int 0),(.int 2)]))])]
noncomputable def dl:List (Str×Fd×Nat):=[((O "_wall"),Zrt,0),((O "bound_names"),Tm.Zas,6),((O "parts_of"),Gn.ZeP,7),((O "front_of"),Tm.ZeS,8),((O "count_parts"),Tm.ZcI,9),((O "built"),Tm.Zgf,10),((O "free_names"),K02L.Zdd,11),((O "bound_to"),Tm.ZeT,13),((O "opened"),Tm.Zhs,14),((O "meant_by"),Tm.ZbI,15),((O "within"),Tm.ZeN,16),((O "put_in"),Tm.ZeO,19),((O "_law_cell_at"),K12L.ZcH,21),((O "_law_mixed"),Gn.Zb2,22),((O "_law_next"),Gn.ZeQ,23),((O "_law_names"),Gn.Zb1,24),((O "_law_there"),Gn.Zb0,25),((O "_law_plain"),Gn.ZdS,26),((O "_law_function"),Gn.Zb3,27),((O "_law_number"),Gn.Zdc,28),((O "_law_any"),Gn.Zcs,29),((O "_law_width"),Gn.Zbb,30),((O "_law_put"),K12L.ZfC,31),((O "_law_filling"),K12L.ZcG,32),((O "_law_free"),K12L.ZeR,33),((O "law"),K12L.Zht,34)]
noncomputable def tb:List (Str×Fd):=dl.map fun p=>(p.1,p.2.1)
noncomputable def mo1:List Ml:=[((O "take_place"),(O "Pen.take_place"),Tm.ZdE,17,1),((O "joined"),(O "Pen.joined"),Zgg,17,2),((O "filled"),(O "Pen.filled"),Tm.Zde,17,3),((O "told"),(O "Pen.told"),ZiJ,17,4)]
noncomputable def ms:List (Str×Fd):=[(mnm (O "Pen") (O "__init__"),Tm.Zag)]++mo1.map (fun p=>(mnm (O "Pen") p.1,p.2.2.1))
noncomputable def pg:Pg:=⟨tb,fun x=>cG.lookup x,fun x=>cD.lookup x,1000000,ms⟩
noncomputable def kl:Kl:=⟨[(O "Pen")],[(O "most"),(O "used")],mo1.map (fun p=>((O "Pen"),p.1)),[(O "Pen")],[],[]⟩
noncomputable abbrev Zht:Fd:=K12L.Zht
noncomputable def top(i:Nat):Stmt:=PySem.Challenge.pw_samestride_k12_put_in.main.body.getD i (.Pass ⟨0,0,0,0⟩)
noncomputable def mt(i j:Nat):Stmt:=inClass (top i) j
noncomputable def fs:List Str:=tb.map (·.1)
local macro_rules|`(tactic| wtm_at "al")=>`(tactic| repeat' first|exact trivial|refine' And.intro ?_ ?_)
local macro_rules|`(tactic| wtm_at "chk")=>`(tactic| exact ⟨by constructor<;>decide +kernel,fun _ _ _ _ _ _ us hl=>by
   first
   | (have e:=Zsf (show us.length=0 from hl);subst e;rfl)
   | (obtain ⟨a0,e⟩:=Zse (show us.length=1 from hl);subst e;rfl)
   | (obtain ⟨a0,a1,e⟩:=Zsd (show us.length=2 from hl);subst e;rfl)
   | (obtain ⟨a0,a1,a2,e⟩:=Zsc (show us.length=3 from hl);subst e;rfl)
   | (obtain ⟨a0,a1,a2,a3,e⟩:=Zsb (show us.length=4 from hl);subst e;rfl)
   | (obtain ⟨a0,a1,a2,a3,a4,e⟩:=Zsa (show us.length=5 from hl);subst e;rfl)
   | (obtain ⟨a0,a1,a2,a3,a4,a5,e⟩:=Zt7 (show us.length=6 from hl);subst e;rfl)
   | (obtain ⟨a0,a1,a2,a3,a4,a5,a6,e⟩:=us_7 (show us.length=7 from hl);subst e;rfl),by decide +kernel⟩)
theorem kd:All (fun p:Str×Fd×Nat=>Chk kl fs p.1 p.1 p.2.1 (top p.2.2)) dl:=by
 wtm_at "al"
 all_goals wtm_at "chk"
theorem km1:All (fun p:Ml=>Chk kl fs p.1 p.2.1 p.2.2.1 (mt p.2.2.2.1 p.2.2.2.2)) mo1:=by
 wtm_at "al"
 all_goals wtm_at "chk"
theorem kk1:All (fun p:Ml=>pg.look (mnm (O "Pen") p.1)=some p.2.2.1) mo1:=by
 wtm_at "al"
 all_goals kernel_rfl
theorem ki1:Chk kl fs (O "__init__") (O "Pen.__init__") Tm.Zag (mt 17 0):=by wtm_at "chk"
end K12
end
section
namespace K12
open PySem L2 IV
theorem Zq7:pg.tb.lookup (O "law")=some Zht:=by kernel_rfl
theorem mk0:Gn.Mk0 pg:=⟨by kernel_rfl,by kernel_rfl,by kernel_rfl,by kernel_rfl,by kernel_rfl,.same (by kernel_rfl),.same (by kernel_rfl),.same (by kernel_rfl),by kernel_rfl⟩
theorem tre:Gn.Tre pg:=by
 constructor
 all_goals (first|kernel_rfl|decide)
theorem trb:Tm.Trb pg:=by
 constructor
 case toTre=>exact tre
 case tk=>exact ⟨.any,by kernel_rfl⟩
 all_goals kernel_rfl
theorem fre:Fr.Fre pg:=by
 constructor;exact tre
 all_goals kernel_rfl
theorem lw:K12L.Lw pg:=by
 constructor
 case t=>exact trb
 case f=>exact fre
 case m=>exact mk0
 all_goals kernel_rfl
theorem runs:∀ ns:List Int,ns.length<=63->∃ h',run pg (250+1) (O "law") [.ro (ns.map .int)] []=.ok (.bl true) h':=fun ns hl=>K12L.ZsG lw ns hl
end K12
end
section
set_option maxHeartbeats 4000000
namespace K12
open PySem L2 IV PyProof.Rows
theorem tp2 {K:PySem.W.Frag} (h:K.lookup a=some ⟨.type "tuple",od,.seq #[.int x t,.int y u] n,sl⟩):RD ⟨K,mg⟩ H B (.tup [.int x,.int y]) (.ref a):=.tup (ZsA (vs:=[.int x,.int y]) h (by show 2<=sizeLine;decide) (.cons ZgW (.cons ZgW .nil))) (.cons (.int _) (.cons (.int _) .nil))
theorem md{Pr:Program}{w:World}{K:PySem.W.Frag}{h:Heap}{mg:Str->Option Value}(X:K.In h)(G:h.Ns mainGlobals mg)
   (tb0:Zbx K=true)
   (dd:All (fun p:Str×Fd×Nat=>ZrZ K p.1 (top p.2.2)) dl)
   (y1a:PySem.W.nsIn K mainGlobals (O "Pen")=some (some (.ref ca1))) (y1b:Cls K ca1)
   (n1:All (fun f=>PySem.W.findIn K (.ref ca1) f=some none) kl.ats)
   (y1m:PySem.W.makesIn K ca1=true) (y1k:PySem.W.keepIn K (.ref ca1)=true)
   (i1:Zna K ca1 (O "__init__") (O "Pen.__init__") (mt 17 0))
   (u1:All (fun p:Ml=>Zna K ca1 p.1 p.2.1 (mt p.2.2.2.1 p.2.2.2.2)) mo1)
   (zz:All (fun x:Str=>PySem.W.nsIn K mainGlobals x=some none) ZjZ)
   (h112:K.lookup q108=some ⟨.type "tuple",r109,.seq #[.int 1 t113,.int 1 t114] n110,v111⟩)
   (h121:K.lookup q117=some ⟨.type "tuple",r118,.seq #[.int 2 t122,.int 1 t123] n119,v120⟩)
   (h130:K.lookup q126=some ⟨.type "tuple",r127,.seq #[.int 0 t131,.int 2 t132] n128,v129⟩)
   (h139:K.lookup q135=some ⟨.type "tuple",r136,.seq #[.int 0 t140,.int 3 t141] n137,v138⟩)
   (h148:K.lookup q144=some ⟨.type "tuple",r145,.seq #[.int 0 t149,.int 2 t150] n146,v147⟩)
   (h157:K.lookup q153=some ⟨.type "tuple",r154,.seq #[.int 0 t158,.int 2 t159] n155,v156⟩)
   (h166:K.lookup q162=some ⟨.type "tuple",r163,.seq #[.int 0 t167,.int 2 t168] n164,v165⟩)
   (h175:K.lookup q171=some ⟨.type "tuple",r172,.seq #[.int 0 t176,.int 2 t177] n173,v174⟩)
   (g103:PySem.W.nsIn K mainGlobals (O "FORMS")=some (some (.ref q101)))
   (h104:K.lookup q101=some ⟨.type "dict",none,.dict #[⟨j106,.str (O "fn") t107,.ref q108⟩,⟨j115,.str (O "rec") t116,.ref q117⟩,⟨j124,.str (O "call") t125,.ref q126⟩,⟨j133,.str (O "if") t134,.ref q135⟩,⟨j142,.str (O "+") t143,.ref q144⟩,⟨j151,.str (O "-") t152,.ref q153⟩,⟨j160,.str (O "*") t161,.ref q162⟩,⟨j169,.str (O "<") t170,.ref q171⟩] e102,#[]⟩)
   (x178:j106=hashStr w (O "fn"))
   (x179:j115=hashStr w (O "rec"))
   (x180:j124=hashStr w (O "call"))
   (x181:j133=hashStr w (O "if"))
   (x182:j142=hashStr w (O "+"))
   (x183:j151=hashStr w (O "-"))
   (x184:j160=hashStr w (O "*"))
   (x185:j169=hashStr w (O "<"))
   (w105:(q101==sysModules)=false):Md Pr w K mg pg kl:=by
 have D_FORMS:∃ a kvs',mg (O "FORMS")=some (.ref a)/\DkK Pr w K a kvs'/\∀ H B,RKs ⟨K,mg⟩ H B (cD.lookup (O "FORMS") |>.getD []) kvs':=by
   refine ⟨q101,[(Sum.inr (O "fn"),(.ref q108)),(Sum.inr (O "rec"),(.ref q117)),(Sum.inr (O "call"),(.ref q126)),(Sum.inr (O "if"),(.ref q135)),(Sum.inr (O "+"),(.ref q144)),(Sum.inr (O "-"),(.ref q153)),(Sum.inr (O "*"),(.ref q162)),(Sum.inr (O "<"),(.ref q171))],PySem.W.mg_of X G g103,⟨_,_,_,[(Sum.inr (O "fn"),.ref q108),(Sum.inr (O "rec"),.ref q117),(Sum.inr (O "call"),.ref q126),(Sum.inr (O "if"),.ref q135),(Sum.inr (O "+"),.ref q144),(Sum.inr (O "-"),.ref q153),(Sum.inr (O "*"),.ref q162),(Sum.inr (O "<"),.ref q171)],h104,⟨rfl,rfl,rfl⟩,rfl,?_,(.cons (Zs _ t107) rfl (.cons (Zs _ t116) rfl (.cons (Zs _ t125) rfl (.cons (Zs _ t134) rfl (.cons (Zs _ t143) rfl (.cons (Zs _ t152) rfl (.cons (Zs _ t161) rfl (.cons (Zs _ t170) rfl .nil)))))))),(by show ([Sum.inr (O "fn"),Sum.inr (O "rec"),Sum.inr (O "call"),Sum.inr (O "if"),Sum.inr (O "+"),Sum.inr (O "-"),Sum.inr (O "*"),Sum.inr (O "<")]:List Key).Nodup;decide +kernel),(.cons ⟨rfl,Zau⟩ (.cons ⟨rfl,Zau⟩ (.cons ⟨rfl,Zau⟩ (.cons ⟨rfl,Zau⟩ (.cons ⟨rfl,Zau⟩ (.cons ⟨rfl,Zau⟩ (.cons ⟨rfl,Zau⟩ (.cons ⟨rfl,Zau⟩ .nil)))))))),(by show 8<=sizeLine;decide),w105⟩,fun _ _=>(.cons (tp2 h112) (.cons (tp2 h121) (.cons (tp2 h130) (.cons (tp2 h139) (.cons (tp2 h148) (.cons (tp2 h157) (.cons (tp2 h166) (.cons (tp2 h175) .nil))))))))⟩;exact (by
       intro e he;simp only [List.mem_toArray,O2,List.not_mem_nil,or_false] at he;rcases he with rfl|rfl|rfl|rfl|rfl|rfl|rfl|rfl
       . exact ⟨Sum.inr (O "fn"),Zs (O "fn") t107,x178⟩
       . exact ⟨Sum.inr (O "rec"),Zs (O "rec") t116,x179⟩
       . exact ⟨Sum.inr (O "call"),Zs (O "call") t125,x180⟩
       . exact ⟨Sum.inr (O "if"),Zs (O "if") t134,x181⟩
       . exact ⟨Sum.inr (O "+"),Zs (O "+") t143,x182⟩
       . exact ⟨Sum.inr (O "-"),Zs (O "-") t152,x183⟩
       . exact ⟨Sum.inr (O "*"),Zs (O "*") t161,x184⟩
       . exact ⟨Sum.inr (O "<"),Zs (O "<") t170,x185⟩
     )
 refine ⟨tb0,fun x kvs hx=>?_,fun x d hx=>?_,?_,fun x fd hx=>?_,?_,?_,?_,?_,?_⟩
 . have hm:(x,kvs)∈cD:=lookup_mem hx;have e:(x,kvs)=((O "FORMS"),(cD.lookup (O "FORMS") |>.getD [])):=by
     simp only [cD,O2,List.not_mem_nil,or_false] at hm;exact hm
   cases e;exact D_FORMS
 . have hm:(x,d)∈cG:=lookup_mem hx;have all:All (fun p:Str×D=>∃ v u,mg p.1=some u/\RelV v u/\∀ H B,RD ⟨K,mg⟩ H B p.2 v) cG:=⟨⟨.ref q101,_,PySem.W.mg_of X G g103,rfl,fun _ _=>.kd (PySem.W.mg_of X G g103)⟩,trivial⟩
   exact all.mem _ hm
 . exact (Zg8 X G zz).mem
 . exact (ZjO X G dd kd).mem _ (lookup_mem hx)
 . have all:All (fun C=>∃ a,mg C=some (.ref a)/\Cls K a/\∀ f∈kl.ats,Zaq K a f) kl.cs:=⟨⟨ca1,PySem.W.mg_of X G y1a,y1b,n1.mem⟩,trivial⟩
   exact all.mem
 . exact (show All _ kl.ms from (Zju X G y1a y1b u1 km1 kk1)).mem
 . have all:All (fun C:Str=>∃ a f fdd fd st q,mg C=some (.ref a)/\Mk K a f/\pg.look (mnm C (O "__init__"))=some fd/\BodyOk K kl (pg.tb.map (·.1)) (O "__init__") q fd st f fdd) kl.is:=⟨ZqT X G y1a y1m y1k i1 ki1 (by kernel_rfl),trivial⟩
   exact all.mem
 . have all:All (fun C:Str=>∃ a,mg C=some (.ref a)/\XOk K a) kl.xs:=trivial;exact all.mem
 . have all:All (fun p:Str×Str=>∃ a b,mg p.1=some (.ref a)/\mg p.2=some (.ref b)/\XAs K a b) kl.xa:=trivial;exact all.mem
end K12
end
section
set_option maxHeartbeats 4000000
open PySem PySem.W PyProof.Rows
local macro_rules|`(tactic| wtm_at "al")=>`(tactic| repeat' first|exact trivial|refine' And.intro ?_ ?_)
local macro_rules|`(tactic| wtm_at "dg")=>`(tactic| (refine' ⟨_,_,?na,L2.Zmv ?l ?c ?k⟩;(case na=>k_is);(case l=>k_is);(case c=>k_is);(case k=>k_is)))
local macro_rules|`(tactic| wtm_at "mg")=>`(tactic| (refine' ⟨_,_,?na,?f,?k,L2.Zmv ?l ?c ?kk⟩;(case na=>k_is);(case f=>k_is);(case l=>k_is);(case c=>k_is);(case k=>k_is);(case kk=>k_is)))
set_option maxRecDepth 100000 in
set_option maxHeartbeats 0 in
theorem PySem.Challenge.cw_samestride_k12_put_in_holds : PySem.Challenge.rw_samestride_k12_put_in.Holds := by
 refine K12hd ?_
 k_fill
 refine IV.Zr9 (l:=PySem.Challenge.rw_samestride_k12_put_in) (P:=K12.pg) 250 rfl rfl rfl ⟨rfl,by decide,by decide,rfl⟩ (kl:=K12.kl) (fun w h Y=>PySem.W.kIn_of Y) K12.Zq7 rfl K12.runs ?MM0
 case MM0 =>
   intro w mg h KX G;refine' K12.md KX G ?tb0 ?dd ?y1a ?y1b ?n1 ?y1m ?y1k ?i1 ?u1 ?zz ?h112 ?h121 ?h130 ?h139 ?h148 ?h157 ?h166 ?h175 ?g103 ?h104 ?x178 ?x179 ?x180 ?x181 ?x182 ?x183 ?x184 ?x185 ?w105
   (case tb0=>(first|k_is|kernel_rfl|decide +kernel))
   (case y1a=>k_is)
   (case y1b=>(refine ⟨?_,?_,?_,?_⟩<;>k_is))
   (case n1=>(wtm_at "al";all_goals (dsimp only;k_is)))
   (case y1m=>k_is)
   (case y1k=>k_is)
   (case i1=>wtm_at "mg")
   (case u1=>(wtm_at "al";all_goals wtm_at "mg"))
   (case dd=>(wtm_at "al";all_goals wtm_at "dg"))
   (case zz=>(wtm_at "al";all_goals (dsimp only;k_is)))
   (case g103=>k_is)
   (case h104=>k_is)
   (case h112=>k_is)
   (case h121=>k_is)
   (case h130=>k_is)
   (case h139=>k_is)
   (case h148=>k_is)
   (case h157=>k_is)
   (case h166=>k_is)
   (case h175=>k_is)
   (case x178=>(first|rfl|k_is|fail))
   (case x179=>(first|rfl|k_is|fail))
   (case x180=>(first|rfl|k_is|fail))
   (case x181=>(first|rfl|k_is|fail))
   (case x182=>(first|rfl|k_is|fail))
   (case x183=>(first|rfl|k_is|fail))
   (case x184=>(first|rfl|k_is|fail))
   (case x185=>(first|rfl|k_is|fail))
   (case w105=>rfl)
end
