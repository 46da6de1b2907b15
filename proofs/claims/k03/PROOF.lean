import PyProof.Rows.All
import Wide.All
import OpenK.AllK
import Wide.FinOn
import PyProof.EqAt
import PyProof.EqKinds
import PyProof.TupleCall
import Lean
import PySem.Challenge.RW_samestride_k03_read_and_shown
set_option Elab.async false
set_option linter.all false
set_option maxRecDepth 100000
open PySem.Str renaming ofString->O
open Bool renaming and_eq_true->Oa
open List renaming getElem?_eq_some_iff->Ob
open List renaming getElem?_set_ne->Oc
open PySem.Heap renaming get?_push_of_some->Od
open List renaming getElem?_append_left->Oe
open List renaming size_toArray->Of
open List renaming getElem?_eq_getElem->Og
open List renaming mem_cons_of_mem->Oh
open List renaming mem_cons_self->Oi
open PySem.Heap renaming get?_push_size->Oj
open List renaming mem_of_getElem?->O1
open List renaming getElem?_set_self->Ol
open List renaming getElem?_append_right->Om
open List renaming getElem?_map->On
open Option renaming map_eq_some_iff->Oo
open List renaming map_cons->Op
open Nat renaming le_refl->Oq
open List renaming mem_cons->O2
open List renaming length_cons->Os
open Nat renaming lt_of_lt_of_le->Ot
open Nat renaming ne_of_lt->Ou
open List renaming mem_append_right->Ov
open Bool renaming false_ne_true->Ow
open List renaming mem_singleton->Ox
open List renaming map_nil->Oy
open List renaming append_assoc->Oz
open List renaming length_append->OA
open List renaming nil_append->OB
open List renaming all_eq_true->OC
open List renaming mem_append->OD
open Nat renaming le_trans->OE
open List renaming lookup_cons->OF
open Bool renaming false_eq_true->OG
open Nat renaming lt_succ_self->OH
open List renaming sum_cons->OI
open List renaming getElem?_cons_zero->OJ
open List renaming getElem?_cons_succ->O0
set_option genSizeOf false
section
open PySem PySem.W PyProof.Rows
set_option maxHeartbeats 0
namespace PySem.W.Fast
def tw8947441787799711200:=Nat
def tw4285485923657259868:=Nat
def tw12767027378892494923:=Nat
def tw14658726070105254783:=Nat
def tw9370811799362626209:=Nat
def tw3306179632620859148:=Nat
def tw6046722973504042671:=Nat
def tw13432180200754297289:=Nat
def tw6854256901115834516:=Nat
def tw9685023500226218901:=Nat
def tw17460358354433733990:=Nat
def tw383835891726073647:=Nat
def tw15991509230506279224:=Nat
def tw16477555123366955323:=Nat
def tw746122657505380362:=Nat
def tw16980957676943714811:=Nat
def tw16251760414910384355:=Nat
def tw3003026399933934303:=Nat
def tw1042240422943886588:=Nat
def tw4916002775090159069:=Nat
def tw13464199687147634589:=Nat
def tw10350116234393780119:=Nat
def tw6294759940984075488:=Nat
def tw3702165652996736657:=Nat
def tw17471959831884385067:=Nat
def tw7327148026838066585:=Nat
def tw5416915052007835564:=Nat
def tw7675274829795289403:=Nat
def tw9014391575479979396:=Nat
def tw16126792533143903217:=Nat
def tw13689344949788176104:=Nat
def tw2295595961025791761:=Nat
def tw11163587718301266066:=Nat
def tw3019875973820925326:=Nat
def tw12557052245760697181:=Nat
def tw1054257960737042033:=Nat
def tw446173766220514655:=Nat
def tw11760470310492118025:=Nat
def tw7643966682968334954:=Nat
def tw4239288146008307279:=Nat
def tw3482254778751155595:=Nat
def tw17181675800990154769:=Nat
def tw8587547063079632868:=Nat
def tw6348404654800545106:=Nat
def tw12904843830986748174:=Nat
def tw4302470654991706951:=Nat
def tw5864832271522562254:=Nat
def tw17518130141142995927:=Nat
def tw383980442622039:=Nat
def tw13549863551449688747:=Nat
def tw6957954390790809767:=Nat
def tw8177792297473678554:=Nat
def tw1669294161610236436:=Nat
def tw12147482008662173787:=Nat
def tw3510270778638141240:=Nat
def tw14587613655185194077:=Nat
def tw6032707808587885500:=Nat
def tw10240877583651515839:=Nat
def tw6098872444481882407:=Nat
def tw11555046860544085749:=Nat
def tw11024985439452685509:=Nat
def tw15050523734326088920:=Nat
def tw949538976263881833:=Nat
def tw8925552773203294265:=Nat
def tw16200178572906368836:=Nat
def tw17324557999920873425:=Nat
def tw14480785900591485782:=Nat
def tw17534971536976892812:=Nat
def tw15706699994740890677:=Nat
def tw16707442824680653793:=Nat
def tw9902716957559861104:=Nat
def tw1087855995797020433:=Nat
def tw11797842945957511886:=Nat
def tw16702046970597033739:=Nat
def tw9800541377344329959:=Nat
def tw10954438083189114569:=Nat
def tw6135493938824230203:=Nat
def tw10789932775054607520:=Nat
def tw1649819598113550462:=Nat
def tw12214845583943502912:=Nat
def tw7755608398081103854:=Nat
def tw1845227983417036968:=Nat
def tw12928175489652057600:=Nat
def tw12536226066825872202:=Nat
def tw716232622628430727:=Nat
def tw7167177620978417389:=Nat
def tw4173026707543677239:=Nat
def tw16412850583608665760:=Nat
def tw13362523278966935304:=Nat
def tw8493164397021529204:=Nat
def tw15595419376606257306:=Nat
def tw15375390119246437572:=Nat
def tw15222097982675233042:=Nat
def tw2227115481565932532:=Nat
def tw10862607834567306817:=Nat
def tw17053699584237603208:=Nat
def tw15664418848774444937:=Nat
def tw1587039704970377117:=Nat
def tw3539624380422045929:=Nat
def tw9487748526623965152:=Nat
def tw4461800447432148543:=Nat
def tw13789512993820689876:=Nat
def tw8088290792622913239:=Nat
def tw7128376076086276032:=Nat
def tw2141635104156373834:=Nat
def tw7029750210853761285:=Nat
def tw10550397596890699731:=Nat
def tw831336407437212298:=Nat
def tw9428693096251291287:=Nat
def tw2889411447956520689:=Nat
def tw4189762640344463376:=Nat
def tw8609597336181237366:=Nat
def tw1041466290694253475:=Nat
def tw7340996192931118761:=Nat
def tw10541397373695800593:=Nat
def tw7285632558126758358:=Nat
end PySem.W.Fast
open_top K03hd for PySem.Challenge.rw_samestride_k03_read_and_shown
end
section
namespace L2
open PySem PySem.Spec PyProof.Rows
noncomputable abbrev Key:=Sum Int Str
noncomputable def ZgJ:Key->Value->Bool
 | .inl k,v=>Value.isInt k v
 | .inr x,v=>Value.isStrOf x v
noncomputable def ZuV(w:World):Key->Int
 | .inl k=>hashInt k
 | .inr x=>hashStr w x
theorem ZA:∀ {k:Key}{v:Value},ZgJ k v=true->(∃ i t,k=Sum.inl i/\v=Value.int i t)\/(∃ x t,k=Sum.inr x/\v=Value.str x t)
 | .inl i,v,h=>by
   obtain ⟨t,e⟩:=Value.isInt_shape (k:=i) (v:=v) h;exact .inl ⟨i,t,rfl,e⟩
 | .inr x,v,h=>by
   obtain ⟨t,e⟩:=Value.isStrOf_shape (x:=x) (v:=v) h;exact .inr ⟨x,t,rfl,e⟩
theorem Zlb(i:Int)(t:Tok):ZgJ (.inl i) (.int i t)=true:=by simp [ZgJ,Value.isInt]
theorem Zr(x:Str)(t:Tok):ZgJ (.inr x) (.str x t)=true:=by simp [ZgJ,Value.isStrOf]
theorem Zrt(a b:Int):decide ((Sum.inl a:Key)=Sum.inl b)=(a==b):=by
 by_cases e:a=b
 . subst e;simp
 . have h:¬ (Sum.inl a:Key)=Sum.inl b:=fun q=>e (Sum.inl.inj q);rw [decide_eq_false h];exact (beq_eq_false_iff_ne.mpr e).symm
theorem Zrq(a b:Str):decide ((Sum.inr a:Key)=Sum.inr b)=decide (a=b):=by
 by_cases e:a=b
 . subst e;simp
 . have h:¬ (Sum.inr a:Key)=Sum.inr b:=fun q=>e (Sum.inr.inj q);rw [decide_eq_false h,decide_eq_false e]
theorem Zrs(a:Int)(b:Str):decide ((Sum.inl a:Key)=Sum.inr b)=false:=decide_eq_false (fun q=>nomatch q)
theorem Zrr(a:Str)(b:Int):decide ((Sum.inr a:Key)=Sum.inl b)=false:=decide_eq_false (fun q=>nomatch q)
noncomputable def ZF(prog:Program)(w:World):PySem.KeyKind prog w Key where
 is:=ZgJ
 hash:=ZuV w
 inj:=fun v a b ha hb=>by
   rcases ZA ha with ⟨i,t,rfl,rfl⟩|⟨x,t,rfl,rfl⟩
   . rcases ZA hb with ⟨j,u,rfl,e⟩|⟨y,u,rfl,e⟩
     . injection e with e1 _;rw [e1]
     . exact nomatch e
   . rcases ZA hb with ⟨j,u,rfl,e⟩|⟨y,u,rfl,e⟩
     . exact nomatch e
     . injection e with e1 _;rw [e1]
 byValue:=fun k v h=>by
   rcases ZA h with ⟨i,t,rfl,rfl⟩|⟨x,t,rfl,rfl⟩<;>rfl
 pyHash:=fun hv h=>by
   rcases ZA hv with ⟨i,t,rfl,rfl⟩|⟨x,t,rfl,rfl⟩
   . exact wpAny_pyHash_int h
   . exact wpAny_pyHash_str h
 eqBool:=fun hu hv h=>by
   rcases ZA hu with ⟨i,t,rfl,rfl⟩|⟨x,t,rfl,rfl⟩
   . rcases ZA hv with ⟨j,u,rfl,rfl⟩|⟨y,u,rfl,rfl⟩
     . rw [Zrt] at h;exact wpAny_eqBool_int h
     . rw [Zrs] at h;exact SeqAt.EqAt.int_str i t y u _ _ _ _ h
   . rcases ZA hv with ⟨j,u,rfl,rfl⟩|⟨y,u,rfl,rfl⟩
     . rw [Zrr] at h;exact SeqAt.EqAt.str_int x t j u _ _ _ _ h
     . rw [Zrq] at h;exact wpAny_eqBool_str h
 «strs»:=fun k x t v h=>by
   rcases ZA h with ⟨i,u,rfl,e⟩|⟨y,u,rfl,e⟩
   . exact nomatch e
   . injection e with e1 _;subst e1;cases v<;>rfl
theorem Zh0(prog:Program)(w:World)(i:Int)(t:Tok):(ZF prog w).is (.inl i) (.int i t)=true:=Zlb i t
theorem ZhZ(prog:Program)(w:World)(x:Str)(t:Tok):(ZF prog w).is (.inr x) (.str x t)=true:=Zr x t
end L2
namespace L2
open PySem PySem.Spec PyProof.Rows
inductive V where
 | non|bl (b:Bool)|int (i:Int)|str (x:Str)|byt (b:Array UInt8)|flt (b:UInt64)|ref (a:Addr)|ty (n:String)
 deriving DecidableEq
noncomputable def RelV:V->Value->Prop
 | .non,u=>u=Value.none
 | .bl b,u=>u=Value.bool b
 | .int i,u=>∃ t,u=Value.int i t
 | .str x,u=>∃ t,u=Value.str x t
 | .byt b,u=>∃ t,u=Value.bytes b t
 | .flt b,u=>∃ t,u=Value.float b t
 | .ref a,u=>u=Value.ref a
 | .ty n,u=>u=Value.type n
noncomputable abbrev Zi:List V->List Value->Prop:=Paired RelV
theorem Zi.length(r:Zi xs us):xs.length=us.length:=Paired.length r
theorem Zi.get:∀ {xs:List V}{us:List Value}{i:Nat}{x:V},Zi xs us->xs[i]? = some x->∃ u,us[i]? = some u/\RelV x u
 | _,_,_,_,.nil,e=>by simp at e
 | _,_,0,_,.cons r _,e=>by simp at e;subst e;exact ⟨_,rfl,r⟩
 | _,_,i+1,x,.cons _ t,e=>by
   obtain ⟨u,h1,h2⟩:=Zi.get (i:=i) (x:=x) t (by simpa using e);exact ⟨u,by simpa using h1,h2⟩
theorem Zi.set(r:RelV x u):∀ {xs:List V}{us:List Value} (i:Nat),Zi xs us->Zi (xs.set i x) (us.set i u)
 | _,_,_,.nil=>.nil
 | _,_,0,.cons _ t=>.cons r t
 | _,_,i+1,.cons q t=>.cons q (Zi.set r i t)
theorem Zi.append:∀ {xs ys:List V}{us ws:List Value},Zi xs us->Zi ys ws->Zi (xs++ys) (us++ws)
 | _,_,_,_,.nil,s=>s
 | _,_,_,_,.cons r t,s=>.cons r (Zi.append t s)
theorem Zi.take:∀ {xs:List V}{us:List Value} (n:Nat),Zi xs us->Zi (xs.take n) (us.take n)
 | _,_,0,_=>.nil
 | _,_,_+1,.nil=>.nil
 | _,_,n+1,.cons r t=>.cons r (Zi.take n t)
theorem Zi.drop:∀ {xs:List V}{us:List Value} (n:Nat),Zi xs us->Zi (xs.drop n) (us.drop n)
 | _,_,0,r=>r
 | _,_,_+1,.nil=>.nil
 | _,_,n+1,.cons _ t=>Zi.drop n t
noncomputable def ZdT:Option V->Option Value->Prop
 | some v,some u=>RelV v u
 | none,none=>True
 | _,_=>False
noncomputable def KV:List (κ×V)->List (κ×Value)->Prop:=Paired fun (p:κ×V) (q:κ×Value)=>p.1=q.1/\RelV p.2 q.2
noncomputable def kV:Key->V
 | .inl i=>.int i
 | .inr x=>.str x
inductive HO where
 | lst (xs:List V)
 | tup (xs:List V)
 | dK (kvs:List (Key×V))|dT (kvs:List (List Key×V))
 | set (S_:Int->Bool) (n:Nat)
 | ins (C dx:Addr) (fs:List (Str×V))
 | own (x:Addr)
 | xd (fs:List (Str×V))
 | met (f x:Addr)
 | rng (lo hi:Int)
 | frz (o:Obj) (u:HO)
 | tbl (ps:Array Value)
 | ext (φ:Heap->Prop)
noncomputable abbrev Hp:=Addr->Option HO
noncomputable def upd(H:Hp)(a:Addr)(o:HO):Hp:=fun b=>if b=a then some o else H b
theorem Zg:upd H a o a=some o:=by unfold upd;rw [if_pos rfl]
theorem Zk(h:b≠a):upd H a o b=H b:=by unfold upd;rw [if_neg h]
theorem ZB{H:Hp}(h:H a=some o)(h':H b=none):a≠b:=by
 intro e;subst e;rw [h] at h';cases h'
section
variable (P:Program) (w:World)
noncomputable def Zax (h:Heap) (a:Addr) (items:Array Value):Prop:=∃ o,h.get? a=some o/\o.cls=.type "tuple" /\ o.dict=none/\∃ n,o.data=.seq items n
theorem Zax.tup(x:Zax h a items):IsTup h a items:=let ⟨o,ho,hc,_,r⟩:=x;⟨o,ho,hc,r⟩
theorem Zax.fresh (h:Heap) (items:Array Value):Zax (h.push {cls:=.type "tuple",data:=.seq items}) h.objs.size items:=⟨_,Oj _ rfl,rfl,rfl,_,rfl⟩
noncomputable def Z5(H:Hp)(h:Heap)(a:Addr):HO->Prop
 | .lst xs=>xs.length<=sizeLine/\∃ (its:List Value) (n:Nat),Zi xs its/\h.get? a=some {cls:=.type "list",data:=.seq its.toArray n}
 | .tup xs=>xs.length<=sizeLine/\∃ its:List Value,Zi xs its/\Zax h a its.toArray
 | .dK kvs=>kvs.length<=sizeLine/\(a==sysModules)=false/\∃ vs,KV kvs vs/\h.DictOf (ZF P w) a vs
 | .dT kvs=>kvs.length<=sizeLine/\(a==sysModules)=false/\∃ xs:List (List Key×Addr×Value),
     Paired (fun (p:List Key×V) (q:List Key×Addr×Value)=>p.1=q.1/\H q.2.1=some (.tup (p.1.map kV))/\RelV p.2 q.2.2) kvs xs /\
     ∃ o es ep,h.get? a=some o/\o.ExactDict/\o.data=.dict es ep/\es.toList=xs.map (entryOfKey (tupleKind (ZF P w)))/\(xs.map (·.1)).Nodup
 | .set S_ n=>h.SetOf (intKind P w) a S_ n
 | .ins C dx fs=>H dx=some (.own a)/\fs.length<=1000/\dx≠a/\h.get? a=some (PySem.W.instObj C dx) /\
     ∃ mA,h.Ns1 dx mA/\(∀ f,ZdT (fs.lookup f) (mA f))/\PySem.Within mA (fs.map (·.1))
 | .own _=>∃ o,h.get? a=some o
 | .xd fs=>∃ mA,h.Ns1 a mA/\∀ f,ZdT (fs.lookup f) (mA f)
 | .rng lo hi=>∃ t u v,h.get? a=some {cls:=.type "range",data:=.fields #[.int lo t,.int hi u,.int 1 v]}
 | .frz o u=>h.get? a=some o/\Z5 H h a u
 | .tbl ps=>h.get? a=some {cls:=.none,data:=.fields ps}
 | .met f x=>h.get? a=some (PySem.W.methodObj (.ref f) (.ref x))
 | .ext φ=>φ h/\(∃ o,h.get? a=some o)/\∀ h1 h2:Heap,φ h1->(∀ o,h1.get? a=some o->h2.get? a=some o)->φ h2
noncomputable def HOk(H:Hp)(h:Heap):Prop:=∀ a o,H a=some o->Z5 P w H h a o
end
section
variable {P:Program}{w:World}{H H':Hp}{h h':Heap}{a:Addr}{o:HO}
theorem Z5.lt(x:Z5 P w H h a o):a<h.objs.size:=by
 cases o with
 | lst xs=>obtain ⟨_,_,_,_,e⟩:=x;exact Heap.lt_size e
 | tup xs=>obtain ⟨_,_,_,p⟩:=x;exact p.tup.lt
 | dK kvs=>obtain ⟨_,_,_,_,o,_,_,e,_⟩:=x;exact Heap.lt_size e
 | dT kvs=>obtain ⟨_,_,_,_,o,_,_,e,_⟩:=x;exact Heap.lt_size e
 | set S_ n=>obtain ⟨o,_,_,_,e,_⟩:=x;exact Heap.lt_size e
 | ins C dx fs=>obtain ⟨_,_,_,e,_⟩:=x;exact Heap.lt_size e
 | own y=>obtain ⟨_,e⟩:=x;exact Heap.lt_size e
 | xd fs=>obtain ⟨_,⟨_,_,_,e,_⟩,_⟩:=x;exact Heap.lt_size e
 | rng lo hi=>obtain ⟨_,_,_,e⟩:=x;exact Heap.lt_size e
 | frz ob u=>obtain ⟨e,_⟩:=x;exact Heap.lt_size e
 | tbl ps=>exact Heap.lt_size (show h.get? a=some _ from x)
 | met f y=>exact Heap.lt_size (show h.get? a=some _ from x)
 | ext φ=>obtain ⟨_,⟨_,e⟩,_⟩:=x;exact Heap.lt_size e
theorem Paired.mapP:∀ {l₁:List α}{l₂:List β},Paired F l₁ l₂->(∀ a b,F a b->G a b)->Paired G l₁ l₂
 | _,_,.nil,_=>.nil
 | _,_,.cons r t,f=>.cons (f _ _ r) (Paired.mapP t f)
theorem Z5.stay(x:Z5 P w H h a o)(k:∀ b u,(b=a\/H b=some (.own a))->h.get? b=some u->h'.get? b=some u)
   (ho:∀ b,H b=some (.own a)->H' b=some (.own a)) (ht:∀ b xs,H b=some (.tup xs)->H' b=some (.tup xs)):Z5 P w H' h' a o:=by
 induction o with
 | lst xs=>obtain ⟨z,its,n,r,e⟩:=x;exact ⟨z,its,n,r,k _ _ (.inl rfl) e⟩
 | tup xs=>obtain ⟨z,its,r,ob,e,c⟩:=x;exact ⟨z,its,r,ob,k _ _ (.inl rfl) e,c⟩
 | dK kvs=>obtain ⟨z,y,vs,r,ob,es,ep,e,c⟩:=x;exact ⟨z,y,vs,r,ob,es,ep,k _ _ (.inl rfl) e,c⟩
 | dT kvs =>
   obtain ⟨z,y,xs,r,ob,es,ep,e,c⟩:=x;exact ⟨z,y,xs,Paired.mapP r fun p q z=>⟨z.1,ht _ _ z.2.1,z.2.2⟩,ob,es,ep,k _ _ (.inl rfl) e,c⟩
 | set S_ n=>obtain ⟨ob,es,ep,t,e,c⟩:=x;exact ⟨ob,es,ep,t,k _ _ (.inl rfl) e,c⟩
 | ins C dx fs =>
   obtain ⟨d,z,ne,e,mA,⟨od,es,ep,e2,c⟩,r⟩:=x;exact ⟨ho _ d,z,ne,k _ _ (.inl rfl) e,mA,⟨od,es,ep,k _ _ (.inr d) e2,c⟩,r⟩
 | own y=>obtain ⟨ob,e⟩:=x;exact ⟨ob,k _ _ (.inl rfl) e⟩
 | xd fs=>obtain ⟨mA,⟨od,es,ep,e,c⟩,r⟩:=x;exact ⟨mA,⟨od,es,ep,k _ _ (.inl rfl) e,c⟩,r⟩
 | rng lo hi=>obtain ⟨t,u,v,e⟩:=x;exact ⟨t,u,v,k _ _ (.inl rfl) e⟩
 | frz ob u ih=>obtain ⟨e,q⟩:=x;exact ⟨k _ _ (.inl rfl) e,ih q⟩
 | tbl ps =>
   have e:h.get? a=some {cls:=.none,data:=.fields ps}:=x;show h'.get? a=some {cls:=.none,data:=.fields ps};exact k a _ (.inl rfl) e
 | met f y =>
   have e:h.get? a=some (PySem.W.methodObj (.ref f) (.ref y)):=x;show h'.get? a=some (PySem.W.methodObj (.ref f) (.ref y));exact k a _ (.inl rfl) e
 | ext φ=>obtain ⟨p,⟨o,e⟩,st⟩:=x;exact ⟨st _ _ p fun o q=>k _ _ (.inl rfl) q,⟨o,k _ _ (.inl rfl) e⟩,st⟩
theorem HOk.lt(x:HOk P w H h)(e:H a=some o):a<h.objs.size:=(x a o e).lt
theorem HOk.fresh(x:HOk P w H h)(e:h.objs.size<=a):H a=none:=by
 cases q:H a with
 | none=>rfl
 | some u=>exact absurd (Ot (x.lt q) e) (Nat.lt_irrefl _)
theorem HOk.kept(x:HOk P w H h)(k:∀ b u,h.get? b=some u->h'.get? b=some u):HOk P w H h':=fun a o e =>
 (x a o e).stay (fun b u _ q=>k b u q) (fun _ q=>q) fun _ _ q=>q
theorem HOk.laid(x:HOk P w H h)(k:∀ b u,h.get? b=some u->h'.get? b=some u)(hp:h.objs.size<=a)(new:Z5 P w (upd H a o) h' a o):HOk P w (upd H a o) h':=fun b u e=>by
 have hn:=x.fresh hp;by_cases hb:b=a
 . subst hb;rw [Zg] at e;cases e;exact new
 . rw [Zk hb] at e;exact (x b u e).stay (fun c v _ q=>k c v q) (fun c q=>by rw [Zk (ZB q hn)];exact q) fun c xs q=>by rw [Zk (ZB q hn)];exact q
end
noncomputable def Rd(H:Hp)(a:Addr)(u:HO):Prop:=H a=some u\/∃ o,H a=some (.frz o u)
theorem Rd.ok{P:Program}{w:World}{H:Hp}{h:Heap}{a:Addr}{u:HO}(r:Rd H a u)(x:HOk P w H h):Z5 P w H h a u:=by
 rcases r with r|⟨o,r⟩
 . exact x a u r
 . obtain ⟨_,q⟩:=x a _ r;exact q
noncomputable def Mut:Option HO->Prop
 | some (.lst _)=>True
 | some (.dK _)=>True
 | some (.dT _)=>True
 | some (.set _ _)=>True
 | some (.ins _ _ _)=>True
 | some (.ext _)=>True
 | _=>False
section
variable {P:Program}{w:World}{H:Hp}{h h':Heap}{x e:Addr}{o':HO}
theorem HOk.write(ok:HOk P w H h)(mu:Mut (H x))(he:e=x\/H e=some (.own x))(k:∀ b u,b≠e->h.get? b=some u->h'.get? b=some u)(heo:∃ u,h'.get? e=some u)
   (new:Z5 P w (upd H x o') h' x o'):HOk P w (upd H x o') h':=fun b u q=>by
 have nown:∀ c y,H c=some (.own y)->c≠x:=fun c y r z=>by subst z;rw [r] at mu;exact mu
 have ntup:∀ c xs,H c=some (.tup xs)->c≠x:=fun c xs r z=>by subst z;rw [r] at mu;exact mu
 by_cases hb:b=x
 . subst hb;rw [Zg] at q;cases q;exact new
 . rw [Zk hb] at q;by_cases hbe:b=e
   . have q':H b=some (.own x):=by
       rcases he with z|z
       . exact absurd (hbe.trans z) hb
       . rw [hbe];exact z
     rw [q] at q';cases q';obtain ⟨v,hv⟩:=heo;exact ⟨v,by rw [hbe];exact hv⟩
   . refine (ok b u q).stay (fun c v hc r=>k c v ?_ r) (fun c r=>by rw [Zk (nown c b r)];exact r) fun c xs r=>by rw [Zk (ntup c xs r)];exact r
     rcases hc with rfl|hc
     . exact hbe
     . rintro rfl;rcases he with z|z
       . exact nown c b hc z
       . rw [hc] at z;cases z;exact hb rfl
end
structure Un(fs ex:List Addr)(H H':Hp)(h h':Heap):Prop where
 keep:∀ b o,h.get? b=some o->H b=none->b ∉ fs->b ∉ ex->h'.get? b=some o
 slot:∀ b o,h.get? b=some o->H b=none->b∈fs->b ∉ ex->∃ sl,h'.get? b=some {o with slots:=sl}
 free:∀ b o,h.get? b=some o->H b=none->b ∉ ex->H' b=none
 there:∀ b o,h.get? b=some o->b ∉ ex->∃ o',h'.get? b=some o'
 tups:∀ b xs,H b=some (.tup xs)->H' b=some (.tup xs)
 frzs:∀ b o u,H b=some (.frz o u)->H' b=some (.frz o u)
 tbls:∀ b ps,H b=some (.tbl ps)->∃ more,H' b=some (.tbl (ps++more))
section
variable {fs fs' ex ex':List Addr}{H H1 H2:Hp}{h h1 h2 h':Heap}{a x e:Addr}{o:HO}
theorem Un.any(u:Un fs ex H H1 h h1)(q:h.get? b=some ob)(n:H b=none)(hx:b ∉ ex):∃ sl,h1.get? b=some {ob with slots:=sl}:=by
 by_cases hb:b∈fs
 . exact u.slot b ob q n hb hx
 . exact ⟨ob.slots,u.keep b ob q n hb hx⟩
theorem Un.trans(a:Un fs ex H H1 h h1)(b:Un fs ex H1 H2 h1 h2):Un fs ex H H2 h h2 where
 keep:=fun c ob q n hc hx=>b.keep c ob (a.keep c ob q n hc hx) (a.free c ob q n hx) hc hx
 slot:=fun c ob q n hc hx=>by
   obtain ⟨sl,e1⟩:=a.slot c ob q n hc hx;obtain ⟨sl',e2⟩:=b.slot c _ e1 (a.free c ob q n hx) hc hx;exact ⟨sl',e2⟩
 free:=fun c ob q n hx=>by
   obtain ⟨o',e1⟩:=a.there c ob q hx;exact b.free c o' e1 (a.free c ob q n hx) hx
 there:=fun c ob q hx=>by
   obtain ⟨o',e1⟩:=a.there c ob q hx;exact b.there c o' e1 hx
 tups:=fun c xs q=>b.tups c xs (a.tups c xs q)
 frzs:=fun c ob xs q=>b.frzs c ob xs (a.frzs c ob xs q)
 tbls:=fun c ps q=>by
   obtain ⟨m1,e1⟩:=a.tbls c ps q;obtain ⟨m2,e2⟩:=b.tbls c _ e1;exact ⟨m1++m2,by rw [e2,Array.append_assoc]⟩
theorem Un.kept(k:∀ b u,h.get? b=some u->h'.get? b=some u):Un fs ex H H h h' :=
 ⟨fun b ob q _ _ _=>k b ob q,fun b ob q _ _ _=>⟨ob.slots,k b ob q⟩,fun _ _ _ n _=>n,fun b ob q _=>⟨ob,k b ob q⟩,fun _ _ q=>q,fun _ _ _ q=>q,fun _ ps q=>⟨#[],by rw [q];simp⟩⟩
theorem Un.refl:Un fs ex H H h h:=Un.kept fun _ _ q=>q
theorem Un.laid(k:∀ b u,h.get? b=some u->h'.get? b=some u)(hp:h.objs.size<=a)(hn:H a=none):Un fs ex H (upd H a o) h h' where
 keep:=fun b u q _ _ _=>k b u q
 slot:=fun b u q _ _ _=>⟨u.slots,k b u q⟩
 free:=fun b u q n _=>by rw [Zk (Ou (Ot (Heap.lt_size q) hp))];exact n
 there:=fun b u q _=>⟨u,k b u q⟩
 tups:=fun b xs q=>by rw [Zk (ZB q hn)];exact q
 frzs:=fun b u xs q=>by rw [Zk (ZB q hn)];exact q
 tbls:=fun b ps q=>⟨#[],by rw [Zk (ZB q hn),q];simp⟩
theorem Un.write(mu:Mut (H x))(he:e=x\/H e=some (.own x))(k:∀ b u,b≠e->h.get? b=some u->h'.get? b=some u)(heo:∃ u,h'.get? e=some u):Un fs ex H (upd H x o) h h':=by
 have hx:∀ b,H b=none->b≠x:=fun b n z=>by subst z;rw [n] at mu;exact mu
 have hb:∀ b,H b=none->b≠e:=fun b n z=>by
   subst z;rcases he with r|r
   . exact hx b n r
   . rw [n] at r;cases r
 have hm:∀ b u,H b=some u->¬ Mut (some u)->b≠x:=fun b u q nm z=>by subst z;rw [q] at mu;exact nm mu
 refine ⟨fun b u q n _ _=>k b u (hb b n) q,fun b u q n _ _=>⟨u.slots,k b u (hb b n) q⟩,fun b u q n _=>by rw [Zk (hx b n)];exact n,fun b u q _=>?_,
   fun b xs q=>by rw [Zk (hm b _ q fun z=>z)];exact q,fun b u xs q=>by rw [Zk (hm b _ q fun z=>z)];exact q,fun b ps q=>⟨#[],by rw [Zk (hm b _ q fun z=>z),q];simp⟩⟩
 by_cases hbe:b=e
 . subst hbe;exact heo
 . exact ⟨u,k b u hbe q⟩
end
noncomputable def trk(h:Heap)(H:Hp):List Addr:=(List.range h.objs.size).filter fun a=>(H a).isSome
noncomputable def Zhg(h:Heap)(H:Hp):Heap:=PySem.W.hideAll h (trk h H)
theorem Zlg(h:Heap)(H:Hp):(Zhg h H).objs.size=h.objs.size:=PySem.W.hideAll_size _ _
theorem ZmN(e:h.get? b=some o)(n:H b=none):(Zhg h H).get? b=some o :=
 PySem.W.hideAll_get _ e fun hm=>by
   have q:(H b).isSome=true:=(List.mem_filter.mp hm).2;rw [n] at q;simp at q
theorem ZoB(e:(Zhg h H).get? b=some o):h.get? b=some o/\H b=none:=by
 have e':h.get? b=some o:=PySem.W.of_hideAll (trk h H) e;refine ⟨e',?_⟩;cases q:H b with
 | none=>rfl
 | some x =>
   have hm:b∈trk h H:=List.mem_filter.mpr ⟨List.mem_range.mpr (Heap.lt_size e'),by simp [q]⟩;have z:(Zhg h H).get? b=none:=PySem.W.hideAll_none (trk h H) hm;rw [z] at e;cases e
end L2
namespace L2
open PySem PySem.Spec PyProof.Rows
structure Mod(K:PySem.W.Frag)(mg:Str->Option Value)(base:Heap):Prop where
 kin:K.In base
 glob:base.Ns mainGlobals mg
 blt:∃ mb,base.Ns builtinsNs mb/\∀ x:Str,x ≠ "__name__" -> mb x=bootBuiltins x
 nolimit:base.NoLimit
structure Cx where
 prog:Program
 w:World
 K:PySem.W.Frag
 mg:Str->Option Value
 base:Heap
 A:Around
 N:List Str
 s₀:Shared
 H₀:Hp
 env:Env
 outer:List Env
 stack:List Env
 ex:List Addr
 fn:Str->Bool
 calm:Bool
 pn:List (Addr×Obj)
 xe:Value->Shared->Prop
noncomputable def frs(l:List Env):List Addr:=l.filterMap (·.frame)
noncomputable abbrev Cx.fs(X:Cx):List Addr:=frs X.outer
noncomputable def Vis(sc:Scope)(x:Str):Prop:=sc.names.lookup x=some .local\/sc.names.lookup x=some .cell\/sc.names.lookup x=some .free
noncomputable def Loc(sc:Scope)(x:Str):Prop:=sc.names.lookup x=some .local\/sc.names.lookup x=some .cell
noncomputable def Look(env:Env)(h:Heap)(m:Str->Option Value)(x:Str)(u:Value):Prop :=
 (env.kindOf x=some .local/\m x=some u)\/((env.kindOf x=some .cell\/env.kindOf x=some .free)/\∃ c,env.cells.lookup x=some c/\h.IsCell c (some u))
structure Cx.Ok(X:Cx):Prop where
 mod:Mod X.K X.mg X.base
 kind:X.env.scope.kind=.function
 glob:X.env.globals=mainGlobals
 blt:X.env.builtins=builtinsNs
 above:X.s₀.heap.objs.size<=X.env.locals
 inj:∀ x y c,X.env.cells.lookup x=some c->X.env.cells.lookup y=some c->x=y
 has:∀ x,(X.env.kindOf x=some .cell\/X.env.kindOf x=some .free)->∃ c,X.env.cells.lookup x=some c
 cab:∀ x c,X.fn x=true->X.env.cells.lookup x=some c->X.s₀.heap.objs.size<=c
 hd:X.calm=true->X.A.handled=none
 frames:X.A.frames=some X.stack
 stk:X.stack=X.outer\/(X.stack=X.env::X.outer/\X.env.frame=some X.env.locals)
 exf:∀ b∈X.ex,b≠X.env.locals/\∀ x c,X.env.cells.lookup x=some c->c≠b
 bs:∀ b o,X.base.get? b=some o->X.s₀.heap.get? b=some o/\X.H₀ b=none
 bsz:X.base.objs.size<=X.s₀.heap.objs.size
 noex:∀ b o,X.base.get? b=some o->b ∉ X.ex
 exfs:∀ b∈X.ex,b ∉ X.fs
 funs:X.s₀.heap.FunFrames X.base X.outer
 frf:∀ b∈X.fs,X.H₀ b=none
structure Inv(X:Cx)(pins:List (Addr×Obj))(Z:List (Option V))(H:Hp)(s:Shared):Prop where
 ok:X.Ok
 os:s.os=X.s₀.os
 bare:AllBare s.gens
 base:Un X.fs X.ex X.H₀ H X.s₀.heap s.heap
 loc:∃ m,s.heap.Ns X.env.locals m/\∀ (i:Nat) (x:Str) (v:V),X.N[i]? = some x->Z[i]? = some (some v)->Vis X.env.scope x->∃ u,RelV v u/\Look X.env s.heap m x u
 cell:∀ x c,X.env.cells.lookup x=some c->∃ v,s.heap.IsCell c v
 free:H X.env.locals=none
 freeC:∀ x c,X.env.cells.lookup x=some c->H c=none
 pin:∀ p∈X.pn++pins,s.heap.get? p.1=some p.2/\H p.1=none/\p.1≠X.env.locals/\p.1 ∉ X.fs/\∀ v,p.2.data≠.cell v
 hok:HOk X.prog X.w H s.heap
 len:Z.length=X.N.length
section
variable {X:Cx}{pins:List (Addr×Obj)}{Z:List (Option V)}{H H':Hp}{s:Shared}{h':Heap}
theorem Cx.Ok.nofr(ok:X.Ok)(e:X.base.get? b=some o):b ∉ X.fs:=fun hb=>by
 have:=(ok.funs.mem hb).1;rw [e] at this;cases this
theorem Inv.bs(I:Inv X pins Z H s):∀ b o,X.base.get? b=some o->s.heap.get? b=some o/\H b=none:=fun b o e =>
 ⟨I.base.keep b o (I.ok.bs b o e).1 (I.ok.bs b o e).2 (I.ok.nofr e) (I.ok.noex b o e),I.base.free b o (I.ok.bs b o e).1 (I.ok.bs b o e).2 (I.ok.noex b o e)⟩
theorem Inv.bk(I:Inv X pins Z H s):∀ b o,X.base.get? b=some o->s.heap.get? b=some o:=fun b o e=>(I.bs b o e).1
theorem Inv.mod(I:Inv X pins Z H s):Mod X.K X.mg X.base:=I.ok.mod
theorem Inv.kIn(I:Inv X pins Z H s):X.K.In s.heap:=I.ok.mod.kin.keeps I.bk
theorem Inv.lt(I:Inv X pins Z H s):X.env.locals<s.heap.objs.size:=let ⟨_,hn,_⟩:=I.loc;hn.lt
theorem Inv.sz(I:Inv X pins Z H s):X.s₀.heap.objs.size<=s.heap.objs.size:=OE I.ok.above (Nat.le_of_lt I.lt)
theorem Inv.nofs(I:Inv X pins Z H s)(h:s.heap.objs.size<=a):a ∉ X.fs:=fun hb=>by
 obtain ⟨_,o,ho,_⟩:=I.ok.funs.mem hb;exact absurd (Ot (Heap.lt_size ho) (OE I.sz h)) (Nat.lt_irrefl _)
theorem Inv.cne(I:Inv X pins Z H s):∀ x c,X.env.cells.lookup x=some c->c≠X.env.locals:=fun x c e z=>by
 obtain ⟨v,o,ho,hd⟩:=I.cell x c e;obtain ⟨m,⟨o',es,ep,ho',hd',_⟩,_⟩:=I.loc;rw [z,ho'] at ho;cases ho;rw [hd'] at hd;cases hd
theorem Inv.funs(I:Inv X pins Z H s):s.heap.FunFrames X.base X.outer:=by
 have all:∀ (l:List Env),(∀ b∈frs l,b∈X.fs)->X.s₀.heap.FunFrames X.base l->s.heap.FunFrames X.base l:=by
   intro l;induction l with
   | nil=>intro _ _;trivial
   | cons env r ih =>
     intro hs hl;obtain ⟨hk,⟨L,o,hf,hn,ho,hd⟩,hr⟩:=hl;have hL:L∈X.fs:=hs L (by unfold frs;rw [List.filterMap_cons,hf];exact Oi);obtain ⟨sl,e⟩:=I.base.slot L o ho (I.ok.frf L hL) hL fun z=>I.ok.exfs L z hL;exact ⟨hk,⟨L,_,hf,hn,e,hd⟩,ih (fun b hb=>hs b (by unfold frs;rw [List.filterMap_cons,hf];exact Oh _ hb)) hr⟩
 exact all X.outer (fun _ hb=>hb) I.ok.funs
theorem Inv.stack(I:Inv X pins Z H s):s.heap.FunFrames X.base X.stack:=by
 rcases I.ok.stk with e|⟨e,hf⟩
 . rw [e];exact I.funs
 . rw [e];obtain ⟨m,hn,_⟩:=I.loc;refine .cons (by rw [I.ok.kind];decide) hf hn ?_ I.funs;exact Heap.get?_none_of_le (OE I.ok.bsz I.ok.above)
theorem Inv.stkSub(I:Inv X pins Z H s):∀ b∈frs X.stack,b∈X.env.locals::X.fs:=fun b hb=>by
 rcases I.ok.stk with e|⟨e,hf⟩
 . rw [e] at hb;exact Oh _ hb
 . rw [e] at hb;unfold frs at hb;rw [List.filterMap_cons,hf] at hb;exact hb
theorem Inv.stkFree(I:Inv X pins Z H s):∀ b∈frs X.stack,H b=none:=fun b hb=>by
 rcases O2.mp (I.stkSub b hb) with e|hb
 . rw [e];exact I.free
 . obtain ⟨_,o,ho,_⟩:=I.ok.funs.mem hb;exact I.base.free b o ho (I.ok.frf b hb) fun z=>I.ok.exfs b z hb
theorem Inv.step{g':Array GenState}{t':Nat}{d':Drawn}{ch:List Addr}(I:Inv X pins Z H s)
   (hch:∀ b∈ch,(b∈X.ex\/X.s₀.heap.objs.size<=b)/\b≠X.env.locals/\(∀ x c,X.env.cells.lookup x=some c->c≠b)/\∀ p∈X.pn++pins,p.1≠b)
   (keep:∀ b o,b≠X.env.locals->b ∉ X.fs->b ∉ ch->s.heap.get? b=some o->H b=none->h'.get? b=some o)
   (slot:∀ b o,b≠X.env.locals->b∈X.fs->b ∉ ch->s.heap.get? b=some o->H b=none->∃ sl,h'.get? b=some {o with slots:=sl}) (free:∀ b o,b ∉ ch->s.heap.get? b=some o->H b=none->H' b=none)
   (there:∀ b o,b ∉ ch->s.heap.get? b=some o->∃ o',h'.get? b=some o')
   (tups:∀ b xs,H b=some (.tup xs)->H' b=some (.tup xs)) (frzs:∀ b o u,H b=some (.frz o u)->H' b=some (.frz o u)) (tbls:∀ b ps,H b=some (.tbl ps)->∃ more,H' b=some (.tbl (ps++more)))
   (ns:∀ m,s.heap.Ns X.env.locals m->h'.Ns X.env.locals m) (hok:HOk X.prog X.w H' h') (hg:AllBare g') :
   Inv X pins Z H' {s with heap:=h',gens:=g',drawn:=d',toks:=t'}:=by
 have neL:∀ b o,X.s₀.heap.get? b=some o->b≠X.env.locals:=fun b o e=>Ou (Ot (Heap.lt_size e) I.ok.above);have neC:∀ b o,X.s₀.heap.get? b=some o->b ∉ X.ex->b ∉ ch:=fun b o e hx hb=>by
   rcases (hch b hb).1 with z|z
   . exact hx z
   . exact absurd (Ot (Heap.lt_size e) z) (Nat.lt_irrefl _)
 have cellK:∀ x c,X.env.cells.lookup x=some c->∀ v,s.heap.IsCell c v->h'.IsCell c v:=fun x c e v ⟨o,ho,hd⟩=>by
   have nch:c ∉ ch:=fun z=>(hch c z).2.2.1 x c e rfl;by_cases hc:c∈X.fs
   . obtain ⟨sl,q⟩:=slot c o (I.cne x c e) hc nch ho (I.freeC x c e);exact ⟨_,q,hd⟩
   . exact ⟨o,keep c o (I.cne x c e) hc nch ho (I.freeC x c e),hd⟩
 refine ⟨I.ok,I.os,hg,⟨fun b o e n hb hx=>?_,fun b o e n hb hx=>?_,fun b o e n hx=>?_,fun b o e hx=>?_,fun b xs e=>tups b xs (I.base.tups b xs e),fun b o xs e=>frzs b o xs (I.base.frzs b o xs e),fun b ps e=>?_⟩,?_,fun x c e=>?_,?_,fun x c e=>?_,fun p hp=>?_,hok,I.len⟩
 . exact keep b o (neL b o e) hb (neC b o e hx) (I.base.keep b o e n hb hx) (I.base.free b o e n hx)
 . obtain ⟨sl,e1⟩:=I.base.slot b o e n hb hx;obtain ⟨sl',e2⟩:=slot b _ (neL b o e) hb (neC b o e hx) e1 (I.base.free b o e n hx);exact ⟨sl',e2⟩
 . obtain ⟨o',e1⟩:=I.base.there b o e hx;exact free b o' (neC b o e hx) e1 (I.base.free b o e n hx)
 . obtain ⟨o',e1⟩:=I.base.there b o e hx;exact there b o' (neC b o e hx) e1
 . obtain ⟨m1,e1⟩:=I.base.tbls b ps e;obtain ⟨m2,e2⟩:=tbls b _ e1;exact ⟨m1++m2,by rw [e2,Array.append_assoc]⟩
 . obtain ⟨m,hn,hl⟩:=I.loc;refine ⟨m,ns m hn,fun i x v e1 e2 e3=>?_⟩;obtain ⟨u,r,l⟩:=hl i x v e1 e2 e3;refine ⟨u,r,?_⟩;rcases l with l|⟨k,c,e,z⟩
   . exact .inl l
   . exact .inr ⟨k,c,e,cellK x c e _ z⟩
 . obtain ⟨v,z⟩:=I.cell x c e;exact ⟨v,cellK x c e v z⟩
 . obtain ⟨m,⟨o,_,_,ho,_⟩,_⟩:=I.loc;exact free _ o (fun z=>(hch _ z).2.1 rfl) ho I.free
 . obtain ⟨v,o,ho,hd⟩:=I.cell x c e;exact free c o (fun z=>(hch c z).2.2.1 x c e rfl) ho (I.freeC x c e)
 . obtain ⟨e,n,ne,nf,d⟩:=I.pin p hp;have nch:p.1 ∉ ch:=fun z=>(hch p.1 z).2.2.2 p hp rfl;exact ⟨keep p.1 p.2 ne nf nch e n,free p.1 p.2 nch e n,ne,nf,d⟩
theorem Inv.un{t':Nat}(I:Inv X pins Z H s)(u:Un X.fs [] H H' s.heap h')(hok:HOk X.prog X.w H' h'):Inv X pins Z H' {s with heap:=h',toks:=t'}:=by
 obtain ⟨m,⟨o,es,ep,ho,r⟩,_⟩:=id I.loc;obtain ⟨sl,hL⟩:=u.any ho I.free (by simp);exact I.step (g':=s.gens) (d':=s.drawn) (ch:=[]) (fun _ z=>nomatch z) (fun b o _ hb _ e n=>u.keep b o e n hb (by simp)) (fun b o _ hb _ e n=>u.slot b o e n hb (by simp)) (fun b o _ e n=>u.free b o e n (by simp)) (fun b o _ e=>u.there b o e (by simp)) u.tups u.frzs u.tbls (fun m' hm=>by
   obtain ⟨o',es',ep',ho',r'⟩:=hm;rw [ho] at ho';cases ho';exact ⟨_,es',ep',hL,r'⟩) hok I.bare
theorem Inv.call{g':Array GenState}{t':Nat}{d':Drawn}{ch:List Addr}(I:Inv X pins Z H s)(u:Un (frs X.stack) ch H H' s.heap h')(hok:HOk X.prog X.w H' h')(hg:AllBare g')
   (hch:∀ b∈ch,(b∈X.ex\/X.s₀.heap.objs.size<=b)/\b≠X.env.locals/\(∀ x c,X.env.cells.lookup x=some c->c≠b)/\∀ p∈X.pn++pins,p.1≠b) :
   Inv X pins Z H' {s with heap:=h',gens:=g',drawn:=d',toks:=t'}:=by
 obtain ⟨m,⟨o,es,ep,ho,r⟩,_⟩:=id I.loc;obtain ⟨sl,hL⟩:=u.any ho I.free fun z=>(hch _ z).2.1 rfl;exact I.step (ch:=ch) hch (fun b o hL hb hc e n=>u.keep b o e n (fun z=>(O2.mp (I.stkSub b z)).elim hL hb) hc) (fun b o _ _ hc e n=>u.any e n hc) (fun b o hc e n=>u.free b o e n hc) (fun b o hc e=>u.there b o e hc) u.tups u.frzs u.tbls (fun m' hm=>by
   obtain ⟨o',es',ep',ho',r'⟩:=hm;rw [ho] at ho';cases ho';exact ⟨_,es',ep',hL,r'⟩) hok hg
theorem Inv.turned{t':Nat}{it:Addr}(I:Inv X pins Z H s)(k:∀ b o,b≠it->s.heap.get? b=some o->h'.get? b=some o)(hn:H it=none)(hL:it≠X.env.locals)
   (h1:it∈X.ex\/X.s₀.heap.objs.size<=it) (h2:∀ x c,X.env.cells.lookup x=some c->c≠it) (h3:∀ p∈X.pn++pins,p.1≠it):Inv X pins Z H {s with heap:=h',toks:=t'}:=by
 have nit:∀ b u,H b=some u->b≠it:=fun b u e z=>by rw [z,hn] at e;cases e
 refine I.step (g':=s.gens) (d':=s.drawn) (ch:=[it]) (fun b hb=>?_) (fun b o _ _ hc e _=>k b o (fun z=>hc (by simp [z])) e) (fun b o _ _ hc e _=>⟨o.slots,k b o (fun z=>hc (by simp [z])) e⟩) (fun _ _ _ _ n=>n)
   (fun b o hc e=>⟨o,k b o (fun z=>hc (by simp [z])) e⟩) (fun _ _ e=>e) (fun _ _ _ e=>e) (fun b ps e=>⟨#[],by rw [e];simp⟩) (fun m hm=>?_) (fun b u e=>?_) I.bare
 . have e:b=it:=by simpa using hb
   subst e;exact ⟨h1,hL,h2,h3⟩
 . obtain ⟨o,es,ep,ho,r⟩:=hm;exact ⟨o,es,ep,k _ o (Ne.symm hL) ho,r⟩
 . refine (I.hok b u e).stay (fun c v hc q=>k c v ?_ q) (fun _ q=>q) fun _ _ q=>q;rcases hc with z|z
   . rw [z];exact nit b u e
   . exact nit c _ z
theorem Inv.tok(I:Inv X pins Z H s)(t:Nat):Inv X pins Z H {s with toks:=t}:=I.un (h':=s.heap) (t':=t) Un.refl I.hok
theorem Inv.kept{t':Nat}(I:Inv X pins Z H s)(k:∀ b u,s.heap.get? b=some u->h'.get? b=some u):Inv X pins Z H {s with heap:=h',toks:=t'}:=I.un (Un.kept k) (I.hok.kept k)
theorem Inv.laid{a:Addr}{o:HO}{t':Nat}(I:Inv X pins Z H s)(k:∀ b u,s.heap.get? b=some u->h'.get? b=some u)(hp:s.heap.objs.size<=a)(new:Z5 X.prog X.w (upd H a o) h' a o) :
   Inv X pins Z (upd H a o) {s with heap:=h',toks:=t'}:=I.un (Un.laid k hp (I.hok.fresh hp)) (I.hok.laid k hp new)
theorem Inv.write(I:Inv X pins Z H s)(mu:Mut (H x))(he:e=x\/H e=some (.own x))(k:∀ b u,b≠e->s.heap.get? b=some u->h'.get? b=some u)(heo:∃ u,h'.get? e=some u)
   (new:Z5 X.prog X.w (upd H x o) h' x o):Inv X pins Z (upd H x o) {s with heap:=h',toks:=t'}:=I.un (Un.write mu he k heo) (I.hok.write mu he k heo new)
theorem Inv.weak(I:Inv X pins Z H s)(hl:σ'.length=Z.length)(w:∀ (i:Nat) v,σ'[i]? = some (some v)->Z[i]? = some (some v)):Inv X pins σ' H s :=
 ⟨I.ok,I.os,I.bare,I.base,let ⟨m,hn,hl'⟩:=I.loc;⟨m,hn,fun i x v e1 e2 e3=>hl' i x v e1 (w i v e2) e3⟩,I.cell,I.free,I.freeC,I.pin,I.hok,hl.trans I.len⟩
theorem Inv.pins_of(I:Inv X pins Z H s)(h:∀ p∈pins',s.heap.get? p.1=some p.2/\H p.1=none/\p.1≠X.env.locals/\p.1 ∉ X.fs/\∀ v,p.2.data≠.cell v):Inv X pins' Z H s :=
 ⟨I.ok,I.os,I.bare,I.base,I.loc,I.cell,I.free,I.freeC,fun p hp=>(OD.mp hp).elim (fun z=>I.pin p (List.mem_append_left _ z)) (h p),I.hok,I.len⟩
theorem ZhX{N:List Str}(hN:N.Nodup){i j:Nat}{x:Str}(a:N[i]? = some x)(b:N[j]? = some x):i=j:=by
 obtain ⟨h1,e1⟩:=Ob.mp a;obtain ⟨h2,e2⟩:=Ob.mp b;exact (List.getElem_inj hN).mp (e1.trans e2.symm)
theorem ZgB{M:Model}{A:Around}{Q:Unit->Shared->Prop}(I:Inv X pins Z H s)(hN:X.N.Nodup)(hi:X.N[i]? = some x)(hx:Loc X.env.scope x)(r:RelV v u)
   (h:∀ s',Inv X pins (Z.set i (some v)) H s'->(∃ a,Heap.SameBut a s.heap s'.heap/\(a=X.env.locals\/X.env.cells.lookup x=some a))->Q () s') (hf:X.fn x=true\/X.env.scope.names.lookup x=some .local:=by first|exact .inl rfl|exact .inr rfl|assumption):wpAny M A (storeName X.env x u) Q E s:=by
 obtain ⟨m,hn,hl⟩:=id I.loc;have hcls:(X.env.scope.kind==.class || (X.env.scope.kind==.module&&X.env.locals != X.env.globals))=false:=by rw [I.ok.kind];rfl
 have hiσ:i<Z.length:=by rw [I.len];exact (Ob.mp hi).1
 have cne:=I.cne;have tracked:∀ {a:Addr}{h':Heap},(∃ o,s.heap.get? a=some o/\H a=none)->Heap.SameBut a s.heap h'->HOk X.prog X.w H h':=fun {a h'} ha hs b ob e=>by
   obtain ⟨_,_,hfree⟩:=ha;refine (I.hok b ob e).stay (fun c w' hc q=>(hs.2 c ?_).trans q) (fun _ q=>q) fun _ _ q=>q;rintro rfl;rcases hc with rfl|hc
   . rw [hfree] at e;cases e
   . rw [hfree] at hc;cases hc
 rcases hx with hk|hk
 . refine wpAny_storeName_local hk hn (fun h' hn' hs=>?_) hcls;obtain ⟨oL,_,_,hoL,_⟩:=id hn;refine h _ ⟨I.ok,I.os,I.bare,⟨fun b o e n hb hx=>?_,fun b o e n hb hx=>?_,I.base.free,fun b o e hx=>?_,I.base.tups,I.base.frzs,I.base.tbls⟩,⟨_,hn',fun j y v' e1 e2 e3=>?_⟩,fun y c e=>?_,I.free,I.freeC,fun p hp=>?_,tracked ⟨oL,hoL,I.free⟩ hs,by simpa using I.len⟩ ⟨_,hs,.inl rfl⟩
   . exact (hs.2 b (Ou (Ot (Heap.lt_size e) I.ok.above))).trans (I.base.keep b o e n hb hx)
   . obtain ⟨sl,e1⟩:=I.base.slot b o e n hb hx;exact ⟨sl,(hs.2 b (Ou (Ot (Heap.lt_size e) I.ok.above))).trans e1⟩
   . obtain ⟨o',e1⟩:=I.base.there b o e hx;exact ⟨o',(hs.2 b (Ou (Ot (Heap.lt_size e) I.ok.above))).trans e1⟩
   . by_cases hj:j=i
     . subst hj;rw [hi] at e1;cases e1;rw [Ol hiσ] at e2;cases e2;exact ⟨u,r,.inl ⟨hk,by simp⟩⟩
     . rw [Oc (Ne.symm hj)] at e2;obtain ⟨u',r',q⟩:=hl j y v' e1 e2 e3;refine ⟨u',r',?_⟩;rcases q with ⟨k,e⟩|⟨k,c,e,z⟩
       . refine .inl ⟨k,?_⟩;have:y≠x:=fun e=>hj (ZhX hN e1 (e ▸ hi));simp [this,e]
       . exact .inr ⟨k,c,e,z.sameBut hs (cne y c e)⟩
   . obtain ⟨w',z⟩:=I.cell y c e;exact ⟨w',z.sameBut hs (cne y c e)⟩
   . obtain ⟨e,n,ne,nf,d⟩:=I.pin p hp;exact ⟨(hs.2 p.1 ne).trans e,n,ne,nf,d⟩
 . have hfn:X.fn x=true:=by
     rcases hf with z|z
     . exact z
     . rw [z] at hk;cases hk
   obtain ⟨c,hc⟩:=I.ok.has x (.inl hk);obtain ⟨w',z⟩:=I.cell x c hc;refine wpAny_storeName_cell I.ok.kind hk hc z (fun h' hc' hs=>?_);obtain ⟨oc,hoc,hocd⟩:=id z;refine h {s with heap:=h'} ⟨I.ok,I.os,I.bare,⟨fun b o e n hb hx=>?_,fun b o e n hb hx=>?_,I.base.free,fun b o e hx=>?_,I.base.tups,I.base.frzs,I.base.tbls⟩,⟨m,hn.sameBut hs (Ne.symm (cne x c hc)),fun j y v' e1 e2 e3=>?_⟩,fun y c' e=>?_,I.free,I.freeC,fun p hp=>?_,tracked ⟨oc,hoc,I.freeC x c hc⟩ hs,by simpa using I.len⟩ ⟨c,hs,.inr hc⟩
   . exact (hs.2 b (Ou (Ot (Heap.lt_size e) (I.ok.cab x c hfn hc)))).trans (I.base.keep b o e n hb hx)
   . obtain ⟨sl,e1⟩:=I.base.slot b o e n hb hx;exact ⟨sl,(hs.2 b (Ou (Ot (Heap.lt_size e) (I.ok.cab x c hfn hc)))).trans e1⟩
   . obtain ⟨o',e1⟩:=I.base.there b o e hx;exact ⟨o',(hs.2 b (Ou (Ot (Heap.lt_size e) (I.ok.cab x c hfn hc)))).trans e1⟩
   . by_cases hj:j=i
     . subst hj;rw [hi] at e1;cases e1;rw [Ol hiσ] at e2;cases e2;exact ⟨u,r,.inr ⟨.inl hk,c,hc,hc'⟩⟩
     . rw [Oc (Ne.symm hj)] at e2;obtain ⟨u',r',q⟩:=hl j y v' e1 e2 e3;refine ⟨u',r',?_⟩;rcases q with q|⟨k,c',e,z'⟩
       . exact .inl q
       . refine .inr ⟨k,c',e,z'.sameBut hs ?_⟩;rintro rfl;exact hj (ZhX hN e1 (I.ok.inj _ _ _ e hc ▸ hi))
   . by_cases hcc:c'=c
     . subst hcc;exact ⟨_,hc'⟩
     . obtain ⟨w2,z2⟩:=I.cell y c' e;exact ⟨w2,z2.sameBut hs hcc⟩
   . obtain ⟨e,n,ne,nf,d⟩:=I.pin p hp;refine ⟨(hs.2 p.1 ?_).trans e,n,ne,nf,d⟩;intro q;rw [q,hoc] at e;have q':oc=p.2:=Option.some.inj e;exact d w' (by rw [<- q'];exact hocd)
theorem Zfo(I:Inv X pins Z H s)(hN:X.N.Nodup)(hi:X.N[i]? = some x)(hx:Loc X.env.scope x)(r:RelV v u)
   (h:∀ s',Inv X pins (Z.set i (some v)) H s'->Q () s') (hf:X.fn x=true\/X.env.scope.names.lookup x=some .local:=by first|exact .inl rfl|exact .inr rfl|assumption):wpAny M A (storeName X.env x u) Q E s :=
 ZgB I hN hi hx r (fun s' I' _=>h s' I') hf
theorem Inv.call'(I:Inv X pins Z H s)(ho:s'.os=s.os)(u:Un (frs X.stack) ch H H' s.heap s'.heap)(hok:HOk X.prog X.w H' s'.heap)(hg:AllBare s'.gens)
   (hch:∀ b∈ch,(b∈X.ex\/X.s₀.heap.objs.size<=b)/\b≠X.env.locals/\(∀ x c,X.env.cells.lookup x=some c->c≠b)/\∀ p∈X.pn++pins,p.1≠b):Inv X pins Z H' s':=by
 obtain ⟨h',g',d',t',o'⟩:=s';have e:o'=s.os:=ho;subst e;exact I.call (g':=g') (t':=t') (d':=d') u hok hg hch
end
noncomputable abbrev XK:=Value->Option Addr->Hp->Prop
noncomputable abbrev St:=List (Option V)
noncomputable abbrev VK:=V->Hp->Prop
noncomputable abbrev TE:=St->Hp->VK->Prop
noncomputable abbrev TT:=St->Hp->(Bool->Hp->Prop)->Prop
noncomputable abbrev TA:=St->Hp->(List V->Hp->Prop)->Prop
structure Ends where
 nx:St->Hp->Prop
 rt:VK
 bk:St->Hp->Prop:=fun _ _=>False
 ct:St->Hp->Prop:=fun _ _=>False
noncomputable abbrev TS:=Ends->St->Hp->Prop
noncomputable def EP(X:Cx)(pins:List (Addr×Obj))(Z:St)(Q:VK)(u:Value)(s':Shared):Prop:=∃ v H',Inv X pins Z H' s'/\RelV v u/\Q v H'
noncomputable def TP(X:Cx)(pins:List (Addr×Obj))(Z:St)(Q:Bool->Hp->Prop)(b:Bool)(s':Shared):Prop:=∃ H',Inv X pins Z H' s'/\Q b H'
noncomputable def AP(X:Cx)(pins:List (Addr×Obj))(Z:St)(Q:List V->Hp->Prop)(us:List Value)(s':Shared):Prop:=∃ vs H',Inv X pins Z H' s'/\Zi vs us/\Q vs H'
noncomputable def SP(X:Cx)(pins:List (Addr×Obj))(D:Ends)(f:Flow)(s':Shared):Prop :=
 match f with
 | .next=>∃ σ' H',Inv X pins σ' H' s'/\D.nx σ' H'
 | .brk=>∃ σ' H',Inv X pins σ' H' s'/\D.bk σ' H'
 | .cont=>∃ σ' H',Inv X pins σ' H' s'/\D.ct σ' H'
 | .ret u=>∃ v σ' H',Inv X pins σ' H' s'/\RelV v u/\D.rt v H'
noncomputable def PE(X:Cx)(e:Expr)(t:TE):Prop :=
 ∀ (pins:List (Addr×Obj)) (s:Shared) (Z:St) (H:Hp) (Q:VK),Inv X pins Z H s->t Z H Q->wpAny (model X.prog X.w) X.A (eval e X.env) (EP X pins Z Q) X.xe s
noncomputable def PT(X:Cx)(e:Expr)(t:TT):Prop :=
 ∀ (pins:List (Addr×Obj)) (s:Shared) (Z:St) (H:Hp) (Q:Bool->Hp->Prop),Inv X pins Z H s->t Z H Q->wpAny (model X.prog X.w) X.A (isTrue e X.env (eval e X.env)) (TP X pins Z Q) X.xe s
noncomputable def PW(X:Cx)(e:Expr)(t:TT):Prop :=
 ∀ (whole:Sem Value) (pins:List (Addr×Obj)) (s:Shared) (Z:St) (H:Hp) (Q:Bool->Hp->Prop),Inv X pins Z H s->t Z H Q->wpAny (model X.prog X.w) X.A (isTrue e X.env whole) (TP X pins Z Q) X.xe s
theorem PW.pt(h:PW X e t):PT X e t:=h _
noncomputable def PA(X:Cx)(es:List Expr)(t:TA):Prop :=
 ∀ (pos:Pos) (pins:List (Addr×Obj)) (s:Shared) (Z:St) (H:Hp) (Q:List V->Hp->Prop),Inv X pins Z H s->t Z H Q->wpAny (model X.prog X.w) X.A (spliced (backTo pos (starEach es X.env))) (AP X pins Z Q) X.xe s
noncomputable def PS(X:Cx)(st:Stmt)(t:TS):Prop :=
 ∀ (pins:List (Addr×Obj)) (s:Shared) (Z:St) (H:Hp) (D:Ends),Inv X pins Z H s->t D Z H->wpAny (model X.prog X.w) X.A (exec st X.env) (SP X pins D) X.xe s
noncomputable def PSs(X:Cx)(st:List Stmt)(t:TS):Prop :=
 ∀ (pins:List (Addr×Obj)) (s:Shared) (Z:St) (H:Hp) (D:Ends),Inv X pins Z H s->t D Z H->wpAny (model X.prog X.w) X.A (execs st X.env) (SP X pins D) X.xe s
theorem thn(h:wpAny M A t Q E s)(hQ:∀ a s,Q a s->Q' a s):wpAny M A t Q' E s:=wpAny_mono h hQ fun _ _ x=>x
end L2
namespace L2
open PySem PySem.Spec PyProof.Rows
section
variable {X:Cx}
noncomputable def Zuh(i:Nat):TE:=fun Z H Q=>∃ v,Z[i]? = some (some v)/\Q v H
noncomputable def tC(v:V):TE:=fun _ H Q=>Q v H
theorem ZqR (hN:X.N[i]? = some x) (hv:Vis X.env.scope x) (hd:(x==("__debug__" : Str))=false:=by decide) (hcd:(x==("__classdict__" : Str))=false:=by decide):PE X (.Name x pos) (Zuh i):=by
 intro pins s Z H Q I h;obtain ⟨v,e,h⟩:=h;obtain ⟨m,hn,hl⟩:=I.loc;obtain ⟨u,r,l⟩:=hl i x v hN e hv;have fin:EP X pins Z Q u s:=⟨v,H,I,r,h⟩
 rcases l with ⟨hk,hm⟩|⟨hk,c,hc,hcell⟩
 . exact wpAny_Name (wpAny_loadName_local I.ok.kind hk hn hm fin) hd
 . rcases hk with hk|hk
   . exact wpAny_Name (wpAny_loadName_cell I.ok.kind hk hc hcell fin) hd
   . exact wpAny_Name (wpAny_loadName_free I.ok.kind hk hc hcell fin hcd) hd
theorem ZqX{i j pos}:PE X (.Constant (.int i) j pos) (tC (.int i)):=fun _ _ _ H _ I h=>wpAny_Constant_int ⟨.int i,H,I.tok _,⟨_,rfl⟩,h⟩
theorem ZsV{b j pos}:PE X (.Constant (.bool b) j pos) (tC (.bl b)):=fun _ _ _ H _ I h=>Constant_bool ⟨.bl b,H,I,rfl,h⟩
theorem ZqV{j pos}:PE X (.Constant .none j pos) (tC .non):=fun _ _ _ H _ I h=>Constant_none ⟨.non,H,I,rfl,h⟩
theorem ZqT{x j pos}:PE X (.Constant (.str x) j pos) (tC (.str x)):=fun _ _ _ H _ I h=>Calls.Constant_str ⟨.str x,H,I.tok _,⟨_,rfl⟩,h⟩
noncomputable def Gl(X:Cx)(x:Str):Prop:=X.env.kindOf x=some .globalImplicit
theorem Zfg(I:Inv X pins Z H s)(hg:Gl X x)(hm:X.mg x=some u)(h:Q u s)
   (hd:(x==("__debug__" : Str))=false:=by decide):wpAny (model X.prog X.w) X.A (eval (.Name x pos) X.env) Q E s :=
 Calls.Name_function_global I.ok.kind hg (Calls.loadGlobal_global (by rw [I.ok.glob];exact I.mod.glob.keeps I.bk) hm h) hd
theorem Zc8(I:Inv X pins Z H s)(hg:Gl X x)(hm:X.mg x=none)(hv:bootBuiltins x=some u)(h:Q u s)
   (hn:x ≠ "__name__" := by decide) (hd:(x==("__debug__" : Str))=false:=by decide):wpAny (model X.prog X.w) X.A (eval (.Name x pos) X.env) Q E s:=by
 obtain ⟨mb,h1,h2⟩:=I.mod.blt;exact Calls.Name_function_global I.ok.kind hg (Calls.loadGlobal_builtin (by rw [I.ok.glob];exact I.mod.glob.keeps I.bk) hm (by rw [I.ok.blt];exact h1.keeps I.bk) ((h2 x hn).trans hv) h) hd
theorem Zoi (hg:Gl X x) (hm:X.mg x=some u) (r:RelV v u) (hd:(x==("__debug__" : Str))=false:=by decide):PE X (.Name x pos) (tC v) :=
 fun _ _ _ H _ I h=>Zfg I hg hm ⟨v,H,I,r,h⟩ hd
theorem Zom (hg:Gl X x) (hm:X.mg x=none) (hv:bootBuiltins x=some u) (r:RelV v u) (hn:x ≠ "__name__" := by decide) (hd:(x==("__debug__" : Str))=false:=by decide):PE X (.Name x pos) (tC v) :=
 fun _ _ _ H _ I h=>Zc8 I hg hm hv ⟨v,H,I,r,h⟩ hn hd
variable {a b:Expr}{ta tb:TE}{pos:Pos}
variable {tA tB':TT}{rest:List Expr}
noncomputable def Zuu(t u:TT):TT:=fun Z H Q=>t Z H fun c H1=>if c=true then u Z H1 Q else Q false H1
noncomputable def tOr(t u:TT):TT:=fun Z H Q=>t Z H fun c H1=>if c=true then Q true H1 else u Z H1 Q
noncomputable def Zum(t:TT):TT:=fun Z H Q=>t Z H fun c H1=>Q (!c) H1
theorem Zn1(ha:PT X a tA):PW X (.BoolOp .And [a] pos) tA:=by
 intro wh pins s Z H Q I h;refine isTrue_and (thn (ha pins s Z H Q I h) fun c s1 e=>?_);cases c with
 | true=>exact isTrue_and_nil e
 | false=>exact e
theorem ZqF(ha:PT X a tA):PW X (.BoolOp .Or [a] pos) tA:=by
 intro wh pins s Z H Q I h;refine isTrue_or (thn (ha pins s Z H Q I h) fun c s1 e=>?_);cases c with
 | false=>exact isTrue_or_nil e
 | true=>exact e
theorem ZqG(ha:PT X a tA)(hb:PW X (.BoolOp .And (b::rest) pos) tB'):PW X (.BoolOp .And (a::b::rest) pos) (Zuu tA tB'):=by
 intro wh pins s Z H Q I h;refine isTrue_and (thn (ha pins s Z H _ I h) fun c s1 ⟨H1,I1,q1⟩=>?_);cases c with
 | true=>exact hb wh pins s1 Z H1 Q I1 q1
 | false=>exact ⟨H1,I1,q1⟩
theorem ZsM(ha:PT X a tA)(hb:PW X (.BoolOp .Or (b::rest) pos) tB'):PW X (.BoolOp .Or (a::b::rest) pos) (tOr tA tB'):=by
 intro wh pins s Z H Q I h;refine isTrue_or (thn (ha pins s Z H _ I h) fun c s1 ⟨H1,I1,q1⟩=>?_);cases c with
 | true=>exact ⟨H1,I1,q1⟩
 | false=>exact hb wh pins s1 Z H1 Q I1 q1
theorem ZqI(ha:PT X a tA):PT X (.UnaryOp .Not a pos) (Zum tA):=by
 intro pins s Z H Q I h;exact isTrue_not (ha pins s Z H (fun c H1=>Q (!c) H1) I h)
noncomputable def Zsx(ta tb:TE):TE:=fun Z H Q=>ta Z H fun x H1=>∃ c,x=.bl c/\if c=true then tb Z H1 Q else Q (.bl false) H1
noncomputable def Zul(ta tb:TE):TE:=fun Z H Q=>ta Z H fun x H1=>∃ c,x=.bl c/\if c=true then Q (.bl true) H1 else tb Z H1 Q
noncomputable def Zsr(ta:TE):TE:=fun Z H Q=>ta Z H fun x H1=>∃ c,x=.bl c/\Q (.bl (!c)) H1
theorem Zmk{op}(h:PE X a t):PE X (.BoolOp op [a] pos) t:=fun pins s Z H Q I hw=>BoolOp_one (h pins s Z H Q I hw)
theorem Zq1(ha:PE X a ta)(hb:PE X (.BoolOp .And (b::rest) pos) tb):PE X (.BoolOp .And (a::b::rest) pos) (Zsx ta tb):=by
 intro pins s Z H Q I h;refine BoolOp_and (thn (ha pins s Z H _ I h) fun v s1 ⟨x,H1,I1,r1,q1⟩=>?_);obtain ⟨c,rfl,q1⟩:=q1;cases r1;refine wpAny_truthy_bool ?_;cases c with
 | true=>exact hb pins s1 Z H1 Q I1 q1
 | false=>exact ⟨.bl false,H1,I1,rfl,q1⟩
theorem ZsS(ha:PE X a ta)(hb:PE X (.BoolOp .Or (b::rest) pos) tb):PE X (.BoolOp .Or (a::b::rest) pos) (Zul ta tb):=by
 intro pins s Z H Q I h;refine BoolOp_or (thn (ha pins s Z H _ I h) fun v s1 ⟨x,H1,I1,r1,q1⟩=>?_);obtain ⟨c,rfl,q1⟩:=q1;cases r1;refine wpAny_truthy_bool ?_;cases c with
 | false=>exact hb pins s1 Z H1 Q I1 q1
 | true=>exact ⟨.bl true,H1,I1,rfl,q1⟩
theorem ZqU(ha:PE X a ta):PE X (.UnaryOp .Not a pos) (Zsr ta):=by
 intro pins s Z H Q I h;refine UnaryOp_ (thn (ha pins s Z H _ I h) fun v s1 ⟨x,H1,I1,r1,q1⟩=>?_);obtain ⟨c,rfl,q1⟩:=q1;cases r1;exact not_of (wpAny_truthy_bool ⟨.bl (!c),H1,I1,rfl,q1⟩)
noncomputable def tIf(t:TT)(ta tb:TE):TE:=fun Z H Q=>t Z H fun c H1=>if c=true then ta Z H1 Q else tb Z H1 Q
theorem Zmn(hc:PT X c tA)(ha:PE X a ta)(hb:PE X b tb):PE X (.IfExp c a b pos) (tIf tA ta tb):=by
 intro pins s Z H Q I h;refine wpAny_IfExp (thn (hc pins s Z H _ I h) fun d s1 ⟨H1,I1,q1⟩=>?_);cases d with
 | true=>exact ha pins s1 Z H1 Q I1 q1
 | false=>exact hb pins s1 Z H1 Q I1 q1
end
end L2
namespace L2
open PySem PySem.Spec PyProof.Rows
noncomputable def SqL(K:PySem.W.Frag)(H:Hp)(a:Addr)(xs:List V):Prop :=
 Rd H a (.lst xs) \/
   ∃ (o:Obj) (its:Array Value) (n:Nat),K.lookup a=some o/\o.cls=.type "list" /\ o.dict=none/\o.data=.seq its n/\its.size<=sizeLine/\Zi xs its.toList
noncomputable def SqT(K:PySem.W.Frag)(H:Hp)(a:Addr)(xs:List V):Prop :=
 Rd H a (.tup xs) \/
   ∃ (o:Obj) (its:Array Value) (n:Nat),K.lookup a=some o/\o.cls=.type "tuple" /\ o.data=.seq its n/\its.size<=sizeLine/\Zi xs its.toList
noncomputable def Zvn:Value->Option V
 | .none=>some .non
 | .bool b=>some (.bl b)
 | .int i _=>some (.int i)
 | .str x _=>some (.str x)
 | .bytes b _=>some (.byt b)
 | .float b _=>some (.flt b)
 | .ref a=>some (.ref a)
 | .type n=>some (.ty n)
 | _=>none
theorem RelV.abs(r:RelV x u):Zvn u=some x:=by
 cases x with
 | non=>cases r;rfl
 | bl _=>cases r;rfl
 | int _=>obtain ⟨t,rfl⟩:=r;rfl
 | str _=>obtain ⟨t,rfl⟩:=r;rfl
 | byt _=>obtain ⟨t,rfl⟩:=r;rfl
 | flt _=>obtain ⟨t,rfl⟩:=r;rfl
 | ref _=>cases r;rfl
 | ty _=>cases r;rfl
theorem RelV.inj(r:RelV x u)(q:RelV y u):x=y:=Option.some.inj (r.abs.symm.trans q.abs)
theorem Zi.inj:∀ {xs ys:List V}{us:List Value},Zi xs us->Zi ys us->xs=ys
 | _,_,_,.nil,.nil=>rfl
 | _,_,_,.cons r t,.cons r' t'=>by rw [r.inj r',Zi.inj t t']
section
variable {X:Cx}{pins:List (Addr×Obj)}{Z:St}{H:Hp}{s:Shared}{a:Addr}{xs ys:List V}
theorem SqL.of{K:PySem.W.Frag}(h:H a=some (.lst xs)):SqL K H a xs:=.inl (.inl h)
theorem Inv.list(I:Inv X pins Z H s)(h:SqL X.K H a xs):∃ its:List Value,Zi xs its/\PlainL s.heap a its.toArray/\xs.length<=sizeLine:=by
 rcases h with h|⟨o,its,n,hk,hc,hd,hs,hz,r⟩
 . obtain ⟨z,its,n,r,e⟩:=h.ok I.hok;exact ⟨its,r,⟨_,n,e,rfl,rfl,rfl⟩,z⟩
 . refine ⟨its.toList,r,⟨o,n,I.kIn a o hk,hc,hd,by simpa using hs⟩,?_⟩;have e:=r.length;simp only [Array.length_toList] at e
   lia
theorem Inv.tuple(I:Inv X pins Z H s)(h:SqT X.K H a xs):∃ its:List Value,Zi xs its/\IsTup s.heap a its.toArray/\xs.length<=sizeLine:=by
 rcases h with h|⟨o,its,n,hk,hc,hs,hz,r⟩
 . obtain ⟨z,its,r,p⟩:=h.ok I.hok;exact ⟨its,r,p.tup,z⟩
 . refine ⟨its.toList,r,⟨o,I.kIn a o hk,hc,n,by simpa using hs⟩,?_⟩;have e:=r.length;simp only [Array.length_toList] at e
   lia
theorem Inv.list_inj(I:Inv X pins Z H s)(h:SqL X.K H a xs)(h':SqL X.K H a ys):xs=ys:=by
 obtain ⟨its,r,⟨o,n,e,_,_,d⟩,_⟩:=I.list h;obtain ⟨its',r',⟨o',n',e',_,_,d'⟩,_⟩:=I.list h';rw [e] at e';cases e';rw [d] at d';injection d' with d1 _;have:its=its':=by simpa using congrArg Array.toList d1
 subst this;exact r.inj r'
theorem Inv.tuple_inj(I:Inv X pins Z H s)(h:SqT X.K H a xs)(h':SqT X.K H a ys):xs=ys:=by
 obtain ⟨its,r,⟨o,e,_,n,d⟩,_⟩:=I.tuple h;obtain ⟨its',r',⟨o',e',_,n',d'⟩,_⟩:=I.tuple h';rw [e] at e';cases e';rw [d] at d';injection d' with d1 _;have:its=its':=by simpa using congrArg Array.toList d1
 subst this;exact r.inj r'
end
section
variable {X:Cx}{st:Stmt}{rest:List Stmt}{t u:TS}{e:Expr}{te:TE}{pos:Pos}
noncomputable def ZpI:TS:=fun D Z H=>D.nx Z H
noncomputable def Zuj(t u:TS):TS:=fun D Z H=>t {D with nx:=u D} Z H
theorem Zn4:PSs X [] ZpI:=fun _ _ Z H _ I h=>wpAny_execs_nil ⟨Z,H,I,h⟩
theorem Zma(h1:PS X st t)(h2:PSs X rest u):PSs X (st::rest) (Zuj t u):=by
 intro pins s Z H D I h;refine wpAny_execs_cons (thn (h1 pins s Z H {D with nx:=u D} I h) fun f s1 q=>?_);cases f with
 | next =>
   obtain ⟨σ',H',I',q⟩:=q;exact h2 pins s1 σ' H' D I' q
 | ret v=>exact q
 | brk=>exact q
 | cont=>exact q
noncomputable def Zqu:TS:=fun D Z H=>D.bk Z H
noncomputable def Zsu:TS:=fun D Z H=>D.ct Z H
theorem Zn5:PS X (.Pass pos) ZpI:=fun _ _ Z H _ I h=>wpAny_Pass ⟨Z,H,I,h⟩
theorem Zmd:PS X (.Break pos) Zqu:=fun _ _ Z H _ I h=>wpAny_Break ⟨Z,H,I,h⟩
theorem ZhP:PS X (.Continue pos) Zsu:=fun _ _ Z H _ I h=>wpAny_Continue ⟨Z,H,I,h⟩
theorem Inv.quiet(I:Inv X pins Z H s):interactive X.env=false:=by simp [interactive,I.ok.kind]
noncomputable def Zss(te:TE):TS:=fun D Z H=>te Z H fun _ H1=>D.nx Z H1
theorem Zn6(he:PE X e te)(hs:swapsWith e none pos.line X.env=pure false:=by rfl):PS X (.Expr e pos) (Zss te):=by
 intro pins s Z H D I h;exact wpAny_Expr_any (thn (he pins s Z H _ I h) fun v s1 ⟨x,H1,I1,r1,q1⟩=>⟨Z,H1,I1,q1⟩) I.quiet hs
noncomputable def Zuk(te:TE):TS:=fun D Z H=>te Z H D.rt
theorem ZqJ(he:PE X e te):PS X (.Return (some e) pos) (Zuk te):=by
 intro pins s Z H D I h;exact wpAny_Return_some (thn (he pins s Z H _ I h) fun v s1 ⟨x,H1,I1,r1,q1⟩=>⟨x,Z,H1,I1,r1,q1⟩)
noncomputable def Zuo(c:TT)(t u:TS):TS:=fun D Z H=>c Z H fun b H1=>if b=true then t D Z H1 else u D Z H1
theorem ZsQ(hc:PT X c tc)(ha:PSs X a t)(hb:PSs X b u):PS X (.If c a b pos) (Zuo tc t u):=by
 intro pins s Z H D I h;refine wpAny_If (thn (hc pins s Z H _ I h) fun d s1 ⟨H1,I1,q1⟩=>?_);cases d with
 | true=>exact ha pins s1 Z H1 D I1 q1
 | false=>exact hb pins s1 Z H1 D I1 q1
end
noncomputable abbrev TG:=V->St->Hp->(St->Hp->Prop)->Prop
noncomputable abbrev TGs:=List V->St->Hp->(St->Hp->Prop)->Prop
noncomputable def PG(X:Cx)(target:Expr)(t:TG):Prop :=
 ∀ (pins:List (Addr×Obj)) (s:Shared) (Z:St) (H:Hp) (v:V) (u:Value) (Q:St->Hp->Prop),Inv X pins Z H s->RelV v u->t v Z H Q ->
   wpAny (model X.prog X.w) X.A (assign target X.env u) (fun _ s'=>∃ σ' H',Inv X pins σ' H' s'/\Q σ' H') X.xe s
noncomputable def PGs(X:Cx)(ts:List Expr)(t:TGs):Prop :=
 ∀ (pins:List (Addr×Obj)) (s:Shared) (Z:St) (H:Hp) (vs:List V) (us:List Value) (Q:St->Hp->Prop),Inv X pins Z H s->Zi vs us->t vs Z H Q ->
   wpAny (model X.prog X.w) X.A (assignInOrder ((assignEach ts X.env).map (·.2)) us) (fun _ s'=>∃ σ' H',Inv X pins σ' H' s'/\Q σ' H') X.xe s
noncomputable abbrev ZpA:=V->V->V->Hp->(Hp->Prop)->Prop
noncomputable def ZpB(X:Cx)(t:ZpA):Prop :=
 ∀ (pins:List (Addr×Obj)) (s:Shared) (Z:St) (H:Hp) (o i v:V) (ov iv u:Value) (Q:Hp->Prop),Inv X pins Z H s->RelV o ov->RelV i iv->RelV v u->t o i v H Q ->
   wpAny (model X.prog X.w) X.A (setItem ov iv u) (fun _ s'=>∃ H',Inv X pins Z H' s'/\Q H') X.xe s
noncomputable abbrev TIp:=V->V->Hp->VK->Prop
noncomputable def PIp(X:Cx)(op:Operator)(t:TIp):Prop :=
 ∀ (pins:List (Addr×Obj)) (s:Shared) (Z:St) (H:Hp) (x y:V) (v u:Value) (Q:VK),Inv X pins Z H s->RelV x v->RelV y u->t x y H Q ->
   wpAny (model X.prog X.w) X.A (inplaceOp op v u) (EP X pins Z Q) X.xe s
section
variable {X:Cx}{pos:Pos}
noncomputable def ZbK(i:Nat):TG:=fun v Z H Q=>Q (Z.set i (some v)) H
theorem ZjU(hN:X.N.Nodup)(hi:X.N[i]? = some x)(hx:Loc X.env.scope x)(hf:X.fn x=true\/X.env.scope.names.lookup x=some .local:=by first|exact .inl rfl|exact .inr rfl|assumption):PG X (.Name x pos) (ZbK i):=by
 intro pins s Z H v u Q I r h;exact wpAny_assign_Name (Zfo I hN hi hx r (fun s' I'=>⟨_,H,I',h⟩) hf)
noncomputable def Zo0:TGs:=fun vs Z H Q=>vs=[]/\Q Z H
noncomputable def Zig(t:TG)(u:TGs):TGs:=fun vs Z H Q=>∃ v r,vs=v::r/\t v Z H fun σ' H'=>u r σ' H' Q
theorem ZjS:PGs X [] Zo0:=by
 intro pins s Z H vs us Q I r h;obtain ⟨e,h⟩:=h;subst e;cases r;exact assignInOrder_nil ⟨Z,H,I,h⟩
theorem Zfx(h1:PG X e t)(h2:PGs X es u)
   (hs:(assignEach (e::es) X.env).map (·.2)=assign e X.env::(assignEach es X.env).map (·.2):=by rfl):PGs X (e::es) (Zig t u):=by
 intro pins s Z H vs us Q I r h;obtain ⟨v,vr,e1,h⟩:=h;subst e1;cases r with
 | cons r rr =>
   rw [hs];refine assignInOrder_cons (thn (h1 pins s Z H _ _ _ I r h) fun _ s1 ⟨σ1,H1,I1,q1⟩=>?_);exact h2 pins s1 σ1 H1 _ _ Q I1 rr q1
noncomputable def ZoZ(K:PySem.W.Frag)(n:Nat)(t:TGs):TG:=fun v Z H Q=>∃ a xs,v=.ref a/\SqT K H a xs/\xs.length=n/\t xs Z H Q
theorem Zmi(hc:X.calm=true)(h:PGs X es t)
   (hn:(assignEach es X.env).length=n:=by rfl) (hst:(assignEach es X.env).findIdx? (·.1)=none:=by rfl):PG X (.Tuple es k pos) (ZoZ X.K n t):=by
 intro pins s Z H v u Q I r hw;obtain ⟨a,xs,e1,hq,hl,hw⟩:=hw;subst e1;cases r;obtain ⟨its,rv,ht,hz⟩:=I.tuple hq;refine assign_Tuple_tuple (I.ok.hd hc) ht (by simp [hn,<- hl,rv.length]) hst fun h' hx=>?_;have I1:Inv X pins Z H {s with heap:=h'}:=I.kept (t':=s.toks) fun b o e=>hx b o (Ou (Heap.lt_size e)) e;exact h pins _ Z H xs _ Q I1 (by simpa using rv) hw
noncomputable def Zu0(to ti:TE)(t:ZpA):TG:=fun v Z H Q=>to Z H fun o H1=>ti Z H1 fun i H2=>t o i v H2 fun H3=>Q Z H3
theorem ZqQ(ho:PE X o to)(hi:PE X i ti)(hs:ZpB X t)
   (ha:∀ v,assign (.Subscript o i pos) X.env v=(do
     let ov <- holding [v] (eval o X.env);let iv <- holding [v,ov] (eval i X.env)
     standAt pos
     holding [v,ov,iv] (setItem ov iv v)
     release [v,ov,iv] []):=by intro _;rfl):PG X (.Subscript o i pos) (Zu0 to ti t):=by
 intro pins s Z H v u Q I r h;rw [ha];refine wpAny_bind (wpAny_holding (thn (ho pins s Z H _ I h) fun ov s1 ⟨x,H1,I1,r1,q1⟩=>?_));refine wpAny_bind (wpAny_holding (thn (hi pins s1 Z H1 _ I1 q1) fun iv s2 ⟨y,H2,I2,r2,q2⟩=>?_));refine wpAny_bind (wpAny_standAt (wpAny_bind (wpAny_holding (thn (hs pins s2 Z H2 x y v ov iv u _ I2 r1 r2 r q2) fun _ s3 ⟨H3,I3,q3⟩=>?_))));exact wpAny_release ⟨Z,H3,I3,q3⟩
noncomputable def ZiP(te:TE)(g:TG):TS:=fun D Z H=>te Z H fun x H1=>g x Z H1 D.nx
theorem Zme(he:PE X e te)(hg:PG X tg g)(hs:swapsWithSole [tg] e pos.line X.env=pure false:=by rfl)(hw:swappedStores [tg] e X.env=pure none:=by rfl)
   (h1:(assignEach [tg] X.env).map (·.2)=[assign tg X.env]:=by rfl):PS X (.Assign [tg] e pos) (ZiP te g):=by
 intro pins s Z H D I h;refine wpAny_Assign_stores (thn (he pins s Z H _ I h) fun v s1 ⟨x,H1,I1,r1,q1⟩=>?_) hs hw;rw [h1];exact thn (hg pins s1 Z H1 x v _ I1 r1 q1) fun _ s2 q=>q
theorem Zmc(hN:X.N.Nodup)(hi:X.N[i]? = some x)(hx:Loc X.env.scope x)(he:PE X e te)(hs:swapsWith e (some (.Name x pos')) pos.line X.env=pure false:=by rfl)(hf:X.fn x=true\/X.env.scope.names.lookup x=some .local:=by first|exact .inl rfl|exact .inr rfl|assumption) :
   PS X (.Assign [.Name x pos'] e pos) (ZiP te (ZbK i)):=by
 intro pins s Z H D I h;refine wpAny_Assign_Name (thn (he pins s Z H _ I h) fun v s1 ⟨y,H1,I1,r1,q1⟩=>?_) hs;exact Zfo I1 hN hi hx r1 (fun s2 I2=>⟨_,H1,I2,q1⟩) hf
noncomputable def Zut(i:Nat)(te:TE)(ti:TIp):TS:=fun D Z H=>∃ x,Z[i]? = some (some x)/\te Z H fun y H1=>ti x y H1 fun z H2=>D.nx (Z.set i (some z)) H2
theorem ZqM(hN:X.N.Nodup)(hi:X.N[i]? = some x)(hx:Loc X.env.scope x)(he:PE X e te)(ho:PIp X op ti)(hf:X.fn x=true\/X.env.scope.names.lookup x=some .local:=by first|exact .inl rfl|exact .inr rfl|assumption) :
   PS X (.AugAssign (.Name x pos') op e pos) (Zut i te ti):=by
 intro pins s Z H D I h;obtain ⟨v,e1,h⟩:=h;obtain ⟨m,hn,hl⟩:=I.loc;have vis:Vis X.env.scope x:=by rcases hx with k|k;exact .inl k;exact .inr (.inl k)
 obtain ⟨u,r,l⟩:=hl i x v hi e1 vis;refine wpAny_AugAssign_Name ?_;have go:wpAny (model X.prog X.w) X.A (eval e X.env) (fun w s₂=>wpAny (model X.prog X.w) X.A (inplaceOp op u w) (fun r s₃=>wpAny (model X.prog X.w) X.A (storeName X.env x r) (fun _=>SP X pins D .next) X.xe s₃) X.xe s₂) X.xe s:=by
   refine thn (he pins s Z H _ I h) fun w s1 ⟨y,H1,I1,r1,q1⟩=>?_;refine thn (ho pins s1 Z H1 v y u w _ I1 r r1 q1) fun z s2 ⟨zv,H2,I2,r2,q2⟩=>?_;exact Zfo I2 hN hi hx r2 (fun s3 I3=>⟨_,H2,I3,q2⟩) hf
 rcases l with ⟨hk,hm⟩|⟨hk,c,hc,hcell⟩
 . exact wpAny_loadName_local I.ok.kind hk hn hm go
 . rcases hk with hk|hk
   . exact wpAny_loadName_cell I.ok.kind hk hc hcell go
   . rcases hx with k|k
     . have:X.env.scope.names.lookup x=some .free:=hk;rw [k] at this;cases this
     . have:X.env.scope.names.lookup x=some .free:=hk;rw [k] at this;cases this
noncomputable def ipI(f:Int->Int->Int):TIp:=fun x y H Q=>∃ i j,x=.int i/\y=.int j/\Q (.int (f i j)) H
theorem Zry:PIp X .Add (ipI fun i j=>i+j):=by
 intro pins s Z H x y v u Q I r1 r2 h;obtain ⟨i,j,e1,e2,q⟩:=h;subst e1;subst e2;obtain ⟨t,rfl⟩:=r1;obtain ⟨t',rfl⟩:=r2;exact iadd_int ⟨.int _,H,I.tok _,⟨_,rfl⟩,q⟩
end
section
variable {X:Cx}{pos:Pos}
noncomputable def ZlI(c:TT)(tb:TS):TS:=fun D Z H=>∃ W:Nat->St->Hp->Prop,(∃ m,W m Z H)/\∀ m Z H,W m Z H ->
 c Z H fun b H1=>if b=true then ∃ N:St->Hp->Prop,(∀ σ' H',N σ' H'->∃ m',m'<m/\W m' σ' H')/\tb {D with nx:=N,ct:=N,bk:=D.nx} Z H1 else D.nx Z H1
theorem Zmb(hp:PassesOwn (model X.prog X.w) X.A X.env X.xe)(hc:PT X c tc)(hb:PSs X body tb):PS X (.While c body [] pos) (ZlI tc tb):=by
 intro pins s Z H D I h;obtain ⟨W,⟨m0,w0⟩,turn⟩:=h;refine wpAny_While (codeAny_whileLoop (fun n s'=>∃ σ' H',Inv X pins σ' H' s'/\W n σ' H') ?_ m0 ⟨Z,H,I,w0⟩);rintro n s1 ⟨σ1,H1,I1,w1⟩;refine wpAny_passesOwn hp (thn (hc pins s1 σ1 H1 _ I1 (turn n σ1 H1 w1)) fun b s2 ⟨H2,I2,q2⟩=>?_);cases b with
 | true =>
   obtain ⟨N,hN,q2⟩:=q2;rw [if_pos rfl];refine wpAny_passesOwn hp (thn (hb pins s2 σ1 H2 _ I2 q2) fun f s3 q3=>?_);cases f with
   | next =>
     obtain ⟨σ3,H3,I3,n3⟩:=q3;obtain ⟨m',hm,w3⟩:=hN σ3 H3 n3;exact ⟨m',hm,σ3,H3,I3,w3⟩
   | cont =>
     obtain ⟨σ3,H3,I3,n3⟩:=q3;obtain ⟨m',hm,w3⟩:=hN σ3 H3 n3;exact ⟨m',hm,σ3,H3,I3,w3⟩
   | brk=>exact q3
   | ret v=>exact q3
 | false =>
   rw [if_neg Ow];exact wpAny_execs_nil ⟨σ1,H2,I2,q2⟩
end
structure It where
 go:Nat->Hp->Prop
 yld:Nat->Hp->V->Hp->Prop
 stop:Nat->Hp->Prop
noncomputable def ZbT(X:Cx)(pins:List (Addr×Obj))(H:Hp)(b:Addr):Prop :=
 H b=none/\b≠X.env.locals/\b ∉ X.fs/\(b∈X.ex\/X.s₀.heap.objs.size<=b)/\(∀ x c,X.env.cells.lookup x=some c->c≠b)/\∀ p∈X.pn++pins,p.1≠b
theorem Inv.fpOk(I:Inv X pins Z H s)(hb:s.heap.objs.size<=b)(hn:H' b=none):ZbT X pins H' b:=by
 refine ⟨hn,Nat.ne_of_gt (Ot I.lt hb),I.nofs hb,.inr (OE I.sz hb),fun x c e z=>?_,fun p hp z=>?_⟩
 . obtain ⟨v,q⟩:=I.cell x c e;exact absurd (Ot q.lt (by rw [z];exact hb)) (Nat.lt_irrefl _)
 . exact absurd (Ot (Heap.lt_size (I.pin p hp).1) (by rw [z];exact hb)) (Nat.lt_irrefl _)
structure Turn(P:Program)(w:World)(K:PySem.W.Frag)(tg:Expr)(J:It)(fp:List Addr)(it:Addr)(tn:Nat->Heap->Prop):Prop where
 mem:it∈fp
 obj:∀ i h,tn i h->∀ b∈fp,∃ o,h.get? b=some o/\∀ v,o.data≠.cell v
 keep:∀ i h h',tn i h->(∀ b∈fp,∀ o,h.get? b=some o->h'.get? b=some o)->tn i h'
 item:∀ (X:Cx),X.prog=P->X.w=w->X.K=K->X.calm=true->∀ (i:Nat) (pins:List (Addr×Obj)) (s:Shared) (Z:St) (H:Hp) (E:Value->Shared->Prop),Inv X pins Z H s->(∀ b∈fp,ZbT X pins H b)->tn i s.heap->J.go i H ->
   wpAny (model P w) X.A (pyNext (.ref it)) (fun r s1=>∃ u,r=some u /\
     wpAny (model P w) X.A (letOwnedTupleGo tg (.ref it) u) (fun _ s2=>∃ x H',Inv X pins Z H' s2/\RelV x u/\J.yld i H x H'/\tn (i+1) s2.heap/\∀ b∈fp,H' b=none) E s1) E s
 done:∀ (X:Cx),X.prog=P->X.w=w->X.K=K->X.calm=true->∀ (i:Nat) (pins:List (Addr×Obj)) (s:Shared) (Z:St) (H:Hp) (E:Value->Shared->Prop),Inv X pins Z H s->(∀ b∈fp,ZbT X pins H b)->tn i s.heap->J.stop i H ->
   wpAny (model P w) X.A (pyNext (.ref it)) (fun r s1=>r=none/\Inv X pins Z H s1) E s
 self:∀ (A:Around) (i:Nat) (s:Shared) (Q:Value->Shared->Prop) (E:Value->Shared->Prop),tn i s.heap->Q (.ref it) s->wpAny (model P w) A (pyIter (.ref it)) Q E s
noncomputable abbrev TI:=St->Hp->(It->Hp->Prop)->Prop
noncomputable def PIE(X:Cx)(pins:List (Addr×Obj))(Z:St)(tg:Expr)(R:It->Hp->Prop)(itv:Value)(s2:Shared):Prop :=
 ∃ (it:Addr) (fp:List Addr) (tn:Nat->Heap->Prop) (J:It) (H':Hp),itv=.ref it/\Inv X pins Z H' s2/\Turn X.prog X.w X.K tg J fp it tn/\tn 0 s2.heap/\(∀ b∈fp,ZbT X pins H' b)/\R J H'
noncomputable def PI(X:Cx)(tg iter:Expr)(wi:TI):Prop :=
 ∀ (pins:List (Addr×Obj)) (s:Shared) (Z:St) (H:Hp) (R:It->Hp->Prop),Inv X pins Z H s->wi Z H R ->
   wpAny (model X.prog X.w) X.A (eval iter X.env) (fun v s1=>wpAny (model X.prog X.w) X.A (pyIter v) (PIE X pins Z tg R) X.xe s1) X.xe s
theorem Zie(ho:s.heap.get? it=some o)(hc:o.cls=.type n)(hd:o.data=.fields vs)
   (hn:["enumerate", "zip", "dict_itemiterator", "dict_reverseitemiterator", "odict_iterator", "itertools.zip_longest", "itertools.pairwise"].contains n=false) (hQ:Q () s):wpAny M A (letOwnedTupleGo tg (.ref it) u) Q E s:=by
 unfold letOwnedTupleGo;cases tg<;>first
   | exact wpAny_pure hQ
   | (cases u<;>first
       | exact wpAny_pure hQ
       | (refine wpAny_bind (wpAny_load ho ?_)
          rw [hc,hd];show wpAny M A (if (["enumerate", "zip", "dict_itemiterator", "dict_reverseitemiterator", "odict_iterator", "itertools.zip_longest", "itertools.pairwise"].contains n&&vs[0]?==some (rawInt _))=true then _ else _) Q E s;rw [if_neg (by intro h;rw [hn,Bool.false_and] at h;cases h)];exact wpAny_pure hQ))
noncomputable def Itl(K:PySem.W.Frag)(a:Addr):It :=
 ⟨fun i H=>∃ xs x,SqL K H a xs/\xs[i]? = some x,fun i H x H'=>H'=H/\∀ xs,SqL K H a xs->xs[i]? = some x,fun i H=>∃ xs,SqL K H a xs/\xs.length<=i⟩
noncomputable def Itt(K:PySem.W.Frag)(a:Addr):It :=
 ⟨fun i H=>∃ xs x,SqT K H a xs/\xs[i]? = some x,fun i H x H'=>H'=H/\∀ xs,SqT K H a xs->xs[i]? = some x,fun i H=>∃ xs,SqT K H a xs/\xs.length<=i⟩
noncomputable def Itr(lo:Int)(n:Nat):It:=⟨fun i _=>i<n,fun i H x H'=>H'=H/\x=.int (lo+i),fun i _=>n<=i⟩
theorem ZkG{P:Program}{w:World}{K:PySem.W.Frag}{tg:Expr}(a it:Addr):Turn P w K tg (Itl K a) [it] it (fun i h=>h.IsListIter it a i) where
 mem:=by simp
 obj:=fun i h st b hb=>by
   have e:b=it:=by simpa using hb
   subst e;obtain ⟨o,e,c,d⟩:=st;exact ⟨o,e,fun v z=>by rw [d] at z;cases z⟩
 keep:=fun i h h' st k=>st.at fun o e=>k it (by simp) o e
 item:=by
   intro X hP hw hK hc i pins s Z H E I hf st hg;subst hP hw hK;obtain ⟨xs,x,hq,hx⟩:=hg;obtain ⟨its,rv,p,hz⟩:=I.list hq;obtain ⟨u,hu,ru⟩:=rv.get hx;obtain ⟨f0,f1,f2,f3,f4,f5⟩:=hf it (by simp);refine wpAny_pyNext_list_item st p.isList (x:=u) (by simpa using hu) fun h' st' sb=>?_;have I1:Inv X pins Z H {s with heap:=h'}:=I.turned (t':=s.toks) (fun b o hb e=>(sb.2 b hb).trans e) f0 f1 f3 f4 f5;obtain ⟨o,e,c,d⟩:=id st';exact ⟨u,rfl,Zie (s:={s with heap:=h'}) e c d (by decide) ⟨x,H,I1,ru,⟨rfl,fun ys hy=>by rw [I.list_inj hy hq];exact hx⟩,st',fun b hb=>(hf b hb).1⟩⟩
 done:=by
   intro X hP hw hK hc i pins s Z H E I hf st hg;subst hP hw hK;obtain ⟨xs,hq,hx⟩:=hg;obtain ⟨its,rv,p,hz⟩:=I.list hq;obtain ⟨f0,f1,f2,f3,f4,f5⟩:=hf it (by simp);have hl:=rv.length;exact wpAny_pyNext_list_end (I.ok.hd hc) st p.isList (by simp;lia) fun h' eb=>⟨rfl,I.turned (t':=s.toks) (fun b o hb e=>eb b o hb e) f0 f1 f3 f4 f5⟩
 self:=fun _ _ _ _ _ st h=>wpAny_pyIter_listiter st h
theorem ZiN{P:Program}{w:World}{K:PySem.W.Frag}{tg:Expr}(a it:Addr):Turn P w K tg (Itt K a) [it] it (fun i h=>h.IsTupleIter it a i) where
 mem:=by simp
 obj:=fun i h st b hb=>by
   have e:b=it:=by simpa using hb
   subst e;obtain ⟨o,e,c,d⟩:=st;exact ⟨o,e,fun v z=>by rw [d] at z;cases z⟩
 keep:=fun i h h' st k=>st.at fun o e=>k it (by simp) o e
 item:=by
   intro X hP hw hK hc i pins s Z H E I hf st hg;subst hP hw hK;obtain ⟨xs,x,hq,hx⟩:=hg;obtain ⟨its,rv,p,hz⟩:=I.tuple hq;obtain ⟨u,hu,ru⟩:=rv.get hx;obtain ⟨f0,f1,f2,f3,f4,f5⟩:=hf it (by simp);refine wpAny_pyNext_tuple_item st (show s.heap.IsTuple a its.toArray from p) (x:=u) (by simpa using hu) fun h' st' sb=>?_;have I1:Inv X pins Z H {s with heap:=h'}:=I.turned (t':=s.toks) (fun b o hb e=>(sb.2 b hb).trans e) f0 f1 f3 f4 f5;obtain ⟨o,e,c,d⟩:=id st';exact ⟨u,rfl,Zie (s:={s with heap:=h'}) e c d (by decide) ⟨x,H,I1,ru,⟨rfl,fun ys hy=>by rw [I.tuple_inj hy hq];exact hx⟩,st',fun b hb=>(hf b hb).1⟩⟩
 done:=by
   intro X hP hw hK hc i pins s Z H E I hf st hg;subst hP hw hK;obtain ⟨xs,hq,hx⟩:=hg;obtain ⟨its,rv,p,hz⟩:=I.tuple hq;obtain ⟨f0,f1,f2,f3,f4,f5⟩:=hf it (by simp);have hl:=rv.length;exact wpAny_pyNext_tuple_end (I.ok.hd hc) st (show s.heap.IsTuple a its.toArray from p) (by simp;lia) fun h' eb=>⟨rfl,I.turned (t':=s.toks) (fun b o hb e=>eb b o hb e) f0 f1 f3 f4 f5⟩
 self:=fun _ _ _ _ _ st h=>wpAny_pyIter_tupleiter st h
theorem ZiO{P:Program}{w:World}{K:PySem.W.Frag}{tg:Expr}(it:Addr)(lo:Int)(n:Nat):Turn P w K tg (Itr lo n) [it] it (fun i h=>IsRangeIter h it (lo+(i:Nat) * 1) ((n:Int) - (i:Nat)) 1) where
 mem:=by simp
 obj:=fun i h st b hb=>by
   have e:b=it:=by simpa using hb
   subst e;exact ⟨_,st,fun v z=>by
     have z':Data.fields _=Data.cell v:=z;cases z'⟩
 keep:=fun i h h' st k=>k it (by simp) _ st
 item:=by
   intro X hP hw hK hc i pins s Z H E I hf st hg;subst hP hw hK;obtain ⟨f0,f1,f2,f3,f4,f5⟩:=hf it (by simp);have W:=Walks.range (prog:=X.prog) (w:=X.w) (I.ok.hd hc) it lo 1 n;refine W.item i s _ _ hg st fun v h' tk hv st' kk=>?_;obtain ⟨t,rfl⟩:=hv;have I1:Inv X pins Z H {s with heap:=h',toks:=tk}:=I.turned (fun b o hb e=>kk b o (by simpa using hb) e) f0 f1 f3 f4 f5;refine ⟨_,rfl,Zie (s:={s with heap:=h',toks:=tk}) (n := "range_iterator") st' rfl rfl (by decide) ⟨.int (lo+i),H,I1,⟨t,?_⟩,⟨rfl,rfl⟩,st',fun b hb=>(hf b hb).1⟩⟩;rw [Int.mul_one]
 done:=by
   intro X hP hw hK hc i pins s Z H E I hf st hg;subst hP hw hK;obtain ⟨f0,f1,f2,f3,f4,f5⟩:=hf it (by simp);exact wpAny_pyNext_range_end (I.ok.hd hc) st (by have:n<=i:=hg;lia) fun h' eb=>⟨rfl,I.turned (t':=s.toks) (fun b o hb e=>eb b o hb e) f0 f1 f3 f4 f5⟩
 self:=fun _ _ _ _ _ st h=>wpAny_pyIter_rangeiter st h
end L2
namespace L2
open PySem PySem.Spec PyProof.Rows
section
variable {X:Cx}{tg:Expr}
theorem ZlZ{pins:List (Addr×Obj)}{Z:St}{H:Hp}{s:Shared}{R:It->Hp->Prop}{E:Value->Shared->Prop}{lo hi:Int}{t u v:Tok}{tk:Nat}(I:Inv X pins Z H s)(h1:-(2 ^ 62)<=lo)(h2:lo<2 ^ 62)(h3:-(2 ^ 62)<=hi)(h4:hi<2 ^ 62)
   (q:R (Itr lo (hi - lo).toNat) H):wpAny (model X.prog X.w) X.A (pyIter (.ref s.heap.objs.size)) (PIE X pins Z tg R) E {s with heap:=s.heap.push {cls:=.type "range",data:=.fields #[.int lo t,.int hi u,.int 1 v]},toks:=tk}:=by
 refine wpAny_pyIter_range (IsRange.new ..) (small_one h1 h2 h3 h4) ?_;have I1:Inv X pins Z H {s with heap:=s.heap.push {cls:=.type "range",data:=.fields #[.int lo t,.int hi u,.int 1 v]},toks:=tk}:=I.kept fun b o e=>Od _ e;refine ⟨(s.heap.push {cls:=.type "range",data:=.fields #[.int lo t,.int hi u,.int 1 v]}).objs.size,[(s.heap.push {cls:=.type "range",data:=.fields #[.int lo t,.int hi u,.int 1 v]}).objs.size],_,_,H,rfl,
   I1.kept (t':=tk) fun b o e=>Od _ e,ZiO _ lo (hi - lo).toNat,?_,fun b hb=>?_,q⟩
 . have e1:lo+((0:Nat):Int) * 1=lo:=by simp
   have e2:(((hi - lo).toNat:Nat):Int) - ((0:Nat):Int)=Builtin.Range.rangeSize lo hi 1:=by rw [rangeSize_one];split<;>lia
   show IsRangeIter _ _ (lo+((0:Nat):Int) * 1) ((((hi - lo).toNat:Nat):Int) - ((0:Nat):Int)) 1;rw [e1,e2];exact Oj _ rfl
 . have e:b=(s.heap.push {cls:=.type "range",data:=.fields #[.int lo t,.int hi u,.int 1 v]}).objs.size:=by simpa using hb
   subst e;exact I1.fpOk (Oq _) (I1.hok.fresh (Oq _))
noncomputable def Ztu(ta:TA):TI:=fun Z H R=>ta Z H fun vs H1=>∃ j:Int,vs=[.int j]/\-(2 ^ 62)<=j/\j<2 ^ 62/\R (Itr 0 j.toNat) H1
theorem ZkU {a:Expr}{ta:TA}{p pos:Pos} (hg:Gl X "range") (hm:X.mg "range" = none) (ha:PA X [a] ta) (hs:starEach [a] X.env=[(false,eval a X.env)]:=by rfl):PI X tg (.Call (.Name "range" p) [a] [] pos) (Ztu ta):=by
 intro pins s Z H R I h;refine Call_ (Zc8 I hg hm boot_range (PyProof.Rows.callWith_type1 (thn (ha pos pins s Z H _ I h) fun us s1 ⟨vs,H1,I1,r1,q1⟩=>?_) hs rfl));obtain ⟨j,e,q1,q2,q⟩:=q1;subst e;cases r1 with
 | cons r rr =>
   cases rr;obtain ⟨t,rfl⟩:=r;exact call_range_1 (ZlZ I1 (by lia) (by lia) q1 q2 (by simpa using q))
noncomputable def Zup(wi:TI)(g:TG)(tb:TS):TS:=fun D Z H=>wi Z H fun J H1=>∃ W:Nat->Nat->St->Hp->Prop,(∃ m,W 0 m Z H1)/\∀ i m Z H,W i m Z H ->
 (J.stop i H/\D.nx Z H)\/(J.go i H/\∃ N:St->Hp->Prop,(∀ σ' H',N σ' H'->∃ m',m'<m/\W (i+1) m' σ' H')/\∀ x H',J.yld i H x H'->g x Z H' fun σ2 H2=>tb {D with nx:=N,ct:=N,bk:=D.nx} σ2 H2)
noncomputable def Zfw(fp:List Addr)(h:Heap):List (Addr×Obj):=fp.filterMap fun b=>(h.get? b).map fun o=>(b,o)
theorem Zbz(hb:b∈fp)(e:h.get? b=some o):(b,o)∈Zfw fp h:=List.mem_filterMap.mpr ⟨b,hb,by rw [e];rfl⟩
theorem Zk2(hp:p∈Zfw fp h):p.1∈fp/\h.get? p.1=some p.2:=by
 obtain ⟨b,hb,e⟩:=List.mem_filterMap.mp hp;cases q:h.get? b with
 | none=>rw [q] at e;cases e
 | some o =>
   rw [q] at e;have e':(b,o)=p:=Option.some.inj e;subst e';exact ⟨hb,q⟩
theorem Inv.pinned(I:Inv X pins Z H s)(hf:∀ b∈fp,ZbT X pins H b)(ho:∀ b∈fp,∃ o,s.heap.get? b=some o/\∀ v,o.data≠.cell v):Inv X (pins++Zfw fp s.heap) Z H s :=
 I.pins_of fun p hp=>(OD.mp hp).elim (fun z=>I.pin p (Ov _ z)) fun z=>by
   obtain ⟨hb,e⟩:=Zk2 z;obtain ⟨f0,f1,f2,_⟩:=hf p.1 hb;obtain ⟨o,e',d⟩:=ho p.1 hb;rw [e] at e';cases e';exact ⟨e,f0,f1,f2,d⟩
theorem Inv.unpinned(I:Inv X (pins++pl) Z H s):Inv X pins Z H s:=I.pins_of fun p hp=>I.pin p (Ov _ (List.mem_append_left _ hp))
theorem ZqK(hp:PassesOwn (model X.prog X.w) X.A X.env X.xe)(hc:X.calm=true)(hi:PI X tg iter wi)(hg:PG X tg g)(hb:PSs X body tb)
   (hs:∀ x,foldedSetIterable iter X.env x=pure x:=by intro _;rfl):PS X (.For tg iter body [] pos) (Zup wi g tb):=by
 intro pins s Z H D I h;refine wpAny_For (thn (hi pins s Z H _ I h) fun v s1 h1=>thn h1 fun itv s2 h2=>?_) hs;obtain ⟨it,fp,tn,J,H2,e,I2,T,st2,f2,W,⟨m0,w0⟩,turn⟩:=h2;subst e;have stat:∀ {H':Hp},(∀ b∈fp,H' b=none)->∀ b∈fp,ZbT X pins H' b:=fun hn b hb=>⟨hn b hb,(f2 b hb).2⟩
 refine codeAny_forLoop_any (fun n s'=>∃ i σ' H',Inv X pins σ' H' s'/\tn i s'.heap/\(∀ b∈fp,H' b=none)/\W i n σ' H') ?_ m0 ⟨0,Z,H2,I2,st2,fun b hb=>(f2 b hb).1,w0⟩;rintro n s3 ⟨i,σ3,H3,I3,st3,fr3,w3⟩;rcases turn i n σ3 H3 w3 with ⟨stop,qn⟩|⟨go,N,hN,step⟩
 . refine wpAny_passesOwn hp (thn (T.done X rfl rfl rfl hc i pins s3 σ3 H3 X.xe I3 (stat fr3) st3 stop) fun r s4 ⟨hr,I4⟩=>?_);subst hr;exact wpAny_execs_nil ⟨σ3,H3,I4,qn⟩
 . refine wpAny_passesOwn hp (thn (T.item X rfl rfl rfl hc i pins s3 σ3 H3 X.xe I3 (stat fr3) st3 go) fun r s4 ⟨u,hr,h4⟩=>?_);subst hr;refine wpAny_passesOwn hp (thn h4 fun _ s5 ⟨x,H5,I5,r5,y5,st5,fr5⟩=>?_);have I5':=I5.pinned (stat fr5) (T.obj _ _ st5);refine wpAny_passesOwn hp (thn (hg _ s5 σ3 H5 x u _ I5' r5 (step x H5 y5)) fun _ s6 ⟨σ6,H6,I6,q6⟩=>?_);refine wpAny_passesOwn hp (thn (hb _ s6 σ6 H6 _ I6 q6) fun f s7 q7=>?_);have again:∀ {σ7:St}{H7:Hp},Inv X (pins++Zfw fp s5.heap) σ7 H7 s7->N σ7 H7->∃ m,m<n/\∃ i σ' H',Inv X pins σ' H' s7/\tn i s7.heap/\(∀ b∈fp,H' b=none)/\W i m σ' H':=fun {σ7 H7} I7 n7=>by
     obtain ⟨m',hm,w7⟩:=hN σ7 H7 n7;refine ⟨m',hm,i+1,σ7,H7,I7.unpinned,T.keep _ _ _ st5 fun b hb o e=>(I7.pin (b,o) (Ov _ (Ov _ (Zbz hb e)))).1,fun b hb=>?_,w7⟩;obtain ⟨o,e,d⟩:=T.obj _ _ st5 b hb;exact (I7.pin (b,o) (Ov _ (Ov _ (Zbz hb e)))).2.1
   cases f with
   | next=>obtain ⟨σ7,H7,I7,n7⟩:=q7;exact again I7 n7
   | cont=>obtain ⟨σ7,H7,I7,n7⟩:=q7;exact again I7 n7
   | brk=>obtain ⟨σ7,H7,I7,q7⟩:=q7;exact ⟨σ7,H7,I7.unpinned,q7⟩
   | ret v=>obtain ⟨x7,σ7,H7,I7,r7,q7⟩:=q7;exact ⟨x7,σ7,H7,I7.unpinned,r7,q7⟩
end
end L2
namespace L2
open PySem PySem.Spec PyProof.Rows
noncomputable abbrev R2:=V->V->Hp->VK->Prop
noncomputable def OpR(X:Cx)(f:Value->Value->Sem Value)(r:R2):Prop :=
 ∀ (pins:List (Addr×Obj)) (s:Shared) (Z:St) (H:Hp) (x y:V) (v u:Value) (Q:VK),Inv X pins Z H s->RelV x v->RelV y u->r x y H Q ->
   wpAny (model X.prog X.w) X.A (f v u) (EP X pins Z Q) X.xe s
noncomputable def UnR(X:Cx)(f:Value->Sem Value)(r:V->Hp->VK->Prop):Prop :=
 ∀ (pins:List (Addr×Obj)) (s:Shared) (Z:St) (H:Hp) (x:V) (v:Value) (Q:VK),Inv X pins Z H s->RelV x v->r x H Q ->
   wpAny (model X.prog X.w) X.A (f v) (EP X pins Z Q) X.xe s
noncomputable def Z6(X:Cx)(f:Value)(r:List V->Hp->VK->Prop):Prop :=
 ∀ (pins:List (Addr×Obj)) (s:Shared) (Z:St) (H:Hp) (xs:List V) (us:List Value) (Q:VK),Inv X pins Z H s->Zi xs us->r xs H Q ->
   wpAny (model X.prog X.w) X.A (call f us) (EP X pins Z Q) X.xe s
noncomputable def Zvo(X:Cx)(r:V->Hp->(Bool->Hp->Prop)->Prop):Prop :=
 ∀ (pins:List (Addr×Obj)) (s:Shared) (Z:St) (H:Hp) (x:V) (v:Value) (Q:Bool->Hp->Prop),Inv X pins Z H s->RelV x v->r x H Q ->
   wpAny (model X.prog X.w) X.A (truthy v) (TP X pins Z Q) X.xe s
noncomputable def tOp(r:R2)(ta tb:TE):TE:=fun Z H Q=>ta Z H fun x H1=>tb Z H1 fun y H2=>r x y H2 Q
noncomputable def tUn(r:V->Hp->VK->Prop)(ta:TE):TE:=fun Z H Q=>ta Z H fun x H1=>r x H1 Q
noncomputable def rI(C:Int->Int->Prop)(g:Int->Int->V):R2:=fun x y H Q=>∃ i j,x=.int i/\y=.int j/\C i j/\Q (g i j) H
noncomputable def rI0(g:Int->Int->V):R2:=fun x y H Q=>∃ i j,x=.int i/\y=.int j/\Q (g i j) H
noncomputable def rU(g:Int->V):V->Hp->VK->Prop:=fun x H Q=>∃ i,x=.int i/\Q (g i) H
section
variable {X:Cx}{a b c:Expr}{ta tb tc:TE}{pos:Pos}
theorem ZrV(ha:PE X a ta)(hb:PE X b tb){pins:List (Addr×Obj)}{s:Shared}{Z:St}{H:Hp}{R:V->V->Hp->Prop}(I:Inv X pins Z H s)
   (h:ta Z H fun x H1=>tb Z H1 fun y H2=>R x y H2) {Q:Value->Shared->Prop}{f:Value->Value->Sem Value}
   (hf:∀ v u s2 x y H2,Inv X pins Z H2 s2->RelV x v->RelV y u->R x y H2->wpAny (model X.prog X.w) X.A (f v u) Q X.xe s2) :
   wpAny (model X.prog X.w) X.A (eval a X.env) (fun v s₁=>wpAny (model X.prog X.w) X.A (eval b X.env) (fun u s₂=>wpAny (model X.prog X.w) X.A (f v u) Q X.xe s₂) X.xe s₁) X.xe s:=by
 refine thn (ha pins s Z H _ I h) fun v s1 ⟨x,H1,I1,r1,q1⟩=>?_;refine thn (hb pins s1 Z H1 _ I1 q1) fun u s2 ⟨y,H2,I2,r2,q2⟩=>?_;exact hf v u s2 x y H2 I2 r1 r2 q2
theorem ZsT{op:Operator}{r:R2}(ho:OpR X (binaryOp op) r)(ha:PE X a ta)(hb:PE X b tb):PE X (.BinOp a op b pos) (tOp r ta tb):=by
 intro pins s Z H Q I h;exact wpAny_BinOp (ZrV ha hb I h fun v u s2 x y H2 I2 rx ry q=>ho pins s2 Z H2 x y v u Q I2 rx ry q)
theorem ZsR{op:UnaryOp}{r:V->Hp->VK->Prop}(ho:UnR X (unaryOp op) r)(ha:PE X a ta):PE X (.UnaryOp op a pos) (tUn r ta):=by
 intro pins s Z H Q I h;exact UnaryOp_ (thn (ha pins s Z H _ I h) fun v s1 ⟨x,H1,I1,r1,q1⟩=>ho pins s1 Z H1 x v Q I1 r1 q1)
theorem opI{f:Value->Value->Sem Value}{C:Int->Int->Prop}{g:Int->Int->Int}
   (rule:∀ (i j:Int) (t u:Tok) (s:Shared) (Q:Value->Shared->Prop) (E:Value->Shared->Prop),C i j->Q (.int (g i j) s.toks) {s with toks:=s.toks+1}->wpAny (model X.prog X.w) X.A (f (.int i t) (.int j u)) Q E s) :
   OpR X f (rI C fun i j=>.int (g i j)):=by
 intro pins s Z H x y v u Q I rx ry h;obtain ⟨i,j,rfl,rfl,hc,q⟩:=h;obtain ⟨t,rfl⟩:=rx;obtain ⟨t',rfl⟩:=ry;exact rule i j t t' s _ _ hc ⟨.int (g i j),H,I.tok _,⟨_,rfl⟩,q⟩
theorem Zs6{g:Int->Int->Int}
   (rule:∀ (i j:Int) (t u:Tok) (s:Shared) (Q:Value->Shared->Prop) (E:Value->Shared->Prop),Q (.int (g i j) s.toks) {s with toks:=s.toks+1}->wpAny (model X.prog X.w) X.A (f (.int i t) (.int j u)) Q E s) :
   OpR X f (rI0 fun i j=>.int (g i j)):=by
 intro pins s Z H x y v u Q I rx ry h;obtain ⟨i,j,rfl,rfl,q⟩:=h;obtain ⟨t,rfl⟩:=rx;obtain ⟨t',rfl⟩:=ry;exact rule i j t t' s _ _ ⟨.int (g i j),H,I.tok _,⟨_,rfl⟩,q⟩
theorem ZoA{g:Int->Int->Bool}
   (rule:∀ (i j:Int) (t u:Tok) (s:Shared) (Q:Value->Shared->Prop) (E:Value->Shared->Prop),Q (.bool (g i j)) s->wpAny (model X.prog X.w) X.A (f (.int i t) (.int j u)) Q E s) :
   OpR X f (rI0 fun i j=>.bl (g i j)):=by
 intro pins s Z H x y v u Q I rx ry h;obtain ⟨i,j,rfl,rfl,q⟩:=h;obtain ⟨t,rfl⟩:=rx;obtain ⟨t',rfl⟩:=ry;exact rule i j t t' s _ _ ⟨.bl (g i j),H,I,rfl,q⟩
noncomputable def Zvq(i j:Int):Prop:=0<j/\j<1073741824
noncomputable def Zvp(i j:Int):Prop:=0<=j/\j<=1000000/\i.natAbs<2 ^ 64
theorem Zq8:OpR X (binaryOp .Add) (rI0 fun i j=>.int (i+j)):=Zs6 fun _ _ _ _ _ _ _ q=>add_int q
theorem Zq2:OpR X (binaryOp .Sub) (rI0 fun i j=>.int (i - j)):=Zs6 fun _ _ _ _ _ _ _ q=>sub_int q
theorem Zoq:OpR X (binaryOp .FloorDiv) (rI Zvq fun i j=>.int (i / j)):=opI fun i j _ _ _ _ _ hc q=>by
 have h1:(0:Int)<j:=hc.1;have h2:j<1073741824:=hc.2;exact floordiv_int (by lia) (by rw [Int.fdiv_eq_ediv_of_nonneg i (by lia)];exact q) (.inl (PyProof.noPylong_small (by lia)))
theorem Zq4:OpR X (binaryOp .Mod) (rI (fun _ j=>0<j) fun i j=>.int (i % j)):=opI fun i j _ _ _ _ _ hc q=>by
 have h1:(0:Int)<j:=hc;exact mod_int' (by lia) (by rw [Int.fmod_eq_emod_of_nonneg i (by lia)];exact q)
theorem Zq3:OpR X (binaryOp .Pow) (rI Zvp fun i j=>.int (i ^ j.toNat)):=opI fun _ _ _ _ _ _ _ hc q=>pow_int_small hc.1 hc.2.1 hc.2.2 q
theorem unI{g:Int->Int}
   (rule:∀ (i:Int) (t:Tok) (s:Shared) (Q:Value->Shared->Prop) (E:Value->Shared->Prop),Q (.int (g i) s.toks) {s with toks:=s.toks+1}->wpAny (model X.prog X.w) X.A (f (.int i t)) Q E s) :
   UnR X f (rU fun i=>.int (g i)):=by
 intro pins s Z H x v Q I rx h;obtain ⟨i,rfl,q⟩:=h;obtain ⟨t,rfl⟩:=rx;exact rule i t s _ _ ⟨.int (g i),H,I.tok _,⟨_,rfl⟩,q⟩
theorem Zql:UnR X (unaryOp .USub) (rU fun i=>.int (-i)):=unI fun _ _ _ _ _ q=>neg_int q
end
section
variable {X:Cx}{a b c:Expr}{ta tb tc:TE}{pos:Pos}
theorem Zji(I:Inv X pins Z H s)(q:Q (.bl k) H)(e:k=k'):EP X pins Z Q (.bool k') s:=by
 subst e;exact ⟨.bl k,H,I,rfl,q⟩
theorem Zs1:OpR X (compareOp .Lt) (rI0 fun i j=>.bl (decide (i<j))):=ZoA fun _ _ _ _ _ _ _ q=>lt_int q
theorem Zs2:OpR X (compareOp .LtE) (rI0 fun i j=>.bl (decide (i<=j))):=ZoA fun _ _ _ _ _ _ _ q=>le_int q
theorem Zs3:OpR X (compareOp .Gt) (rI0 fun i j=>.bl (decide (j<i))):=ZoA fun _ _ _ _ _ _ _ q=>gt_int q
theorem Zs4:OpR X (compareOp .GtE) (rI0 fun i j=>.bl (decide (j<=i))):=ZoA fun _ _ _ _ _ _ _ q=>ge_int q
theorem ZkY:OpR X (compareOp .In) (fun x y H Q=>∃ i j,x=.str i/\y=.str j/\Q (.bl (!(Builtin.Str.occurrences j i 0 j.length 1).isEmpty)) H):=by
 intro pins s Z H x y v u Q I rx ry h;obtain ⟨i,j,rfl,rfl,q⟩:=h;obtain ⟨t,rfl⟩:=rx;obtain ⟨t',rfl⟩:=ry;exact in_str (Zji I q rfl)
theorem Zq5:OpR X (compareOp .Is) (fun x y H Q=>y=.non/\Q (.bl (decide (x=.non))) H):=by
 intro pins s Z H x y v u Q I rx ry h;obtain ⟨rfl,q⟩:=h;cases ry;refine is_none_gen (Zji I q ?_);cases x<;>first
   | (cases rx;rfl)
   | (obtain ⟨t,rfl⟩:=rx;rfl)
theorem Zoo:OpR X (compareOp .IsNot) (fun x y H Q=>y=.non/\Q (.bl (!decide (x=.non))) H):=by
 intro pins s Z H x y v u Q I rx ry h;obtain ⟨rfl,q⟩:=h;cases ry;refine isnot_none_gen (Zji I q ?_);cases x<;>first
   | (cases rx;rfl)
   | (obtain ⟨t,rfl⟩:=rx;rfl)
theorem ZjV{op:CmpOp}{r:R2}(ho:OpR X (compareOp op) r)(ha:PE X a ta)(hb:PE X b tb)(hm:behindInMarks op b=false):PE X (.Compare a [op] [b] pos) (tOp r ta tb):=by
 intro pins s Z H Q I h;exact wpAny_Compare1 (ZrV ha hb I h fun v u s2 x y H2 I2 rx ry q=>ho pins s2 Z H2 x y v u Q I2 rx ry q) hm
noncomputable def ZpH(t:TE):TT:=fun Z H Q=>t Z H fun x H'=>∃ k,x=.bl k/\Q k H'
theorem Zn3{op:CmpOp}{r:R2}(ho:OpR X (compareOp op) r)(ha:PE X a ta)(hb:PE X b tb)(hm:behindInMarks op b=false):PT X (.Compare a [op] [b] pos) (ZpH (tOp r ta tb)):=by
 intro pins s Z H Q I h;refine wpAny_isTrue_Compare1 (thn (ha pins s Z H _ I h) fun v s1 ⟨x,H1,I1,r1,q1⟩=>thn (hb pins s1 Z H1 _ I1 q1) fun u s2 ⟨y,H2,I2,r2,q2⟩ =>
   thn (ho pins s2 Z H2 x y v u _ I2 r1 r2 q2) fun c s3 ⟨z,H3,I3,r3,k,e,q3⟩=>?_) hm
 subst e;cases r3;exact wpAny_truthy_bool ⟨H3,I3,q3⟩
noncomputable def ZlK(r r':R2)(ta tb tc:TE):TE:=fun Z H Q=>ta Z H fun x H1=>tb Z H1 fun y H2=>r x y H2 fun z H3=>∃ k,z=.bl k /\
 (if k=true then tc Z H3 fun w' H4=>r' y w' H4 Q else Q (.bl false) H3)
theorem Zmp(ho:OpR X (compareOp op) r)(ho':OpR X (compareOp op') r')(ha:PE X a ta)(hb:PE X b tb)(hc:PE X c tc)
   (hm:lastMarks [op,op'] [b,c]=false:=by with_unfolding_all rfl):PE X (.Compare a [op,op'] [b,c] pos) (ZlK r r' ta tb tc):=by
 intro pins s Z H Q I h;refine Compare_chain (thn (ha pins s Z H _ I h) fun v s1 ⟨x,H1,I1,r1,q1⟩=>chain_link (thn (hb pins s1 Z H1 _ I1 q1) fun u s2 ⟨y,H2,I2,r2,q2⟩ =>
   thn (ho pins s2 Z H2 x y v u _ I2 r1 r2 q2) fun d s3 ⟨z,H3,I3,r3,k,e,q3⟩=>?_)) hm
 subst e;cases r3;refine wpAny_truthy_bool ?_;cases k with
 | false=>exact ite_ff ⟨.bl false,H3,I3,rfl,q3⟩
 | true=>exact ite_tt (chain_last (thn (hc pins s3 Z H3 _ I3 q3) fun w' s4 ⟨z',H4,I4,r4,q4⟩=>ho' pins s4 Z H4 y z' u w' Q I4 r2 r4 q4))
theorem Zl9(ho:OpR X (compareOp op) r)(ho':OpR X (compareOp op') r')(ha:PE X a ta)(hb:PE X b tb)(hc:PE X c tc)
   (hm:lastMarks [op,op'] [b,c]=false:=by with_unfolding_all rfl):PT X (.Compare a [op,op'] [b,c] pos) (ZpH (ZlK r r' ta tb tc)):=by
 intro pins s Z H Q I h;refine isTrue_chain (thn (ha pins s Z H _ I h) fun v s1 ⟨x,H1,I1,r1,q1⟩=>test_link (thn (hb pins s1 Z H1 _ I1 q1) fun u s2 ⟨y,H2,I2,r2,q2⟩ =>
   thn (ho pins s2 Z H2 x y v u _ I2 r1 r2 q2) fun d s3 ⟨z,H3,I3,r3,k,e,q3⟩=>?_)) hm
 subst e;cases r3;refine wpAny_truthy_bool ?_;cases k with
 | false =>
   obtain ⟨k',e',q'⟩:=q3;cases e';exact ite_ff ⟨H3,I3,q'⟩
 | true =>
   refine ite_tt (test_last (thn (hc pins s3 Z H3 _ I3 q3) fun w' s4 ⟨z',H4,I4,r4,q4⟩=>thn (ho' pins s4 Z H4 y z' u w' _ I4 r2 r4 q4) fun d' s5 ⟨z2,H5,I5,r5,k2,e2,q5⟩=>?_));subst e2;cases r5;exact wpAny_truthy_bool ⟨H5,I5,q5⟩
noncomputable def Zr4(K:PySem.W.Frag)(x:V)(H:Hp)(k:Bool):Prop :=
 match x with
 | .non=>k=false
 | .bl b=>k=b
 | .int i=>k=(i != 0)
 | .str y=>y.length<=sizeLine/\k=((y.length:Int) != 0)
 | .byt y=>y.size<=sizeLine/\k=((y.size:Int) != 0)
 | .ref p=>(∃ xs,SqL K H p xs/\k=!xs.isEmpty)\/(∃ xs,SqT K H p xs/\k=!xs.isEmpty)\/∃ kvs,H p=some (.dK kvs)/\k=!kvs.isEmpty
 | _=>False
theorem Zjh(r:KV kvs vs):(!vs.isEmpty)=!kvs.isEmpty:=by
 cases r<;>rfl
theorem ZfF(r:Zi xs its):(!its.toArray.isEmpty)=!xs.isEmpty:=by
 cases r<;>simp
theorem ZbA:(sizeLine:Nat)<2 ^ 63:=by rw [sizeLine_eq];decide
theorem Zqq:Zvo X (fun x H Q=>∃ k,Zr4 X.K x H k/\Q k H):=by
 intro pins s Z H x v Q I rx h;obtain ⟨k,e,q⟩:=h;have hl:=ZbA;have hs:sizeLine=16777216:=sizeLine_eq;cases x with
 | non =>
   cases rx;have e':k=false:=e;subst e';exact truthy_none ⟨H,I,q⟩
 | bl b =>
   cases rx;have e':k=b:=e;subst e';exact wpAny_truthy_bool ⟨H,I,q⟩
 | int i =>
   obtain ⟨t,rfl⟩:=rx;have e':k=(i != 0):=e;subst e';exact PySem.P.truthy_int ⟨H,I,q⟩
 | str y =>
   obtain ⟨t,rfl⟩:=rx;obtain ⟨hy,e'⟩:y.length<=sizeLine/\k=((y.length:Int) != 0):=e;subst e';exact PySem.P.truthy_str (by lia) ⟨H,I.tok _,q⟩
 | byt y =>
   obtain ⟨t,rfl⟩:=rx;obtain ⟨hy,e'⟩:y.size<=sizeLine/\k=((y.size:Int) != 0):=e;subst e';exact PySem.W.truthy_bytes (by lia) ⟨H,I.tok _,q⟩
 | ref p =>
   cases rx;have e':(∃ xs,SqL X.K H p xs/\k=!xs.isEmpty)\/(∃ xs,SqT X.K H p xs/\k=!xs.isEmpty)\/∃ kvs,H p=some (.dK kvs)/\k=!kvs.isEmpty:=e;rcases e' with ⟨xs,hx,e'⟩|⟨xs,hx,e'⟩|⟨kvs,hx,e'⟩
   . subst e';obtain ⟨its,r,pl,hz⟩:=I.list hx;have hlen:=r.length;exact wpAny_truthy_list pl.isList (by simp only [Of];lia) ⟨H,I.tok _,by rw [ZfF r];exact q⟩
   . subst e';obtain ⟨its,r,pl,hz⟩:=I.tuple hx;have hlen:=r.length;exact truthy_tuple pl (by simp only [Of];lia) ⟨H,I.tok _,by rw [ZfF r];exact q⟩
   . subst e';obtain ⟨hz,hS,vs,r,m⟩:kvs.length<=sizeLine/\(p==sysModules)=false/\∃ vs,KV kvs vs/\s.heap.DictOf (ZF X.prog X.w) p vs:=I.hok p _ hx;have hlen:kvs.length=vs.length:=Paired.length r;exact wpAny_truthy_dict hS m (by lia) ⟨H,I.tok _,by rw [Zjh r];exact q⟩
 | _=>exact (show False from e).elim
theorem Zl8(ha:PE X a ta)(he:∀ whole,isTrue a X.env whole=(do let v <- whole;standAt a.pos;holding [v] (truthy v))) :
   PT X a (fun Z H Q=>ta Z H fun x H'=>∃ k,Zr4 X.K x H' k/\Q k H'):=by
 intro pins s Z H Q I h;exact isTrue_plain (thn (ha pins s Z H _ I h) fun v s1 ⟨x,H1,I1,r1,q1⟩=>Zqq pins s1 Z H1 x v Q I1 r1 q1) (he _)
theorem Zi3:OpR X (binaryOp .Add) (fun x y H Q=>∃ i j,x=.str i/\y=.str j/\i.length+j.length<=sizeLine/\Q (.str (i++j)) H):=by
 intro pins s Z H x y v u Q I rx ry h;obtain ⟨i,j,rfl,rfl,hz,q⟩:=h;obtain ⟨t,rfl⟩:=rx;obtain ⟨t',rfl⟩:=ry;exact add_str (fun t' tk=>⟨.str (i++j),H,I.tok _,⟨_,rfl⟩,q⟩) hz
theorem vals1{x:V}{us:List Value}(r:Zi [x] us):∃ u,us=[u]/\RelV x u:=by
 cases r with
 | cons r1 r2=>cases r2;exact ⟨_,rfl,r1⟩
theorem vals2{x y:V}{us:List Value}(r:Zi [x,y] us):∃ u w',us=[u,w']/\RelV x u/\RelV y w':=by
 cases r with
 | cons r1 r2 =>
   cases r2 with
   | cons r3 r4=>cases r4;exact ⟨_,_,rfl,r1,r3⟩
theorem ZgP:Z6 X (.type "int") (fun xs H Q=>(∃ i,xs=[.int i]/\Q (.int i) H)\/∃ k,xs=[.bl k]/\Q (.int (if k then 1 else 0)) H):=by
 intro pins s Z H xs us Q I r h;rcases h with ⟨i,rfl,q⟩|⟨k,rfl,q⟩
 . obtain ⟨u,rfl,t,rfl⟩:=vals1 r;exact call_int_int ⟨.int i,H,I,⟨_,rfl⟩,q⟩
 . obtain ⟨u,rfl,r1⟩:=vals1 r;cases r1;exact call_int_bool ⟨.int (if k then 1 else 0),H,I.tok _,⟨_,rfl⟩,q⟩
end
end L2
namespace L2
open PySem PySem.Spec PyProof.Rows
structure ObjM(h:Heap)(x dx C:Addr)(mA:Str->Option Value):Prop where
 obj:h.get? x=some (PySem.W.instObj C dx)
 ns:h.Ns1 dx mA
 ne:dx≠x
theorem Zk7{h:Heap}(n:h.Ns1 dx mA):∃ od,h.get? dx=some od/\∀ name,PySem.W.lookIn name od=some (mA name):=by
 obtain ⟨o,es,ep,ho,hd,hk,_,hm⟩:=n;refine ⟨o,ho,fun name=>?_⟩;have e:=hm name;unfold nsFind findBy at e;rw [<- Array.find?_toList] at e;unfold PySem.W.lookIn;rw [hd];dsimp only;split
 . rename_i y q;rw [q] at e;exact congrArg some e
 . rename_i q;rw [q] at e;have a:es.toList.any (·.refKey)=false:=by
     rw [List.any_eq_false];intro y hy;obtain ⟨z,t,hkey⟩:=hk y (Array.mem_toList_iff.mp hy);simp [DictEntry.refKey,hkey]
   have a':¬ es.toList.any (·.refKey)=true:=by rw [a];exact Ow
   rw [if_neg a'];exact congrArg some e
theorem ObjM.look(I:ObjM h x dx C mA):∃ od,PySem.W.InstAt h x (PySem.W.instObj C dx) C (some od)/\∀ name,PySem.W.lookIn name od=some (mA name) :=
 let ⟨od,ho,hl⟩:=Zk7 I.ns
 ⟨od,⟨I.obj,rfl,rfl,ho⟩,hl⟩
section
variable {prog:Program}{w:World}{A:Around}{E:Value->Shared->Prop}{s:Shared}{K:PySem.W.Frag}{x dx C f:Addr}{mA:Str->Option Value}{name:Str}{v:Value}
theorem ZoY(X:K.In s.heap)(I:ObjM s.heap x dx C mA)(hg:PySem.W.plainGet K C name=true)(hh:PySem.W.hasDictIn K C=true)
   (ha:PySem.W.findIn K (.ref C) name=some none) (hv:mA name=some v) (hv':PySem.W.handedIn v=true) (h:Q v {s with toks:=s.toks+1}) :
   wpAny (model prog w) A (getAttr (.ref x) name expr) Q E s:=by
 obtain ⟨od,J,hl⟩:=I.look;exact PySem.W.get_value X J (PySem.W.plainGet_of hg).1 (PySem.W.findObj_own hh ha rfl (by rw [hl,hv])) hv' h
theorem ZmO(X:K.In s.heap)(I:ObjM s.heap x dx C mA)(hg:PySem.W.plainGet K C name=true)
   (hf:PySem.W.findIn K (.ref C) name=some (some (.ref f))) (ht:PySem.W.isFn K (.ref f)=true) (hv:mA name=none) (h:Q (.ref f,[.ref x]) s) :
   wpAny (model prog w) A (getMethod (.ref x) name pl) Q E s:=by
 obtain ⟨od,J,hl⟩:=I.look;exact PySem.W.method_fn X J (PySem.W.plainGet_of hg).1 (PySem.W.plainGet_of hg).2 hf (beq_iff_eq.mp ht) (by show (PySem.W.lookIn name od).map (·.isSome)=some false;rw [hl,hv];rfl) h
theorem ZnO(X:K.In s.heap)(I:ObjM s.heap x dx C mA)
   (hs:PySem.W.findIn K (.ref C) "__setattr__" = some (some (.builtin "object.__setattr__"))) (hp:PySem.W.plainOver K C=true) (ht:PySem.W.takerIn K C name=some none) (hh:PySem.W.hasDictIn K C=true)
   (hw:PySem.Within mA ns) (hsz:ns.length<=sizeLine)
   (h:∀ h',ObjM h' x dx C (fun y=>if y=name then some v else mA y)->Heap.SameBut dx s.heap h'->Q () {s with heap:=h',toks:=s.toks+2}) :
   wpAny (model prog w) A (setAttr (.ref x) name v) Q E s:=by
 obtain ⟨od,J,hl⟩:=I.look;refine PySem.W.set_plain X J hs (PySem.W.osa_open (s:={s with toks:=s.toks+1}) (r:=none) X J hp ht fun b=>?_);obtain ⟨cd,hc,hd'⟩:=PySem.W.any_some hh;have hx:s.heap.get? x=some ⟨.ref C,some dx,.plain,#[]⟩:=I.obj;refine wpAny_bind (wpAny_pure (wpAny_bind (wpAny_bind (wpAny_loadPart hx (wpAny_bind (PySem.W.Looks.here (s:={s with toks:=s.toks+1}) (PySem.W.looks_clsIn X hc) ?_))))));rw [hd'];refine wpAny_pure (a:=some dx) (wpAny_bind (wpAny_pure (wpAny_bind ?_)));refine wpAny_nsSet1 (s:={s with toks:=s.toks+1}) I.ns fun h' hn2 hs2=>?_;obtain ⟨oD,esD,epD,hoD,hdD,hcD⟩:=hn2.count (PySem.Within.cons name v hw);refine wpAny_bind (wpAny_lookBehind hoD (by rw [hdD];exact pastItsLine_dict (OE hcD (by rw [Os];lia))) ?_);exact wpAny_pure (h _ ⟨(hs2.2 _ (Ne.symm I.ne)).trans I.obj,hn2,I.ne⟩ hs2)
theorem ZmB(X:K.In s.heap)(hm:PySem.W.makesIn K C=true)
   (hi:PySem.W.findIn K (.ref C) "__init__" = some (some (.ref f))) (hf:PySem.W.typeIn K (.ref f)=some (.type "function"))
   (h:codeAny (model prog w) (A.under (.builtin "type.__call__" ⟨.ref C::vs,kw⟩)) (.call (.ref f) ⟨.ref (s.heap.objs.size+1)::vs,kw⟩) (PySem.W.InitBack (s.heap.objs.size+1) R)
     {s with heap:=(s.heap.push PySem.W.emptyDict).push (PySem.W.instObj C s.heap.objs.size)}) :
   codeAny (model prog w) A (.call (.ref C) ⟨vs,kw⟩) R s:=by
 obtain ⟨hh,g,d,t,os⟩:=s;exact PySem.W.make_core (PySem.W.makes_of X hm) (PySem.W.looks_findIn X hi) (fun self=>PySem.W.bind_fn X self hf) (.inl rfl) h
end
noncomputable def Zbh(f:Str)(v:V):List (Str×V)->List (Str×V)
 | []=>[(f,v)]
 | (g,x)::r=>if g=f then (g,v)::r else (g,x)::Zbh f v r
theorem Zet(f g:Str)(v:V):∀ fs:List (Str×V),(Zbh f v fs).lookup g=if g=f then some v else fs.lookup g
 | []=>by
   show List.lookup g [(f,v)]=_;by_cases h:g=f
   . have hb:(g==f)=true:=beq_iff_eq.mpr h;simp only [List.lookup,hb,if_pos h]
   . have hb:(g==f)=false:=beq_eq_false_iff_ne.mpr h;simp only [List.lookup,hb,if_neg h]
 | (k,x)::r=>by
   have ih:=Zet f g v r;rw [show Zbh f v ((k,x)::r)=(if k=f then (k,v)::r else (k,x)::Zbh f v r) from rfl];by_cases hk:k=f
   . rw [if_pos hk];by_cases h:g=k
     . have hb:(g==k)=true:=beq_iff_eq.mpr h;simp only [List.lookup,hb,if_pos (h.trans hk)]
     . have hb:(g==k)=false:=beq_eq_false_iff_ne.mpr h;simp only [List.lookup,hb,if_neg (fun e:g=f=>h (e.trans hk.symm))]
   . rw [if_neg hk];by_cases h:g=k
     . have hb:(g==k)=true:=beq_iff_eq.mpr h;simp only [List.lookup,hb,if_neg (fun e:g=f=>hk (h.symm.trans e))]
     . have hb:(g==k)=false:=beq_eq_false_iff_ne.mpr h;simp only [List.lookup,hb];exact ih
theorem Zd4(f:Str)(v:V):∀ fs:List (Str×V),f∈(Zbh f v fs).map (·.1)/\∀ g,g∈fs.map (·.1)->g∈(Zbh f v fs).map (·.1)
 | []=>⟨by simp [Zbh],fun g h=>by simp at h⟩
 | (k,x)::r=>by
   obtain ⟨i1,i2⟩:=Zd4 f v r;rw [show Zbh f v ((k,x)::r)=(if k=f then (k,v)::r else (k,x)::Zbh f v r) from rfl];by_cases hk:k=f
   . rw [if_pos hk];subst hk;exact ⟨by simp,fun g h=>by simpa using h⟩
   . rw [if_neg hk];refine ⟨?_,fun g h=>?_⟩
     . rw [Op];exact Oh _ i1
     . rw [Op] at h ⊢;rcases O2.mp h with e|e
       . exact O2.mpr (.inl e)
       . exact Oh _ (i2 g e)
theorem Zev(f:Str)(v:V):∀ fs:List (Str×V),(Zbh f v fs).length<=fs.length+1
 | []=>by simp [Zbh]
 | (k,x)::r=>by
   have ih:=Zev f v r;rw [show Zbh f v ((k,x)::r)=(if k=f then (k,v)::r else (k,x)::Zbh f v r) from rfl];by_cases hk:k=f
   . rw [if_pos hk,Os,Os];lia
   . rw [if_neg hk,Os,Os];lia
theorem ZdT.some_of(r:ZdT (some v) o):∃ u,o=some u/\RelV v u:=by
 cases o with
 | none=>exact (show False from r).elim
 | some u=>exact ⟨u,rfl,r⟩
theorem ZdT.none_of(r:ZdT none o):o=none:=by
 cases o with
 | none=>rfl
 | some u=>exact (show False from r).elim
theorem Zlh(r:RelV v u):PySem.W.handedIn u=true:=by
 cases v with
 | non=>cases (show u=Value.none from r);rfl
 | bl b=>cases (show u=Value.bool b from r);rfl
 | int i=>obtain ⟨t,e⟩:=(show ∃ t,u=Value.int i t from r);cases e;rfl
 | str x=>obtain ⟨t,e⟩:=(show ∃ t,u=Value.str x t from r);cases e;rfl
 | byt b=>obtain ⟨t,e⟩:=(show ∃ t,u=Value.bytes b t from r);cases e;rfl
 | flt b=>obtain ⟨t,e⟩:=(show ∃ t,u=Value.float b t from r);cases e;rfl
 | ref a=>cases (show u=Value.ref a from r);rfl
 | ty n=>cases (show u=Value.type n from r);rfl
section
variable {P:Program}{w:World}{H H':Hp}{h h':Heap}{a C dx:Addr}{fs fs':List (Str×V)}
theorem Zhf(hok:HOk P w H h)(e:H a=some (.ins C dx fs)):∃ mA,ObjM h a dx C mA/\(∀ f,ZdT (fs.lookup f) (mA f))/\PySem.Within mA (fs.map (·.1))/\fs.length<=1000/\H dx=some (.own a):=by
 obtain ⟨d,z,ne,ob,mA,n,r,q⟩:=(show Z5 P w H h a (.ins C dx fs) from hok a _ e)
 exact ⟨mA,⟨ob,n,ne⟩,r,q,z,d⟩
end
structure Cls(K:PySem.W.Frag)(C:Addr):Prop where
 pg:PySem.W.plainGet K C Str.empty=true
 hd:PySem.W.hasDictIn K C=true
 po:PySem.W.plainOver K C=true
 sa:PySem.W.findIn K (.ref C) "__setattr__" = some (some (.builtin "object.__setattr__"))
theorem Cls.get{K:PySem.W.Frag}(c:Cls K C)(f:Str):PySem.W.plainGet K C f=true:=c.pg
noncomputable def Zai(K:PySem.W.Frag)(C:Addr)(f:Str):Prop:=PySem.W.findIn K (.ref C) f=some none
theorem Zai.taker{K:PySem.W.Frag}(n:Zai K C f):PySem.W.takerIn K C f=some none:=by
 unfold PySem.W.takerIn;rw [show PySem.W.findIn K (.ref C) f=some none from n];rfl
structure Meth(K:PySem.W.Frag)(C:Addr)(m:Str)(f:Addr):Prop where
 at_:PySem.W.findIn K (.ref C) m=some (some (.ref f))
 fn:PySem.W.isFn K (.ref f)=true
 kp:PySem.W.keepIn K (.ref f)=true
section
variable {X:Cx}{pins:List (Addr×Obj)}{Z:St}{H:Hp}{s:Shared}{a C dx:Addr}{fs:List (Str×V)}{f:Str}{v:V}{A:Around}{E:Value->Shared->Prop}
theorem ZfI(I:Inv X pins Z H s)(e:H a=some (.ins C dx fs))(c:Cls X.K C)(n:Zai X.K C f)(l:fs.lookup f=some v)
   (h:∀ u s',Inv X pins Z H s'->RelV v u->Q u s'):wpAny (model X.prog X.w) A (getAttr (.ref a) f b) Q E s:=by
 obtain ⟨mA,O_,r,_,_,_⟩:=Zhf I.hok e;obtain ⟨u,hu,ru⟩:=ZdT.some_of (v:=v) (o:=mA f) (by rw [<- l];exact r f);exact ZoY I.kIn O_ (c.get f) c.hd n hu (Zlh ru) (h u _ (I.tok _) ru)
theorem ZfH(I:Inv X pins Z H s)(e:H a=some (.ins C dx fs))(c:Cls X.K C)(k:Meth X.K C m g)(l:fs.lookup m=none)
   (h:Q (.ref g,[.ref a]) s):wpAny (model X.prog X.w) A (getMethod (.ref a) m pl) Q E s:=by
 obtain ⟨mA,O_,r,_,_,_⟩:=Zhf I.hok e;have hn:mA m=none:=ZdT.none_of (by rw [<- l];exact r m);exact ZmO I.kIn O_ (c.get m) k.at_ k.fn hn h
theorem Zfr(I:Inv X pins Z H s)(e:H a=some (.ins C dx fs))(c:Cls X.K C)(n:Zai X.K C f)(hl:fs.length<1000)(ry:RelV y u)
   (h:∀ s',Inv X pins Z (upd H a (.ins C dx (Zbh f y fs))) s'->Q () s'):wpAny (model X.prog X.w) A (setAttr (.ref a) f u) Q E s:=by
 obtain ⟨mA,O_,r,wi,_,ho⟩:=Zhf I.hok e;have hz:(fs.map (·.1)).length<=sizeLine:=by rw [List.length_map,sizeLine_eq];lia
 refine ZnO I.kIn O_ c.sa c.po n.taker c.hd wi hz fun h' O' sb=>h _ ?_;have hd:∃ o,h'.get? dx=some o:=let ⟨o,_,_,e',_⟩:=O'.ns;⟨o,e'⟩;refine I.write (x:=a) (e:=dx) (by rw [e];exact True.intro) (.inr ho) (fun b q hb z=>(sb.2 b hb).trans z) hd ?_;refine ⟨by rw [Zk O_.ne];exact ho,?_,O_.ne,O'.obj,_,O'.ns,fun g=>?_,fun g hg=>?_⟩
 . have:=Zev f y fs;lia
 . show ZdT ((Zbh f y fs).lookup g) (if g=f then some u else mA g);rw [Zet];by_cases q:g=f
   . rw [if_pos q,if_pos q];exact ry
   . rw [if_neg q,if_neg q];exact r g
 . by_cases q:g=f
   . rw [q];exact (Zd4 f y fs).1
   . refine (Zd4 f y fs).2 g (wi g fun z=>hg ?_);show (if g=f then some u else mA g)=none;rw [if_neg q];exact z
theorem Inv.made(I:Inv X pins Z H s):Inv X pins Z (upd (upd H s.heap.objs.size (.own (s.heap.objs.size+1))) (s.heap.objs.size+1) (.ins C s.heap.objs.size []))
   {s with heap:=(s.heap.push PySem.W.emptyDict).push (PySem.W.instObj C s.heap.objs.size)}:=by
 have e1:(s.heap.push PySem.W.emptyDict).get? s.heap.objs.size=some PySem.W.emptyDict:=Oj s.heap rfl;have e2:((s.heap.push PySem.W.emptyDict).push (PySem.W.instObj C s.heap.objs.size)).get? (s.heap.objs.size+1)=some (PySem.W.instObj C s.heap.objs.size):=by
   have:=Oj (s.heap.push PySem.W.emptyDict) (o:=PySem.W.instObj C s.heap.objs.size) rfl
   rwa [Heap.size_push] at this
 have e3:(s.heap.push PySem.W.emptyDict).Ns s.heap.objs.size (fun _=>none):=⟨PySem.W.emptyDict,#[],_,e1,rfl,(fun e he=>absurd he (by simp)),fun _=>rfl⟩
 have I1:=I.laid (a:=s.heap.objs.size) (o:=.own (s.heap.objs.size+1)) (h':=s.heap.push PySem.W.emptyDict) (t':=s.toks) (fun b u q=>Od _ q) (Oq _) ⟨_,e1⟩;refine I1.laid (a:=s.heap.objs.size+1) (o:=.ins C s.heap.objs.size []) (t':=s.toks) (fun b u q=>Od _ q) (Nat.le_of_eq (Heap.size_push _ _)) ?_;have ne:s.heap.objs.size≠s.heap.objs.size+1:=Ou (OH _);refine ⟨by rw [Zk ne,Zg],Nat.zero_le _,ne,e2,fun _=>none,(Heap.Ns1.of_empty e3).at fun o q=>Od _ q,fun _=>True.intro,fun y hy=>absurd rfl hy⟩
theorem Zpx(hb:attributeBase e f env (eval e env)=eval e env)
   (h:wpAny (model prog w) A (eval e env) (fun o s₁=>wpAny (model prog w) A (getAttr o f true) Q E s₁) E s):wpAny (model prog w) A (eval (.Attribute e f pos) env) Q E s :=
 Attribute_any_ h (by rw [arm_eval_Attribute,hb])
end
noncomputable def Zuq(K:PySem.W.Frag)(ta:TE)(f:Str):TE:=fun Z H Q=>ta Z H fun x H1=>∃ a C dx fs v,x=.ref a/\H1 a=some (.ins C dx fs)/\Cls K C/\Zai K C f/\fs.lookup f=some v/\Q v H1
noncomputable def Zuz(K:PySem.W.Frag)(ta tv:TE)(f:Str):TS:=fun D Z H=>tv Z H fun y H1=>ta Z H1 fun x H2=>∃ a C dx fs,x=.ref a/\H2 a=some (.ins C dx fs)/\Cls K C/\Zai K C f/\fs.length<1000 /\
 D.nx Z (upd H2 a (.ins C dx (Zbh f y fs)))
noncomputable def ZtY(X:Cx)(op:Operator)(rd:V->V->Hp->VK->Prop):Prop :=
 ∀ (pins:List (Addr×Obj)) (s:Shared) (Z:St) (H:Hp) (x y:V) (u v:Value) (Q:VK),Inv X pins Z H s->RelV x u->RelV y v->rd x y H Q->wpAny (model X.prog X.w) X.A (inplaceOp op u v) (EP X pins Z Q) X.xe s
noncomputable def ZnQ(K:PySem.W.Frag)(ta tv:TE)(rd:V->V->Hp->VK->Prop)(f:Str):TS:=fun D Z H=>ta Z H fun x H1=>∃ a C dx fs v,x=.ref a/\H1 a=some (.ins C dx fs)/\Cls K C/\Zai K C f/\fs.lookup f=some v /\
 tv Z H1 fun y H2=>rd v y H2 fun z H3=>∃ dx' fs',H3 a=some (.ins C dx' fs')/\fs'.length<1000/\D.nx Z (upd H3 a (.ins C dx' (Zbh f z fs')))
section
variable {X:Cx}{o e value:Expr}{f:Str}{pos pos' tpos:Pos}{ta tv:TE}
theorem ZqY(he:PE X e ta)(hb:attributeBase e f X.env (eval e X.env)=eval e X.env):PE X (.Attribute e f pos) (Zuq X.K ta f):=by
 intro pins s Z H Q I h;refine Zpx hb (thn (he pins s Z H _ I h) fun u s1 ⟨x,H1,I1,rx,a,C,dx,fs,v,ex,ea,c,n,l,q⟩=>?_);subst ex;obtain rfl:u=Value.ref a:=rx;exact ZfI I1 ea c n l fun u' s2 I2 ru=>⟨v,H1,I2,ru,q⟩
theorem ZqL(ha:PE X o ta)(hv:PE X value tv)(hs:swapsWith value (some (.Attribute o f pos')) pos.line X.env=pure false):PS X (.Assign [.Attribute o f pos'] value pos) (Zuz X.K ta tv f):=by
 intro pins s Z H D I h;refine plainObj_wpAny_Assign_Attribute (thn (hv pins s Z H _ I h) fun u s1 ⟨y,H1,I1,ry,q⟩=>thn (ha pins s1 Z H1 _ I1 q) fun ov s2 ⟨x,H2,I2,rx,a,C,dx,fs,ex,ea,c,n,l,q2⟩=>?_) hs;subst ex;obtain rfl:ov=Value.ref a:=rx;exact Zfr I2 ea c n l ry fun s3 I3=>⟨Z,_,I3,q2⟩
theorem ZkR(ha:PE X o ta)(hv:PE X value tv)(hop:ZtY X op rd):PS X (.AugAssign (.Attribute o f tpos) op value pos) (ZnQ X.K ta tv rd f):=by
 intro pins s Z H D I h;refine wpAny_AugAssign_AttributeAny (thn (ha pins s Z H _ I h) fun ov s1 ⟨x,H1,I1,rx,a,C,dx,fs,v,ex,ea,c,n,l,q⟩=>?_);subst ex;obtain rfl:ov=Value.ref a:=rx;refine ZfI I1 ea c n l fun u s2 I2 ru=>thn (hv pins s2 Z H1 _ I2 q) fun w3 s3 ⟨y,H2,I3,ry,q3⟩=>thn (hop pins s3 Z H2 v y u w3 _ I3 ru ry q3) fun w4 s4 ⟨z,H3,I4,rz,dx',fs',ea',l',q4⟩=>?_;exact Zfr I4 ea' c n l' rz fun s5 I5=>⟨Z,_,I5,q4⟩
noncomputable def ZsL:V->V->Hp->VK->Prop:=fun x y H Q=>∃ i j,x=.int i/\y=.int j/\Q (.int (i+j)) H
theorem Zrz:ZtY X .Add ZsL:=by
 rintro pins s Z H x y u v Q I rx ry ⟨i,j,rfl,rfl,q⟩;obtain ⟨t,rfl⟩:=(show ∃ t,u=Value.int i t from rx)
 obtain ⟨t',rfl⟩:=(show ∃ t',v=Value.int j t' from ry)
 exact PyProof.Rows.iadd_int ⟨.int (i+j),H,I.tok _,⟨_,rfl⟩,q⟩
end
end L2
namespace L2
open PySem PySem.Spec PyProof.Rows
structure Room(k:Nat)(A:Around):Prop where
 hd:A.handled=none
 dp:A.depth+k+5<recursionLimit
 un:A.units+4 * k+1300<cLine
 gd:A.guards=some []
theorem Room.mono(r:Room k A)(h:j<=k):Room j A:=⟨r.hd,by have:=r.dp;lia,by have:=r.un;lia,r.gd⟩
theorem Room.deeper(r:Room (k+1) A)(env:Env):Room k (A.deeper env) :=
 ⟨r.hd,by have:=r.dp;show A.depth+1+k+5<_;lia,by have:=r.un;show A.units+3+4 * k+1300<_;lia,r.gd⟩
theorem Zjd {A:Around}:(A.under (.builtin "type.__call__" ⟨.ref C::us,kw⟩)).depth=A.depth+1:=by
 first|rfl|simp [Around.under,Code.weight,Code.isCreation,Code.isGuard,Code.isCaller,Code.frames,Code.isFrame,guardIds]
theorem Zjc {A:Around}:(A.under (.builtin "type.__call__" ⟨.ref C::us,kw⟩)).units=A.units+1:=by
 first|rfl|simp [Around.under,Code.cUnits,Code.frames,Code.isFrame]
theorem Room.make (r:Room (k+1) A) (C:Addr) (us:List Value) (kw:List (Str×Value)):Room k (A.under (.builtin "type.__call__" ⟨.ref C::us,kw⟩)) :=
 ⟨r.hd,by have:=r.dp;rw [Zjd];lia,by have:=r.un;rw [Zjc];lia,by first|exact r.gd|simpa [Around.under,Code.weight,Code.isCreation,Code.isGuard,Code.isCaller,Code.frames,Code.isFrame,guardIds] using r.gd⟩
theorem Room.depth(r:Room k A):A.depth<recursionLimit:=by have:=r.dp;lia
noncomputable def Zqs:TA:=fun _ H Q=>Q [] H
noncomputable def Zsv(ta:TE)(tr:TA):TA:=fun Z H Q=>ta Z H fun x H1=>tr Z H1 fun xs H2=>Q (x::xs) H2
section
variable {X:Cx}{e:Expr}{es:List Expr}{te:TE}{t:TA}{pos:Pos}
theorem ZdY:PA X [] Zqs:=fun _ _ _ _ H Q I h=>Calls.spliced_nil ⟨[],H,I,.nil,h⟩
theorem Zbx(ha:PE X e te)(hr:PA X es t)(hs:starEach (e::es) X.env=(false,eval e X.env)::starEach es X.env:=by rfl):PA X (e::es) (Zsv te t):=by
 intro pos pins s Z H Q I h;rw [hs];show wpAny _ _ (spliced ((false,eval e X.env)::backTo pos (starEach es X.env))) _ _ s;refine Calls.spliced_cons (thn (ha pins s Z H _ I h) fun u s1 ⟨x,H1,I1,r1,q1⟩=>?_);exact thn (hr pos pins s1 Z H1 _ I1 q1) fun us s2 ⟨xs,H2,I2,r2,q2⟩=>⟨x::xs,H2,I2,.cons r1 r2,q2⟩
noncomputable def Zui(t:TA):TE:=fun Z H Q=>t Z H fun xs H1=>xs.length<=sizeLine/\∀ p,H1 p=none->Q (.ref p) (upd H1 p (.tup xs))
noncomputable def Zun(t:TA):TE:=fun Z H Q=>t Z H fun xs H1=>xs.length<=sizeLine/\∀ p,H1 p=none->Q (.ref p) (upd H1 p (.lst xs))
theorem ZqS{x1}(h:PA X es t):PE X (.Tuple es x1 pos) (Zui t):=by
 intro pins s Z H Q I hq;refine wpAny_Tuple_spliced (thn (h pos pins s Z H _ I hq) fun us s1 ⟨xs,H1,I1,r,z,q⟩=>⟨by rw [<- r.length];exact z,?_⟩);have hf:H1 s1.heap.objs.size=none:=I1.hok.fresh (Oq _);refine ⟨.ref s1.heap.objs.size,upd H1 s1.heap.objs.size (.tup xs),I1.laid (t':=s1.toks) (fun b u e=>Od _ e) (Oq _) ?_,rfl,q _ hf⟩;exact ⟨z,us,r,⟨_,Oj _ rfl,rfl,rfl,_,rfl⟩⟩
theorem ZqW(h:PA X es t):PE X (.List es pos) (Zun t):=by
 intro pins s Z H Q I hq;refine wpAny_List_spliced (thn (h pos pins s Z H _ I hq) fun us s1 ⟨xs,H1,I1,r,z,q⟩=>⟨by rw [<- r.length];exact z,?_⟩);have hf:H1 s1.heap.objs.size=none:=I1.hok.fresh (Oq _);refine ⟨.ref s1.heap.objs.size,upd H1 s1.heap.objs.size (.lst xs),I1.laid (t':=s1.toks) (fun b u e=>Od _ e) (Oq _) ?_,rfl,q _ hf⟩;exact ⟨z,us,0,r,Oj _ rfl⟩
end
noncomputable abbrev Sp:=List V->Hp->VK->XK->Prop
noncomputable abbrev CXT:=List Env->Hp->Shared->XK->Value->Shared->Prop
structure Env0(P:Program)(w:World)(K:PySem.W.Frag)(mg:Str->Option Value)(base:Heap)(A:Around)(outer:List Env)(s:Shared)(H:Hp):Prop where
 frames:A.frames=some outer
 mod:Mod K mg base
 bs:∀ b o,base.get? b=some o->s.heap.get? b=some o/\H b=none
 bsz:base.objs.size<=s.heap.objs.size
 funs:s.heap.FunFrames base outer
 frf:∀ b∈frs outer,H b=none
 hok:HOk P w H s.heap
 bare:AllBare s.gens
noncomputable def CE(outer:List Env)(P:Program)(w:World)(H:Hp)(s:Shared)(Q:VK)(u:Value)(s':Shared):Prop :=
 ∃ v H',s'.os=s.os/\AllBare s'.gens/\Un (frs outer) [] H H' s.heap s'.heap/\HOk P w H' s'.heap/\RelV v u/\Q v H'
noncomputable def CR(CX:CXT)(outer:List Env)(P:Program)(w:World)(H:Hp)(s:Shared)(Q:VK)(E:XK)(r:Result)(s':Shared):Prop :=
 match r with
 | .ok (.ret u)=>CE outer P w H s Q u s'
 | .ok _=>False
 | .error e=>CX outer H s E e s'
structure FnOk(P:Program)(w:World)(K:PySem.W.Frag)(mg:Str->Option Value)(base:Heap)(CX:CXT)(k:Nat)(f:Addr)(fd:FuncData)(ps:List Str)(sp:Sp):Prop where
 len:∀ vs H Q E,sp vs H Q E->vs.length=ps.length
 run:∀ (A:Around) (outer:List Env) (s:Shared) (H:Hp) (args:Args) (us:List Value) (vs:List V) (Q:VK) (E:XK),Room k A->Env0 P w K mg base A outer s H->BindsTo s fd args (ps.zip us)->Zi vs us->sp vs H Q E ->
   codeAny (model P w) A (.call (.ref f) args) (CR CX outer P w H s Q E) s
theorem FnOk.imp{P:Program}{w:World}{K:PySem.W.Frag}{mg:Str->Option Value}{base:Heap}{CX:CXT}{k:Nat}{f:Addr}{fd:FuncData}{ps:List Str}{sp sp':Sp}(F:FnOk P w K mg base CX k f fd ps sp)
   (h:∀ vs H Q E,sp' vs H Q E->sp vs H Q E):FnOk P w K mg base CX k f fd ps sp' :=
 ⟨fun vs H Q E q=>F.len vs H Q E (h _ _ _ _ q),fun A outer s H args us vs Q E hr he hb hv hs=>F.run A outer s H args us vs Q E hr he hb hv (h _ _ _ _ hs)⟩
theorem Env0.make{P:Program}{w:World}{K:PySem.W.Frag}{mg:Str->Option Value}{base:Heap}{A:Around}{outer:List Env}{s:Shared}{H:Hp}(e:Env0 P w K mg base A outer s H)(C:Addr)(us:List Value)(kw:List (Str×Value)) :
   Env0 P w K mg base (A.under (.builtin "type.__call__" ⟨.ref C::us,kw⟩)) outer s H:=⟨by first|exact e.frames|(simpa [Around.under,Code.envs,Code.isFrame,pushEnvs] using e.frames),e.mod,e.bs,e.bsz,e.funs,e.frf,e.hok,e.bare⟩
section
variable {X:Cx}{pins:List (Addr×Obj)}{Z:St}{H:Hp}{s s':Shared}
theorem Inv.env0(I:Inv X pins Z H s):Env0 X.prog X.w X.K X.mg X.base X.A X.stack s H :=
 ⟨I.ok.frames,I.ok.mod,I.bs,OE I.ok.bsz I.sz,I.stack,I.stkFree,I.hok,I.bare⟩
theorem Inv.after(I:Inv X pins Z H s)(h:CE X.stack X.prog X.w H s Q u s'):EP X pins Z Q u s':=by
 obtain ⟨v,H',os,bare,un,hok,r,q⟩:=h;obtain ⟨hh,g,d,t,os'⟩:=s';obtain rfl:os'=s.os:=os;exact ⟨v,H',I.call (h':=hh) (g':=g) (d':=d) (t':=t) (ch:=[]) un hok bare (fun b z=>absurd z (by simp)),r,q⟩
end
noncomputable def Zsw(sp:Sp)(dvs:List V)(E:XK)(t:TA):TE:=fun Z H Q=>t Z H fun vs H1=>sp (vs++dvs) H1 Q E
noncomputable def ZpJ(C:Addr)(m:Str)(sp:Sp)(dvs:List V)(E:XK)(ta:TE)(t:TA):TE:=fun Z H Q=>ta Z H fun x H1=>∃ a dx fs,x=.ref a/\H1 a=some (.ins C dx fs)/\fs.lookup m=none /\
 t Z H1 fun vs H2=>sp (x::(vs++dvs)) H2 Q E
noncomputable def ZpK(C:Addr)(sp:Sp)(dvs:List V)(E:XK)(t:TA):TE:=fun Z H Q=>t Z H fun vs H1=>∀ x dx,H1 x=none->H1 dx=none->dx≠x ->
 sp (.ref x::(vs++dvs)) (upd (upd H1 dx (.own x)) x (.ins C dx [])) (fun v H2=>v=.non/\Q (.ref x) H2) E
noncomputable def Binds(K:PySem.W.Frag)(fd:FuncData)(ps:List Str)(ds:List Value):Prop :=
 ∀ (s:Shared) (us:List Value),K.In s.heap->(us++ds).length=ps.length->BindsTo s fd ⟨us,[]⟩ (ps.zip (us++ds))
theorem Binds.all{K:PySem.W.Frag}(h:∀ us:List Value,us.length=ps.length->bindArgs fd ⟨us,[]⟩=pure (ps.zip us)):Binds K fd ps []:=fun s us _ hl=>by
 rw [List.append_nil] at hl ⊢;exact .of_eq (h us hl)
noncomputable def Za2(CX:CXT)(X:Cx)(E:XK):Prop:=∀ (pins:List (Addr×Obj)) (Z:St) (H:Hp) (s:Shared) (e:Value) (s':Shared),Inv X pins Z H s->CX X.stack H s E e s'->X.xe e s'
section
variable {X:Cx}{CX:CXT}{k:Nat}{f C:Addr}{fd:FuncData}{ps:List Str}{sp:Sp}{dvs:List V}{ds:List Value}{E:XK}{x m:Str}{p pos apos:Pos}{e o:Expr}{es:List Expr}{ta:TE}{t:TA}
theorem ZiV(F:FnOk X.prog X.w X.K X.mg X.base CX k f fd ps sp)(hr:Room k X.A)(hb:Binds X.K fd ps ds)(hd:Zi dvs ds)(hx:Za2 CX X E)
   (I:Inv X pins Z H s) (r:Zi vs us) (h:sp (vs++dvs) H Q E):wpAny (model X.prog X.w) X.A (call (.ref f) us) (EP X pins Z Q) X.xe s:=by
 have r2:Zi (vs++dvs) (us++ds):=r.append hd;have hl:(us++ds).length=ps.length:=by rw [<- r2.length];exact F.len _ _ _ _ h
 refine wpAny_call (codeAny_mono (F.run X.A X.stack s H ⟨us,[]⟩ (us++ds) (vs++dvs) Q E hr I.env0 (hb s us I.kIn hl) r2 h) fun r s' hq=>?_);cases r with
 | error e=>exact hx pins Z H s e s' I hq
 | ok fl =>
   cases fl with
   | ret u=>exact I.after hq
   | next=>exact False.elim hq
   | brk=>exact False.elim hq
   | cont=>exact False.elim hq
theorem Zol(F:FnOk X.prog X.w X.K X.mg X.base CX k f fd ps sp)(hr:Room k X.A)(hg:Gl X x)(hm:X.mg x=some (.ref f))(hk:PySem.W.keepIn X.K (.ref f)=true)(hb:Binds X.K fd ps ds)(hd:Zi dvs ds)(hx:Za2 CX X E)
   (ha:PA X (e::es) t) (hdb:(x==("__debug__" : Str))=false:=by decide) (he:starEach (e::es) X.env=(false,eval e X.env)::starEach es X.env:=by rfl) (hpl:(backTo pos (starEach es X.env)).any (·.1)=false:=by rfl) :
   PE X (.Call (.Name x p) (e::es) [] pos) (Zsw sp dvs E t):=by
 intro pins s Z H Q I h;refine wpAny_Call_Name_kw (Zfg I hg hm ?_ hdb);refine PySem.W.callWith_K (h₀:=X.base) I.ok.mod.kin hk (thn (ha pos pins s Z H _ I h) fun us s1 ⟨vs,H1,I1,r,q⟩=>⟨I1.kIn,?_⟩) he hpl;exact ZiV F hr hb hd hx I1 r q
theorem Zog(he:PE X o ta)(c:Cls X.K C)(hm:Meth X.K C m f)(F:FnOk X.prog X.w X.K X.mg X.base CX k f fd ps sp)(hr:Room k X.A)(hb:Binds X.K fd ps ds)(hd:Zi dvs ds)(hx:Za2 CX X E)(ha:PA X (e::es) t)
   (hst:starEach (e::es) X.env=(false,eval e X.env)::starEach es X.env:=by rfl) (hpl:(backTo pos (starEach es X.env)).any (·.1)=false:=by rfl)
   (ht:eval (.Call (.Attribute o m apos) (e::es) [] pos) X.env=(do
     let ov <- eval o X.env
     standAt apos.atName
     let (f,first) <- holding [ov] (getMethod ov m pl)
     callWith pos f first (backTo pos (starEach (e::es) X.env)) (backToKw pos (keywordEach [] X.env))):=by rfl) :
   PE X (.Call (.Attribute o m apos) (e::es) [] pos) (ZpJ C m sp dvs E ta t):=by
 intro pins s Z H Q I h;refine PySem.W.methodCall_KW (pl:=pl) (thn (he pins s Z H _ I h) fun u s1 ⟨x,H1,I1,rx,a,dx,fs,ex,ea,l,q⟩=>?_) ht;subst ex;obtain rfl:u=Value.ref a:=rx;refine ZfH I1 ea c hm l ?_;refine PySem.W.callWith_K (first:=[.ref a]) (h₀:=X.base) I.ok.mod.kin hm.kp (thn (ha pos pins s1 Z H1 _ I1 q) fun us s2 ⟨vs,H2,I2,r,q2⟩=>⟨I2.kIn,?_⟩) hst hpl;exact ZiV (us:=.ref a::us) (vs:=.ref a::vs) F hr hb hd hx I2 (.cons rfl r) q2
theorem Zml(he:PE X o ta)(c:Cls X.K C)(hm:Meth X.K C m f)(F:FnOk X.prog X.w X.K X.mg X.base CX k f fd ps sp)(hr:Room k X.A)(hb:Binds X.K fd ps ds)(hd:Zi dvs ds)(hx:Za2 CX X E)
   (ht:eval (.Call (.Attribute o m apos) [] [] pos) X.env=(do
     let ov <- eval o X.env
     standAt apos.atName
     let (f,first) <- holding [ov] (getMethod ov m pl)
     callWith pos f first (backTo pos (starEach [] X.env)) (backToKw pos (keywordEach [] X.env))):=by rfl) :
   PE X (.Call (.Attribute o m apos) [] [] pos) (ZpJ C m sp dvs E ta Zqs):=by
 intro pins s Z H Q I h;refine PySem.W.methodCall_KW (pl:=pl) (thn (he pins s Z H _ I h) fun u s1 ⟨x,H1,I1,rx,a,dx,fs,ex,ea,l,q⟩=>?_) ht;subst ex;obtain rfl:u=Value.ref a:=rx;refine ZfH I1 ea c hm l ?_;exact PySem.W.callWith_K0 (first:=[.ref a]) I1.kIn hm.kp (ZiV (us:=[.ref a]) (vs:=[.ref a]) F hr hb hd hx I1 (.cons rfl .nil) q)
structure Mk(K:PySem.W.Frag)(C f:Addr):Prop where
 makes:PySem.W.makesIn K C=true
 init:PySem.W.findIn K (.ref C) "__init__" = some (some (.ref f))
 fn:PySem.W.isFn K (.ref f)=true
 kp:PySem.W.keepIn K (.ref C)=true
theorem ZhM(M:Mk X.K C f)(F:FnOk X.prog X.w X.K X.mg X.base CX k f fd ps sp)(hr:Room (k+1) X.A)(hb:Binds X.K fd ps ds)(hd:Zi dvs ds)
   (hx:Za2 CX X E) (I:Inv X pins Z H s) (r:Zi vs us)
   (h:∀ x dx,H x=none->H dx=none->dx≠x->sp (.ref x::(vs++dvs)) (upd (upd H dx (.own x)) x (.ins C dx [])) (fun v H2=>v=.non/\Q (.ref x) H2) E) :
   wpAny (model X.prog X.w) X.A (call (.ref C) us) (EP X pins Z Q) X.xe s:=by
 have hq:=h (s.heap.objs.size+1) s.heap.objs.size (I.hok.fresh (Nat.le_succ _)) (I.hok.fresh (Oq _)) (Ou (OH _));have I2:=Inv.made (C:=C) I;have r2:Zi (V.ref (s.heap.objs.size+1)::(vs++dvs)) (Value.ref (s.heap.objs.size+1)::(us++ds)):=.cons rfl (r.append hd);have hl:(Value.ref (s.heap.objs.size+1)::us++ds).length=ps.length:=by
   have e:=r2.length;rw [F.len _ _ _ _ hq] at e;exact e.symm
 refine wpAny_call (ZmB (f:=f) I.kIn M.makes M.init (beq_iff_eq.mp M.fn) (codeAny_mono (F.run _ X.stack _ _ ⟨Value.ref (s.heap.objs.size+1)::us,[]⟩ (Value.ref (s.heap.objs.size+1)::(us++ds)) _ _ E (hr.make C us [])
   (I2.env0.make C us []) (hb _ (Value.ref (s.heap.objs.size+1)::us) I2.kIn hl) r2 hq) fun r s' hq'=>?_))
 cases r with
 | error e=>exact hx pins Z _ _ e s' I2 hq'
 | ok fl =>
   cases fl with
   | ret u =>
     obtain ⟨v,H',I3,rv,ev,q3⟩:=I2.after hq';subst ev;exact ⟨rv,⟨V.ref (s.heap.objs.size+1),H',I3,rfl,q3⟩⟩
   | next=>exact False.elim hq'
   | brk=>exact False.elim hq'
   | cont=>exact False.elim hq'
theorem Zoh(M:Mk X.K C f)(F:FnOk X.prog X.w X.K X.mg X.base CX k f fd ps sp)(hr:Room (k+1) X.A)(hg:Gl X x)(hm:X.mg x=some (.ref C))(hb:Binds X.K fd ps ds)(hd:Zi dvs ds)(hx:Za2 CX X E)
   (ha:PA X (e::es) t) (hdb:(x==("__debug__" : Str))=false:=by decide) (he:starEach (e::es) X.env=(false,eval e X.env)::starEach es X.env:=by rfl) (hpl:(backTo pos (starEach es X.env)).any (·.1)=false:=by rfl) :
   PE X (.Call (.Name x p) (e::es) [] pos) (ZpK C sp dvs E t):=by
 intro pins s Z H Q I h;refine wpAny_Call_Name_kw (Zfg I hg hm ?_ hdb);refine PySem.W.callWith_K (h₀:=X.base) I.ok.mod.kin M.kp (thn (ha pos pins s Z H _ I h) fun us s1 ⟨vs,H1,I1,r,q⟩=>⟨I1.kIn,?_⟩) he hpl;exact ZhM M F hr hb hd hx I1 r q
theorem Zmm(M:Mk X.K C f)(F:FnOk X.prog X.w X.K X.mg X.base CX k f fd ps sp)(hr:Room (k+1) X.A)(hg:Gl X x)(hm:X.mg x=some (.ref C))(hb:Binds X.K fd ps ds)(hd:Zi dvs ds)(hx:Za2 CX X E)
   (hdb:(x==("__debug__" : Str))=false:=by decide):PE X (.Call (.Name x p) [] [] pos) (ZpK C sp dvs E Zqs):=by
 intro pins s Z H Q I h;refine wpAny_Call_Name_kw (Zfg I hg hm ?_ hdb);exact PySem.W.callWith_K0 I.kIn M.kp (ZhM (us:=[]) M F hr hb hd hx I .nil h)
end
structure FnScope(N P:List Str)(sc:Scope):Prop where
 kind:sc.kind=.function
 co:sc.isCoroutine=false
 gen:sc.isGenerator=false
 nd:N.Nodup
 pre:N.take P.length=P
 par:∀ x∈P,sc.names.lookup x=some .local\/sc.names.lookup x=some .cell
 nofree:∀ y∈sc.names,y.2≠.free
theorem ZgR{kindOf:Str->Option NameKind}:∀ {binds:List (Str×Value)}{m:Str->Option Value},(∀ v,(x,v) ∉ binds)->bindL kindOf binds m x=m x
 | [],_,_=>rfl
 | (n,v)::r,m,h=>by
   unfold bindL;rw [ZgR fun w hw=>h w (Oh _ hw)];split
   . have:x≠n:=by rintro rfl;exact h v Oi
     simp [this]
   . rfl
theorem ZgT{kindOf:Str->Option NameKind}:∀ {binds:List (Str×Value)}{m:Str->Option Value},(∀ v,(x,v) ∉ binds)->bindC kindOf binds m x=m x
 | [],_,_=>rfl
 | (n,v)::r,m,h=>by
   unfold bindC;rw [ZgT fun w hw=>h w (Oh _ hw)];split
   . rfl
   . have:x≠n:=by rintro rfl;exact h v Oi
     simp [this]
theorem ZgS{kindOf:Str->Option NameKind}:∀ {P:List Str}{vs:List Value}{i:Nat}{m:Str->Option Value},P.Nodup->P[i]? = some x->vs[i]? = some v->kindOf x=some .local ->
   bindL kindOf (P.zip vs) m x=some v
 | [],_,_,_,_,h,_,_=>by simp at h
 | _::_,[],_,_,_,_,h,_=>by simp at h
 | p::P,w::vs,0,m,nd,h1,h2,hk=>by
   simp at h1 h2;subst h1;subst h2;show bindL kindOf ((p,w)::P.zip vs) m p=_;unfold bindL;rw [ZgR fun v hv=>(List.nodup_cons.mp nd).1 (List.of_mem_zip hv).1,if_pos hk];simp
 | p::P,w::vs,i+1,m,nd,h1,h2,hk=>by
   show bindL kindOf ((p,w)::P.zip vs) m x=_;unfold bindL;exact ZgS (i:=i) (List.nodup_cons.mp nd).2 (by simpa using h1) (by simpa using h2) hk
theorem ZgU{kindOf:Str->Option NameKind}:∀ {P:List Str}{vs:List Value}{i:Nat}{m:Str->Option Value},P.Nodup->P[i]? = some x->vs[i]? = some v->kindOf x≠some .local ->
   bindC kindOf (P.zip vs) m x=some v
 | [],_,_,_,_,h,_,_=>by simp at h
 | _::_,[],_,_,_,_,h,_=>by simp at h
 | p::P,w::vs,0,m,nd,h1,h2,hk=>by
   simp at h1 h2;subst h1;subst h2;show bindC kindOf ((p,w)::P.zip vs) m p=_;unfold bindC;rw [ZgT fun v hv=>(List.nodup_cons.mp nd).1 (List.of_mem_zip hv).1,if_neg hk];simp
 | p::P,w::vs,i+1,m,nd,h1,h2,hk=>by
   show bindC kindOf ((p,w)::P.zip vs) m x=_;unfold bindC;exact ZgU (i:=i) (List.nodup_cons.mp nd).2 (by simpa using h1) (by simpa using h2) hk
noncomputable def start(N:List Str)(vs:List V):St:=vs.map some++List.replicate (N.length - vs.length) none
noncomputable def Zjn(CX:CXT)(P:Program)(w:World)(K:PySem.W.Frag)(mg:Str->Option Value)(base:Heap)(N:List Str)(qual:Str)(scope:Scope)(f:Addr)(cd:Value)(A:Around)(outer:List Env)(s:Shared)(H:Hp)(E:XK):Cx where
 prog:=P
 w:=w
 K:=K
 mg:=mg
 base:=base
 A:=A.deeper (envOfC qual scope s.heap.objs.size f cd)
 N:=N
 s₀:=s
 H₀:=H
 env:=envOfC qual scope s.heap.objs.size f cd
 outer:=outer
 stack:=envOfC qual scope s.heap.objs.size f cd::outer
 ex:=[]
 calm:=true
 fn:=fun _=>true
 pn:=[]
 xe:=fun e s'=>wpAny (model P w) (A.deeper (envOfC qual scope s.heap.objs.size f cd)) (leaving (envOfC qual scope s.heap.objs.size f cd) e) (fun _ s''=>CX outer H s E e s'') (fun e' s''=>CX outer H s E e' s'') s'
theorem Zir{sc:Scope}(h:sc.names.lookup x=some .cell):∃ c,(cellsFrom n sc.names []).lookup x=some c:=by
 have q:=PySem.W.cellsFrom_some sc.names n [] (.inl h);exact Option.isSome_iff_exists.mp q
theorem Zld{CX:CXT}{P:Program}{w:World}{K:PySem.W.Frag}{mg:Str->Option Value}{base:Heap}{N ps:List Str}{qual:Str}{scope:Scope}{f:Addr}{cd:Value}{A:Around}{outer:List Env}{s s1:Shared}{H:Hp}{E:XK}{us:List Value}{vs:List V}
   (S_:FnScope N ps scope) (hd:A.handled=none) (e0:Env0 P w K mg base A outer s H) (hl:vs.length=ps.length) (r:Zi vs us)
   (x:InCallC s s.heap.objs.size (bindL (envOfC qual scope s.heap.objs.size f cd).kindOf (ps.zip us) fun _=>none) (cellsFrom (s.heap.objs.size+1) scope.names []) (bindC (envOfC qual scope s.heap.objs.size f cd).kindOf (ps.zip us) fun _=>none) s1) :
   Inv (Zjn CX P w K mg base N qual scope f cd A outer s H E) [] (start N vs) H s1:=by
 have hpl:ps.length<=N.length:=by have:=congrArg List.length S_.pre;rw [List.length_take] at this;lia
 obtain ⟨h1,tk,rfl,hk⟩:=x.done;have noA:∀ b:Addr,b ∉ (Zjn CX P w K mg base N qual scope f cd A outer s H E).ex:=fun b z=>absurd (show b∈([]:List Addr) from z) (by simp);refine ⟨⟨e0.mod,S_.kind,rfl,rfl,Oq _,fun y z c h1 h2=>?_,fun y hy=>?_,fun y c _ h=>?_,fun _=>hd,Around.frames_deeper e0.frames,.inr ⟨rfl,rfl⟩,fun b z=>absurd z (noA b),e0.bs,e0.bsz,fun b _ _=>noA b,fun b z=>absurd z (noA b),e0.funs,e0.frf⟩,
   rfl,e0.bare,Un.kept hk,⟨_,x.toInCall.ns,fun i y v h1 h2 h3=>?_⟩,fun y c h=>⟨_,x.cell y c h⟩,e0.hok.fresh (Oq _),fun y c h=>?_,fun p hp=>absurd (show p∈([]:List (Addr×Obj)) from hp) (by simp),e0.hok.kept hk,?_⟩
 . exact name_of_addr x.apart (PySem.mem_of_lookup h1) (PySem.mem_of_lookup h2)
 . have hy:scope.names.lookup y=some .cell\/scope.names.lookup y=some .free:=hy;rcases hy with hy|hy
   . exact Zir hy
   . exact absurd rfl (S_.nofree _ (PySem.mem_of_lookup hy))
 . exact Nat.le_of_lt (x.above y c (PySem.mem_of_lookup h))
 . have hi:i<vs.length:=by
     unfold start at h2;by_cases hi:i<vs.length
     . exact hi
     . rw [Om (by simpa using hi)] at h2;rw [List.getElem?_replicate] at h2;split at h2<;>cases h2
   have ha:vs[i]? = some v:=by
     unfold start at h2;rw [Oe (by simpa using hi),On] at h2;cases e:vs[i]? with
     | none=>rw [e] at h2;cases h2
     | some a=>rw [e] at h2;cases h2;rfl
   obtain ⟨u,hu,rv⟩:=r.get ha;have hp:ps[i]? = some y:=by
     rw [<- S_.pre,List.getElem?_take_of_lt (by lia)];exact h1
   have ndP:ps.Nodup:=by rw [<- S_.pre];exact S_.nd.sublist (List.take_sublist _ _)
   refine ⟨u,rv,?_⟩;rcases S_.par y (O1 hp) with k|k
   . exact .inl ⟨k,ZgS ndP hp hu k⟩
   . obtain ⟨c,e⟩:=Zir (n:=s.heap.objs.size+1) k;refine .inr ⟨.inl k,c,e,?_⟩;have q:=x.cell y c e;rw [ZgU ndP hp hu (by show scope.names.lookup y≠_;rw [k];decide)] at q;exact q
 . exact e0.hok.fresh (Nat.le_of_lt (x.above y c (PySem.mem_of_lookup h)))
 . unfold start;show _=N.length;rw [OA,List.length_map,List.length_replicate]
   lia
theorem ZtA{CX:CXT}{P:Program}{w:World}{K:PySem.W.Frag}{mg:Str->Option Value}{base:Heap}{k:Nat}{f:Addr}{name qual:Str}{params:Arguments}{body:List Stmt}{scope:Scope}{dV kV doc pm cdv ct oc:Value}{an od:Option Addr}
   {osl:Array (Option Value)}{N ps:List Str}{sp:Sp} (lk:K.lookup f=some ⟨oc,od,.func (PySem.W.fnOf name qual params body scope dV kV doc pm an cdv ct),osl⟩) (hcd:PySem.W.codeIn K cdv qual=true) (S_:FnScope N ps scope)
   (len:∀ vs H Q E,sp vs H Q E->vs.length=ps.length)
   (hbody:∀ (A:Around) (outer:List Env) (s:Shared) (H:Hp) (vs:List V) (Q:VK) (E:XK),Room k (A.deeper (envOfC qual scope s.heap.objs.size f cdv))->sp vs H Q E ->
     ∃ t,PSs (Zjn CX P w K mg base N qual scope f cdv A outer s H E) body t/\t {nx:=fun _ H'=>Q .non H',rt:=Q} (start N vs) H) :
   FnOk P w K mg base CX (k+1) f (PySem.W.fnOf name qual params body scope dV kV doc pm an cdv ct) ps sp:=by
 refine ⟨len,fun A outer s H args us vs Q E hr e0 hb r hsp=>?_⟩;have hl:=len _ _ _ _ hsp;have KX:K.In s.heap:=e0.mod.kin.keeps fun b o e=>(e0.bs b o e).1;have lim:s.heap.NoLimit:=e0.mod.nolimit.keeps fun b o e=>(e0.bs b o e).1;have hkind:∀ y∈ps.zip us,scope.names.lookup y.1=some .local\/(scope.names.lookup y.1=some .cell/\((cellsFrom (s.heap.objs.size+1) scope.names []).lookup y.1).isSome=true):=fun ⟨n,v⟩ hy=>by
   rcases S_.par n (List.of_mem_zip hy).1 with q|q
   . exact .inl q
   . exact .inr ⟨q,PySem.W.cellsFrom_some _ _ _ (.inl q)⟩
 refine codeAny_call_function hr.depth (KX _ _ lk) rfl S_.co S_.gen rfl (PySem.W.codeRec_of KX hcd) (hb _ _ _ _ ?_);refine wpAny_newFunctionEnv_cells S_.kind hkind fun env he s1 x=>?_;subst he;refine ⟨lim.keeps x.toInCall.keep,codeAny_func ?_⟩;obtain ⟨t,ht,hq⟩:=hbody A outer s H vs Q E (hr.deeper _) hsp;have I:Inv (Zjn CX P w K mg base N qual scope f cdv A outer s H E) [] (start N vs) H s1:=Zld S_ hr.hd e0 hl r x;refine wpAny_mono (ht [] s1 (start N vs) H _ I hq) (fun fl s' hs=>?_) fun e s' hs=>hs;have fin:∀ {σ':St}{H':Hp}{v:V}{u:Value},Inv (Zjn CX P w K mg base N qual scope f cdv A outer s H E) [] σ' H' s'->RelV v u->Q v H'->CE outer P w H s Q u s' :=
   fun {σ' H' v u} J rv q=>⟨v,H',J.os,J.bare,J.base,J.hok,rv,q⟩
 cases fl with
 | ret u =>
   obtain ⟨v,σ',H',J,rv,q⟩:=hs;exact fin J rv q
 | next =>
   obtain ⟨σ',H',J,q⟩:=hs;exact fin (v:=V.non) (u:=Value.none) J rfl q
 | brk =>
   obtain ⟨_,_,_,q⟩:=hs;exact False.elim q
 | cont =>
   obtain ⟨_,_,_,q⟩:=hs;exact False.elim q
end L2
namespace L2
open PySem PySem.Spec PyProof.Rows
section
variable {X:Cx}{x:Str}{p pos:Pos}{e:Expr}{es:List Expr}{t:TA}{id T:String}{r:List V->Hp->VK->Prop}
noncomputable def tCB(r:List V->Hp->VK->Prop)(t:TA):TE:=fun Z H Q=>t Z H fun vs H1=>r vs H1 Q
theorem ZbV (hc:Z6 X (.builtin id) r) (hg:Gl X x) (hm:X.mg x=none) (hv:bootBuiltins x=some (.builtin id)) (ha:PA X (e::es) t) (hn:x ≠ "__name__" := by decide) (hdb:(x==("__debug__" : Str))=false:=by decide)
   (he:starEach (e::es) X.env=(false,eval e X.env)::starEach es X.env:=by rfl) (hpl:(backTo pos (starEach es X.env)).any (·.1)=false:=by rfl):PE X (.Call (.Name x p) (e::es) [] pos) (tCB r t):=by
 intro pins s Z H Q I h;refine wpAny_Call_Name_kw (Zc8 I hg hm hv ?_ hn hdb);exact PyProof.Rows.callWith_builtin1 (thn (ha pos pins s Z H _ I h) fun us s1 ⟨vs,H1,I1,r1,q1⟩=>hc pins s1 Z H1 vs us Q I1 r1 q1) he hpl
theorem Zcf (hc:Z6 X (.type T) r) (hg:Gl X x) (hm:X.mg x=none) (hv:bootBuiltins x=some (.type T)) (ha:PA X (e::es) t) (hn:x ≠ "__name__" := by decide) (hdb:(x==("__debug__" : Str))=false:=by decide)
   (he:starEach (e::es) X.env=(false,eval e X.env)::starEach es X.env:=by rfl) (hpl:(backTo pos (starEach es X.env)).any (·.1)=false:=by rfl):PE X (.Call (.Name x p) (e::es) [] pos) (tCB r t):=by
 intro pins s Z H Q I h;refine wpAny_Call_Name_kw (Zc8 I hg hm hv ?_ hn hdb);exact PyProof.Rows.callWith_type1 (thn (ha pos pins s Z H _ I h) fun us s1 ⟨vs,H1,I1,r1,q1⟩=>hc pins s1 Z H1 vs us Q I1 r1 q1) he hpl
end
end L2
namespace HT
open PySem PyProof.Rows
section
variable {prog:Program}{w:World}{A:Around}{E:Value->Shared->Prop}{s:Shared}
theorem Zpg(ht:IsTup s.heap t vs.toArray)(hb:IsTup s.heap b ws.toArray)(hv:vs≠[])
   (h1:ws=[]->Q (.ref t) s) (h2:ws≠[]->Q (.ref s.heap.objs.size) {s with heap:=s.heap.push {cls:=.type "tuple",data:=.seq (vs++ws).toArray}})
   (hsz:vs.length+ws.length<=sizeLine):wpAny (model prog w) A (binaryOp .Add (.ref t) (.ref b)) Q E s:=by
 obtain ⟨⟨cls,dd,data,sl⟩,ho,hc,n,hd⟩:=id ht;obtain ⟨⟨cls2,dd2,data2,sl2⟩,ho2,hc2,n2,hd2⟩:=id hb;simp only at hc hd hc2 hd2;subst hc hd hc2 hd2;have e:vs.toArray++ws.toArray=(vs++ws).toArray:=by simp
 by_cases hw:ws=[]
 . exact concat_meets ⟨_,ho,rfl⟩ ⟨_,ho2,rfl⟩ noFill_tuple_add seq_tuple_add PySem.F.slot_tuple_add PySem.F.entry_tuple_add (PySem.F.args_tuple_add_2 _ _)
     (tuple_addW1 t b vs.toArray ws.toArray n n2 dd dd2 sl sl2 (by simpa using hv) (by simp [hw])) ⟨ho,ho2,h1 hw⟩
 . refine concat_meets ⟨_,ho,rfl⟩ ⟨_,ho2,rfl⟩ noFill_tuple_add seq_tuple_add PySem.F.slot_tuple_add PySem.F.entry_tuple_add (PySem.F.args_tuple_add_2 _ _)
     (tuple_addW2 t b vs.toArray ws.toArray n n2 dd dd2 sl sl2 (by simpa using hv) (by simpa using hw) (by rw [Of,Of];exact hsz)) ⟨ho,ho2,?_⟩
   rw [e];exact h2 hw
noncomputable def sIx(n d:Nat):Option Int->Nat
 | none=>d
 | some v=>if v<0 then (v+(n:Int)).toNat else min v.toNat n
theorem Zqy(n d:Nat)(hd:d<=n)(o:Option Int):sIx n d o<=n:=by
 cases o with
 | none=>exact hd
 | some v =>
   show (if v<0 then (v+(n:Int)).toNat else min v.toNat n)<=n;by_cases hv:v<0
   . rw [if_pos hv];lia
   . rw [if_neg hv];exact Nat.min_le_right _ _
theorem Zkp(v:Int)(n d:Nat):(if v<0 then max (v+(n:Int)) 0 else min v (n:Int))=((sIx n d (some v):Nat):Int):=by
 show (if v<0 then max (v+(n:Int)) 0 else min v (n:Int))=(((if v<0 then (v+(n:Int)).toNat else min v.toNat n):Nat):Int)
 by_cases hv:v<0
 . simp only [if_pos hv];lia
 . simp only [if_neg hv];lia
theorem Zjt(lo hi:Option Int)(n:Nat):Builtin.Slice.sliceAdjust lo hi 1 (n:Int)=(((sIx n 0 lo:Nat):Int),((sIx n n hi:Nat):Int)):=by
 have h1:¬ ((1:Int)<0):=by lia
 unfold Builtin.Slice.sliceAdjust;simp only [h1,if_false];refine Prod.ext ?_ ?_
 . cases lo with
   | none=>rfl
   | some v=>exact Zkp v n 0
 . cases hi with
   | none=>rfl
   | some v=>exact Zkp v n n
theorem Zi1(i j:Nat):Builtin.Slice.slicePlaces (i:Int) (j:Int) 1=j - i:=by
 unfold Builtin.Slice.slicePlaces;have h1:(1:Int) > 0:=by lia
 simp only [h1,if_true,Int.ediv_one];split<;>lia
theorem Zfq(p:IsPart v o)(h:Q o s):wpAny (model prog w) A (Builtin.Slice.slicePartIndex v) Q E s:=by
 cases p with
 | none=>exact slicePart_none h
 | int i t=>exact slicePart_int h
theorem Zbl{sl:Addr}{vl vu:Value}{lo hi:Option Int}{n:Nat}{Q:Int×Int×Nat->Shared->Prop}(hs:s.heap.IsSliceOf sl vl vu .none)(pl:IsPart vl lo)(pu:IsPart vu hi)
   (h:Q (((sIx n 0 lo:Nat):Int),1,sIx n n hi - sIx n 0 lo) s):wpAny (model prog w) A (Builtin.Slice.sliceApplied (.ref sl) (pure (n:Int))) Q E s:=by
 obtain ⟨os,hos,hcs,hds⟩:=id hs;unfold Builtin.Slice.sliceApplied Builtin.Slice.sliceFields;refine wpAny_bind (wpAny_bind (wpAny_field hos hds (x:=vl) rfl (wpAny_bind (wpAny_field hos hds (x:=vu) rfl (wpAny_bind (wpAny_field hos hds (x:=.none) rfl (wpAny_pure ?_)))))));refine wpAny_bind (slicePart_none ?_);show wpAny _ _ (if ((1:Int)==0)=true then _ else _) _ _ s;rw [if_neg (by decide)];refine wpAny_bind (Zfq pl (wpAny_bind (Zfq pu (wpAny_bind (wpAny_pure ?_)))));show wpAny _ _ (match Builtin.Slice.sliceAdjust lo hi 1 (n:Int) with|(lo,hi)=>pure (lo,(1:Int),Builtin.Slice.slicePlaces lo hi 1)) _ _ s;rw [Zjt lo hi n];show wpAny _ _ (pure (((sIx n 0 lo:Nat):Int),(1:Int),Builtin.Slice.slicePlaces ((sIx n 0 lo:Nat):Int) ((sIx n n hi:Nat):Int) 1)) _ _ s;rw [Zi1];exact wpAny_pure h
theorem Zmh(xs:Array Value)(i k:Nat):((List.range k).filterMap fun (m:Nat)=>xs[((i:Int)+(m:Int) * 1).toNat]?).toArray=((xs.toList.drop i).take k).toArray:=by
 have e:(fun (m:Nat)=>xs[((i:Int)+(m:Int) * 1).toNat]?)=fun m=>xs[i+m]? := by
   funext m;have:((i:Int)+(m:Int) * 1).toNat=i+m:=by lia
   rw [this]
 rw [e];have:=pick_run xs i k;rw [List.filterMap_map] at this;have e2:((fun x=>xs[x]?) ∘ fun x=>i+x)=fun m=>xs[i+m]? := rfl;rw [e2] at this;rw [this]
theorem ZdC{t sl:Addr}{items:Array Value}{vl vu:Value}{lo hi:Option Int}{Q:Value->Shared->Prop}(ht:IsTup s.heap t items)(hs:s.heap.IsSliceOf sl vl vu .none)(pl:IsPart vl lo)(pu:IsPart vu hi)
   (hw:¬ (sIx items.size 0 lo=0/\sIx items.size items.size hi=items.size))
   (h:Q (.ref s.heap.objs.size) {s with heap:=s.heap.push {cls:=.type "tuple",data:=.seq ((items.toList.drop (sIx items.size 0 lo)).take (sIx items.size items.size hi - sIx items.size 0 lo)).toArray}})
   (hsz:items.size<=sizeLine):wpAny (model prog w) A (getItem (.ref t) (.ref sl)) Q E s:=by
 have htake:sizeOk (.seq ((items.toList.drop (sIx items.size 0 lo)).take (sIx items.size items.size hi - sIx items.size 0 lo)).toArray):=by
   show ((items.toList.drop (sIx items.size 0 lo)).take (sIx items.size items.size hi - sIx items.size 0 lo)).toArray.size<=sizeLine;rw [Of,List.length_take,List.length_drop,Array.length_toList]
   lia
 have hj:sIx items.size items.size hi<=items.size:=Zqy _ _ (Oq _) hi;obtain ⟨os,hos,hcs,hds⟩:=id hs;have hTs:s.TypeIs (.ref sl) "slice" := ⟨os,hos,hcs⟩
 unfold getItem
 try with_reducible refine wpAny_holding ?_
 first|refine wpAny_bind (wpAny_pure ?_)|skip
 refine wpAny_bind (wpAny_sequenceKey ht.typeIs (by decide) ?_);refine wpAny_bind (wpAny_callSpecial?_slot (name:=O "__getitem__") ht.typeIs PyProof.Rows.slot_tuple_getitem
   (wpAny_call_entry PyProof.Rows.slot_tuple_getitem ht.typeIs entry_tuple_getitem ?_ (args_tuple_getitem _ _)))
 show wpAny _ _ (Builtin.Tuple.tupleItemsOf (.ref t) >>= _) _ _ s;refine wpAny_bind (tupleItemsOf_ ht ?_);refine wpAny_bind (wpAny_typeOf hTs ?_);rw [if_pos (by decide)];refine wpAny_bind (Zbl hs pl pu ?_);have hno:¬ ((((sIx items.size 0 lo:Nat):Int)==0&&(1:Int)==1&&(sIx items.size items.size hi - sIx items.size 0 lo)==items.size)=true):=by
   intro q;rw [Oa,Oa] at q;have q1:((sIx items.size 0 lo:Nat):Int)=0:=eq_of_beq q.1.1;have q2:sIx items.size items.size hi - sIx items.size 0 lo=items.size:=eq_of_beq q.2;exact hw ⟨by lia,by lia⟩
 show wpAny _ _ (if (((sIx items.size 0 lo:Nat):Int)==0&&(1:Int)==1&&(sIx items.size items.size hi - sIx items.size 0 lo)==items.size)=true then _ else _) _ _ s;rw [if_neg hno,Zmh]
 first
   | exact wpAny_bind (m:=Builtin.Tuple.tupleExact _) (wpAny_newObj_type (wpAny_pure ⟨_,rfl,wpAny_pure h⟩) htake)
   | exact wpAny_bind (m:=Builtin.Tuple.tupleExact _) (wpAny_newObj_type (wpAny_bind (wpAny_pure (wpAny_pure ⟨_,rfl,wpAny_pure h⟩))) htake)
   | exact wpAny_bind (wpAny_bind (m:=Builtin.Tuple.tupleExact _) (wpAny_newObj_type (wpAny_pure (wpAny_pure ⟨_,rfl,wpAny_pure h⟩)) htake))
   | exact wpAny_bind (wpAny_bind (m:=Builtin.Tuple.tupleExact _) (wpAny_newObj_type (wpAny_pure ⟨_,rfl,wpAny_pure h⟩) htake))
end
end HT
namespace L2
open PySem PySem.Spec PyProof.Rows
noncomputable abbrev TO:=St->Hp->(Option Int->Hp->Prop)->Prop
noncomputable def PO(X:Cx)(e:Option Expr)(t:TO):Prop :=
 ∀ (pins:List (Addr×Obj)) (s:Shared) (Z:St) (H:Hp) (Q:Option Int->Hp->Prop),Inv X pins Z H s->t Z H Q ->
   wpAny (model X.prog X.w) X.A (evalPart e X.env) (fun u s'=>∃ o H',Inv X pins Z H' s'/\IsPart u o/\Q o H') X.xe s
noncomputable def ZnH:TO:=fun _ H Q=>Q none H
noncomputable def Zsq(t:TE):TO:=fun Z H Q=>t Z H fun x H1=>∃ i,x=.int i/\Q (some i) H1
section
variable {X:Cx}{e:Expr}{te:TE}{lo hi:Option Expr}{tl th:TO}{pos p2:Pos}
theorem Zn9:PO X none ZnH:=by
 intro pins s Z H Q I h;rw [evalPart_none];exact wpAny_pure ⟨none,H,I,.none,h⟩
theorem Zn8(h:PE X e te):PO X (some e) (Zsq te):=by
 intro pins s Z H Q I hw;rw [evalPart_some];refine thn (h pins s Z H _ I hw) fun u s1 ⟨x,H1,I1,r1,q1⟩=>?_;obtain ⟨i,rfl,q⟩:=q1;obtain ⟨t,rfl⟩:=r1;exact ⟨some i,H1,I1,.int i t,q⟩
noncomputable def SlR(X:Cx)(r:V->Option Int->Option Int->Hp->VK->Prop):Prop :=
 ∀ (pins:List (Addr×Obj)) (s:Shared) (Z:St) (H:Hp) (x:V) (v vl vu:Value) (lo hi:Option Int) (sl:Addr) (Q:VK),Inv X pins Z H s->RelV x v->s.heap.IsSliceOf sl vl vu .none->IsPart vl lo->IsPart vu hi->r x lo hi H Q ->
   ∃ T id,typeLookup (.type T) "__getitem__" = pure (some (.builtin id))/\s.TypeIs v T/\wpAny (model X.prog X.w) X.A (getItem v (.ref sl)) (EP X pins Z Q) X.xe s
noncomputable def tSl(r:V->Option Int->Option Int->Hp->VK->Prop)(te:TE)(tl th:TO):TE:=fun Z H Q=>te Z H fun x H1=>tl Z H1 fun l H2=>th Z H2 fun u H3=>r x l u H3 Q
theorem Zmj(hr:SlR X r)(he:PE X e te)(hl:PO X lo tl)(hu:PO X hi th):PE X (.Subscript e (.Slice lo hi none p2) pos) (tSl r te tl th):=by
 intro pins s Z H Q I h;refine Subscript_ (thn (he pins s Z H _ I h) fun v s1 ⟨x,H1,I1,r1,q1⟩=>?_);refine wpAny_Slice (thn (hl pins s1 Z H1 _ I1 q1) fun vl s2 ⟨l,H2,I2,pl,q2⟩=>thn (hu pins s2 Z H2 _ I2 q2) fun vu s3 ⟨u,H3,I3,pu,q3⟩=>?_);rw [evalPart_none];refine wpAny_pure ?_;have I4:Inv X pins Z H3 {s3 with heap:=s3.heap.push {cls:=.type "slice",data:=.fields #[vl,vu,.none]}}:=I3.kept (t':=s3.toks) fun b ob q=>Od _ q;obtain ⟨T,id,hT,ht,hg⟩:=hr pins {s3 with heap:=s3.heap.push {cls:=.type "slice",data:=.fields #[vl,vu,.none]}} Z H3 x v vl vu l u s3.heap.objs.size Q I4 r1 (Heap.IsSliceOf.new ..) pl pu q3;show wpAny (model X.prog X.w) X.A (subscriptTail e (.Slice lo hi none p2) v (.ref s3.heap.objs.size)) (EP X pins Z Q) X.xe {s3 with heap:=s3.heap.push {cls:=.type "slice",data:=.fields #[vl,vu,.none]}};exact tail_any (ops:=[.ref s3.heap.objs.size,v]) ht hT hg (by with_unfolding_all rfl)
noncomputable def Zij(xs:List V)(lo hi:Option Int):List V:=(xs.drop (HT.sIx xs.length 0 lo)).take (HT.sIx xs.length xs.length hi - HT.sIx xs.length 0 lo)
theorem ZeH(xs:List V)(lo hi:Option Int):(Zij xs lo hi).length<=xs.length:=by
 unfold Zij;rw [List.length_take,List.length_drop]
 lia
noncomputable def ZuD(K:PySem.W.Frag):V->Option Int->Option Int->Hp->VK->Prop:=fun x lo hi H Q=>∃ a xs,x=.ref a/\SqT K H a xs /\
 ¬ (HT.sIx xs.length 0 lo=0/\HT.sIx xs.length xs.length hi=xs.length)/\∀ p,H p=none->Q (.ref p) (upd H p (.tup (Zij xs lo hi)))
theorem Zqv:SlR X (ZuD X.K):=by
 intro pins s Z H x v vl vu lo hi sl Q I rx hs pl pu h;obtain ⟨a,xs,rfl,hx,hw,q⟩:=h;cases rx;obtain ⟨its,r,ht,hz⟩:=I.tuple hx;have hlen:its.toArray.size=xs.length:=by rw [Of];exact r.length.symm
 refine ⟨"tuple",_,PyProof.Rows.slot_tuple_getitem.lookup,ht.typeIs,?_⟩;refine HT.ZdC ht hs pl pu (by rw [hlen];exact hw) ?_ (by rw [hlen];exact hz);rw [hlen];refine ⟨.ref s.heap.objs.size,_,I.laid (t':=s.toks) (o:=.tup (Zij xs lo hi)) (fun b ob q=>Od _ q) (Oq _) ?_,rfl,q _ (I.hok.fresh (Oq _))⟩;exact ⟨OE (ZeH xs lo hi) hz,_,(r.drop (HT.sIx xs.length 0 lo)).take (HT.sIx xs.length xs.length hi - HT.sIx xs.length 0 lo),Zax.fresh _ _⟩
noncomputable def ZsJ(K:PySem.W.Frag):R2:=fun x y H Q=>∃ a b xs ys,x=.ref a/\y=.ref b/\SqT K H a xs/\SqT K H b ys/\xs≠[]/\xs.length+ys.length<=sizeLine /\
 (ys=[]->Q (.ref a) H)/\(ys≠[]->∀ p,H p=none->Q (.ref p) (upd H p (.tup (xs++ys))))
theorem Zi.nil_iff(r:Zi xs us):us=[]↔xs=[]:=by
 cases r with
 | nil=>simp
 | cons _ _=>simp
theorem Zor:OpR X (binaryOp .Add) (ZsJ X.K):=by
 intro pins s Z H x y v u Q I rx ry h;obtain ⟨a,b,xs,ys,rfl,rfl,ha,hb,hx,hz,q1,q2⟩:=h;cases rx;cases ry;obtain ⟨its,r1,p1,_⟩:=I.tuple ha;obtain ⟨its2,r2,p2,_⟩:=I.tuple hb;refine HT.Zpg p1 p2 (fun z=>hx (r1.nil_iff.mp z)) (fun z=>⟨.ref a,H,I,rfl,q1 (r2.nil_iff.mp z)⟩) (fun z=>?_) (by rw [<- r1.length,<- r2.length];exact hz);refine ⟨.ref s.heap.objs.size,_,I.laid (t':=s.toks) (o:=.tup (xs++ys)) (fun b ob q=>Od _ q) (Oq _) ?_,rfl,q2 (fun w=>z (r2.nil_iff.mpr w)) _ (I.hok.fresh (Oq _))⟩;exact ⟨by rw [OA];exact hz,_,r1.append r2,Zax.fresh _ _⟩
end
end L2
namespace L2
open PySem PySem.Spec PyProof.Rows
noncomputable def ixN(n:Nat)(i:Int):Option Nat:=if 0<=i then (if i<n then some i.toNat else none) else if -(n:Int)<=i then some (i+n).toNat else none
noncomputable def atI(xs:List α)(i:Int):Option α:=(ixN xs.length i).bind fun j=>xs[j]?
theorem Zke(h:ixN n i=some j):seqIndex? i n=some j/\j<n/\-(n:Int)<=i/\i<n:=by
 unfold ixN at h;by_cases h0:0<=i
 . rw [if_pos h0] at h;by_cases h1:i<n
   . rw [if_pos h1] at h;have e:i.toNat=j:=Option.some.inj h;exact ⟨by rw [seqIndex_of h0 h1,e],by lia,by lia,h1⟩
   . rw [if_neg h1] at h;cases h
 . rw [if_neg h0] at h;by_cases h1:-(n:Int)<=i
   . rw [if_pos h1] at h;have e:(i+n).toNat=j:=Option.some.inj h;exact ⟨by rw [seqIndex_neg (by lia) h1,e],by lia,h1,by lia⟩
   . rw [if_neg h1] at h;cases h
theorem ZhA(h:atI xs i=some v):∃ j,seqIndex? i xs.length=some j/\xs[j]? = some v/\j<xs.length/\-(xs.length:Int)<=i/\i<xs.length:=by
 unfold atI at h;cases e:ixN xs.length i with
 | none=>rw [e] at h;cases h
 | some j =>
   rw [e] at h;obtain ⟨h1,h2,h3,h4⟩:=Zke e;exact ⟨j,h1,h,h2,h3,h4⟩
noncomputable def ZhC(b:Expr):Prop:=∀ o i,subscripted b false o i=operate [o,i] (getItem o i)
noncomputable def IxR(X:Cx)(r:R2):Prop :=
 ∀ (value slice:Expr) (pins:List (Addr×Obj)) (s:Shared) (Z:St) (H:Hp) (x y:V) (v u:Value) (Q:VK),Inv X pins Z H s->RelV x v->RelV y u->r x y H Q ->
   subscripted slice false v u=operate [v,u] (getItem v u)->wpAny (model X.prog X.w) X.A (subscriptTail value slice v u) (EP X pins Z Q) X.xe s
noncomputable def MtR(X:Cx)(id:String)(r:V->List V->Hp->VK->Prop):Prop :=
 ∀ (pins:List (Addr×Obj)) (s:Shared) (Z:St) (H:Hp) (x:V) (xs:List V) (v:Value) (us:List Value) (Q:VK),Inv X pins Z H s->RelV x v->Zi xs us->r x xs H Q ->
   wpAny (model X.prog X.w) X.A (call (.builtin id) (v::us)) (EP X pins Z Q) X.xe s
section
variable {X:Cx}{a b:Expr}{ta tb:TE}{pos:Pos}
theorem ZsU{r:R2}(hr:IxR X r)(ha:PE X a ta)(hb:PE X b tb)(hs:ZhC b):PE X (.Subscript a b pos) (tOp r ta tb):=by
 intro pins s Z H Q I h;exact Subscript_ (ZrV ha hb I h fun v u s2 x y H2 I2 rx ry q=>hr a b pins s2 Z H2 x y v u Q I2 rx ry q (hs _ _))
noncomputable def ZuJ(K:PySem.W.Frag):R2:=fun x y H Q=>∃ p xs i v,x=.ref p/\y=.int i/\SqL K H p xs/\atI xs i=some v/\Q v H
noncomputable def ZuH(K:PySem.W.Frag):R2:=fun x y H Q=>∃ p xs i v,x=.ref p/\y=.int i/\SqT K H p xs/\atI xs i=some v/\Q v H
noncomputable def ZuI:R2:=fun x y H Q=>∃ z i c,x=.str z/\y=.int i/\z.length<=sizeLine/\atI z.cps.toList i=some c/\Q (.str ⟨#[c]⟩) H
theorem ZoV:IxR X (ZuJ X.K):=by
 intro value slice pins s Z H x y v u Q I rx ry h hs;obtain ⟨p,xs,i,z,rfl,rfl,hq,he,q⟩:=h;cases rx;obtain ⟨t,rfl⟩:=ry;obtain ⟨its,r,pl,hz⟩:=I.list hq;obtain ⟨j,h1,h2,h3,h4,h5⟩:=ZhA he;obtain ⟨w,ew,rw'⟩:=r.get h2;have hl:=r.length;have hn:=ZbA;have fin:EP X pins Z Q w s:=⟨z,H,I,rw',q⟩
 by_cases h0:0<=i
 . have hj:i.toNat=j:=by
     rw [seqIndex_of h0 h5] at h1;exact Option.some.inj h1
   exact item_listR pl.isList h0 (by lia) (by rw [hj];simpa using ew) fin hs
 . have hj:(i+(its.toArray.size:Int)).toNat=j:=by
     rw [seqIndex_neg (by lia) h4] at h1;rw [Of,<- hl];exact Option.some.inj h1
   exact subscriptTail_builtinR (x:=w) pl.isList.typeIs slot_list_getitem.lookup
     (wpAny_getItem_list_neg (Q:=fun r s'=>r=w/\EP X pins Z Q r s') pl.isList (by lia) (by rw [Of]<;>lia) (by lia) (by rw [hj];simpa using ew) ⟨rfl,fin⟩) hs
theorem Zrv:IxR X (ZuH X.K):=by
 intro value slice pins s Z H x y v u Q I rx ry h hs;obtain ⟨p,xs,i,z,rfl,rfl,hq,he,q⟩:=h;cases rx;obtain ⟨t,rfl⟩:=ry;obtain ⟨its,r,pl,hz⟩:=I.tuple hq;obtain ⟨j,h1,h2,h3,h4,h5⟩:=ZhA he;obtain ⟨w,ew,rw'⟩:=r.get h2;have hl:=r.length;have hn:=ZbA;have fin:EP X pins Z Q w s:=⟨z,H,I,rw',q⟩
 exact subscriptTail_builtinR (x:=w) pl.typeIs slot_tuple_getitem.lookup
   (getItem_tuple (j:=j) (Q:=fun r s'=>r=w/\EP X pins Z Q r s') pl (by lia) (by lia) (by rw [Of,<- hl];exact h1) (by simpa using ew) ⟨rfl,fin⟩) hs
theorem Zrw:IxR X ZuI:=by
 intro value slice pins s Z H x y v u Q I rx ry h hs;obtain ⟨z,i,c,rfl,rfl,hz,he,q⟩:=h;obtain ⟨t,rfl⟩:=rx;obtain ⟨t',rfl⟩:=ry;obtain ⟨j,h1,h2,h3,h4,h5⟩:=ZhA he;have hl:z.cps.toList.length=z.length:=by simp [Str.length]
 rw [hl] at h1 h4 h5;have hn:=ZbA;exact tail_any (typeIs_str s z t) slot_str_getitem.lookup (getItem_str (c:=c) (by
   have e1:decide (i < -(2 ^ 63:Int))=false:=decide_eq_false (by lia);have e2:decide (i ≥ 2 ^ 63)=false:=decide_eq_false (by lia);rw [e1,e2,Bool.or_false]) (by rw [h1];simpa using h2) ⟨.str ⟨#[c]⟩,H,I.tok _,⟨_,rfl⟩,q⟩) hs
theorem Zjb (its:List Value) (n j:Nat) (u:Value):Obj.mapSeq (·.setIfInBounds j u) {cls:=.type "list",data:=.seq its.toArray n}={cls:=.type "list",data:=.seq (its.set j u).toArray n}:=by
 simp [Obj.mapSeq]
theorem Inv.lst(I:Inv X pins Z H s)(h:H p=some (.lst xs)) :
   ∃ (its:List Value) (n:Nat),Zi xs its/\s.heap.get? p=some {cls:=.type "list",data:=.seq its.toArray n}/\xs.length<=sizeLine:=by
 obtain ⟨z,its,n,r,e⟩:=I.hok p _ h;exact ⟨its,n,r,e,z⟩
theorem Inv.lstUpd{pins:List (Addr×Obj)}{Z:St}{H:Hp}{s:Shared}{p:Addr}{xs ys:List V}{its its':List Value}{n n':Nat}{f:Obj->Obj}(I:Inv X pins Z H s)(h:H p=some (.lst xs))
   (ho:s.heap.get? p=some {cls:=.type "list",data:=.seq its.toArray n}) (hf:f {cls:=.type "list",data:=.seq its.toArray n}={cls:=.type "list",data:=.seq its'.toArray n'}) (r:Zi ys its') (hz:ys.length<=sizeLine) (t:Nat) :
   Inv X pins Z (upd H p (.lst ys)) {s with heap:=s.heap.update p f,toks:=t}:=by
 have e:(s.heap.update p f).get? p=some {cls:=.type "list",data:=.seq its'.toArray n'}:=by
   rw [Heap.get?_update_self f ho (by rw [hf]<;>rfl),hf]
 refine I.write (x:=p) (e:=p) (by rw [h];trivial) (.inl rfl) (fun b u hb q=>(Heap.get?_update_other _ _ (Ne.symm hb)).trans q) ⟨_,e⟩ ?_;exact ⟨hz,its',n',r,e⟩
noncomputable def ZsH:V->V->V->Hp->(Hp->Prop)->Prop:=fun o i v H Q=>∃ p xs k j,o=.ref p/\i=.int k/\H p=some (.lst xs)/\ixN xs.length k=some j/\Q (upd H p (.lst (xs.set j v)))
theorem set_list:ZpB X ZsH:=by
 intro pins s Z H o i v ov iv u Q I ro ri rv h;obtain ⟨p,xs,k,j,rfl,rfl,hp,hj,q⟩:=h;cases ro;obtain ⟨t,rfl⟩:=ri;obtain ⟨its,n,r,ho,hz⟩:=I.lst hp;obtain ⟨h1,h2,h3,h4⟩:=Zke hj;have hl:=r.length;have hn:=ZbA;have I':Inv X pins Z (upd H p (.lst (xs.set j v))) {s with heap:=s.heap.update p (Obj.mapSeq (·.setIfInBounds j u))} :=
   I.lstUpd hp ho (Zjb its n j u) (r.set rv j) (by rw [List.length_set];exact hz) s.toks
 by_cases h0:0<=k
 . have hk:k.toNat=j:=by
     rw [seqIndex_of h0 h4] at h1;exact Option.some.inj h1
   exact PySem.W.ki_setAt ho h0 (by lia) (by rw [Of,<- hl];exact h4) (by rw [hk];exact ⟨_,I',q⟩)
 . have hk:(k+(its.toArray.size:Int)).toNat=j:=by
     rw [seqIndex_neg (by lia) h3] at h1;rw [Of,<- hl];exact Option.some.inj h1
   exact PySem.W.ki_setBack ho (by lia) (by rw [Of,<- hl];exact h3) (by lia) (by rw [hk];exact ⟨_,I',q⟩)
theorem Zg2(lo hi:Option Int)(n:Nat):(sliceBounds lo hi none n).1=((HT.sIx n 0 lo:Nat):Int)/\(sliceBounds lo hi none n).2.1=((HT.sIx n n hi:Nat):Int)/\(sliceBounds lo hi none n).2.2=1:=by
 refine ⟨?_,?_,rfl⟩
 . cases lo with
   | none=>simp [sliceBounds,HT.sIx]
   | some i =>
     simp only [sliceBounds,HT.sIx,Option.getD_none,show (1:Int) > 0 by decide,if_true];by_cases h:i<0
     . simp only [h,if_true]<;>lia
     . simp only [h,if_false]<;>lia
 . cases hi with
   | none=>simp [sliceBounds,HT.sIx]
   | some i =>
     simp only [sliceBounds,HT.sIx,Option.getD_none,show (1:Int) > 0 by decide,if_true];by_cases h:i<0
     . simp only [h,if_true]<;>lia
     . simp only [h,if_false]<;>lia
theorem Zf1(its:List Value)(lo hi:Option Int):slicePick its.toArray lo hi none=((its.drop (HT.sIx its.length 0 lo)).take (HT.sIx its.length its.length hi - HT.sIx its.length 0 lo)).toArray:=by
 obtain ⟨h1,h2,h3⟩:=Zg2 lo hi its.toArray.size;unfold slicePick;rw [h1,h2,h3];simp only [sliceRange_one,pick_run,Of]<;>rfl
noncomputable def ZuF(K:PySem.W.Frag):V->Option Int->Option Int->Hp->VK->Prop:=fun x lo hi H Q=>∃ a xs,x=.ref a/\SqL K H a xs/\∀ p,H p=none->Q (.ref p) (upd H p (.lst (Zij xs lo hi)))
theorem ZnK:SlR X (ZuF X.K):=by
 intro pins s Z H x v vl vu lo hi sl Q I rx hs pl pu h;obtain ⟨a,xs,rfl,hx,q⟩:=h;cases rx;obtain ⟨its,r,ht,hz⟩:=I.list hx;have hlen:=r.length;refine ⟨"list",_,slot_list_getitem.lookup,ht.isList.typeIs,?_⟩;refine wpAny_getItem_list_slice ht.isList hs pl pu .none (by simp) ?_ (by rw [Of]<;>lia);rw [Zf1,<- hlen];refine ⟨.ref s.heap.objs.size,_,I.laid (t':=s.toks) (o:=.lst (Zij xs lo hi)) (fun b ob q=>Od _ q) (Oq _) ?_,rfl,q _ (I.hok.fresh (Oq _))⟩;exact ⟨OE (ZeH xs lo hi) hz,_,0,(r.drop (HT.sIx xs.length 0 lo)).take (HT.sIx xs.length xs.length hi - HT.sIx xs.length 0 lo),Oj _ rfl⟩
noncomputable def ZcF:V->Bool
 | .non=>true
 | .bl _=>true
 | .int _=>true
 | .str _=>true
 | _=>false
noncomputable def eqV:V->V->Bool
 | .non,.non=>true
 | .bl a,.bl b=>a==b
 | .bl a,.int b=>(if a then 1 else 0)==b
 | .int a,.bl b=>a==(if b then 1 else 0)
 | .int a,.int b=>a==b
 | .str a,.str b=>a==b
 | _,_=>false
theorem ZrN(ry:RelV y u)(rx:RelV x v)(fy:ZcF y=true)(fx:ZcF x=true):SeqAt.EqAt A s u v (eqV y x):=by
 cases y with
 | non =>
   cases ry;cases x with
   | non=>cases rx;exact SeqAt.EqAt.same _
   | bl b=>cases rx;exact SeqAt.EqAt.none_bool b
   | int b=>obtain ⟨t,rfl⟩:=rx;exact SeqAt.EqAt.none_int b t
   | str b=>obtain ⟨t,rfl⟩:=rx;exact SeqAt.EqAt.none_str b t
   | _=>exact absurd (show false=true from fx) Ow
 | bl a =>
   cases ry;cases x with
   | non=>cases rx;exact SeqAt.EqAt.bool_none a
   | bl b=>cases rx;exact SeqAt.EqAt.bool_bool a b
   | int b=>obtain ⟨t,rfl⟩:=rx;exact SeqAt.EqAt.bool_int a b t
   | str b=>obtain ⟨t,rfl⟩:=rx;exact SeqAt.EqAt.bool_str a b t
   | _=>exact absurd (show false=true from fx) Ow
 | int a =>
   obtain ⟨t',rfl⟩:=ry;cases x with
   | non=>cases rx;exact SeqAt.EqAt.int_none a t'
   | bl b=>cases rx;exact SeqAt.EqAt.int_bool a t' b
   | int b=>obtain ⟨t,rfl⟩:=rx;exact SeqAt.EqAt.int_int a t' b t
   | str b=>obtain ⟨t,rfl⟩:=rx;exact SeqAt.EqAt.int_str a t' b t
   | _=>exact absurd (show false=true from fx) Ow
 | str a =>
   obtain ⟨t',rfl⟩:=ry;cases x with
   | non=>cases rx;exact SeqAt.EqAt.str_none a t'
   | bl b=>cases rx;exact SeqAt.EqAt.str_bool a t' b
   | int b=>obtain ⟨t,rfl⟩:=rx;exact SeqAt.EqAt.str_int a t' b t
   | str b=>obtain ⟨t,rfl⟩:=rx;exact SeqAt.EqAt.str_str a t' b t
   | _=>exact absurd (show false=true from fx) Ow
 | _=>exact absurd (show false=true from fy) Ow
noncomputable def eqU(x:V)(u:Value):Bool:=match u with
 | .none=>eqV .non x
 | .bool b=>eqV (.bl b) x
 | .int i _=>eqV (.int i) x
 | .str z _=>eqV (.str z) x
 | _=>false
theorem Zm3(r:RelV y u)(f:ZcF y=true):eqU x u=eqV y x:=by
 cases y with
 | non=>cases r;rfl
 | bl b=>cases r;rfl
 | int i=>obtain ⟨t,rfl⟩:=r;rfl
 | str z=>obtain ⟨t,rfl⟩:=r;rfl
 | _=>exact absurd (show false=true from f) Ow
theorem ZdS:∀ {xs:List V}{us:List Value},Zi xs us->xs.all ZcF=true->us.any (eqU x)=xs.any fun y=>eqV y x
 | _,_,.nil,_=>rfl
 | y::xs,u::us,.cons r t,f=>by
   rw [List.all_cons,Oa] at f;rw [List.any_cons,List.any_cons,Zm3 r f.1,ZdS t f.2]
theorem ZbW(rx:RelV x v)(fx:ZcF x=true):∀ {xs:List V}{us:List Value},Zi xs us->xs.all ZcF=true->∀ u∈us,SeqAt.EqAt A s u v (eqU x u)
 | _,_,.nil,_=>fun u hu=>by cases hu
 | y::xs,u::us,.cons r t,f=>fun u' hu=>by
   rw [List.all_cons,Oa] at f;rcases O2.mp hu with rfl|hu
   . rw [Zm3 r f.1];exact ZrN r rx f.1 fx
   . exact ZbW rx fx t f.2 u' hu
noncomputable def inV(x:V)(xs:List V):Bool:=xs.any fun y=>eqV y x
noncomputable def rIn(K:PySem.W.Frag)(neg:Bool):R2:=fun x y H Q=>∃ p xs,y=.ref p/\(SqL K H p xs\/SqT K H p xs)/\ZcF x=true/\xs.all ZcF=true/\Q (.bl (if neg then !inV x xs else inV x xs)) H
theorem ZkZ:OpR X (compareOp .In) (rIn X.K false):=by
 intro pins s Z H x y v u Q I rx ry h;obtain ⟨p,xs,rfl,hq,fx,fs,q⟩:=h;cases ry;rcases hq with hq|hq
 . obtain ⟨its,r,pl,hz⟩:=I.list hq;refine SeqAt.in_listAt (eqU x) pl.isList (fun w hw=>ZbW rx fx r fs w (by simpa using hw)) ⟨.bl _,H,I,rfl,?_⟩;rw [show its.toArray.any (eqU x)=its.any (eqU x) by simp,ZdS r fs];exact q
 . obtain ⟨its,r,pl,hz⟩:=I.tuple hq;refine SeqAt.in_tupleAt (eqU x) pl (fun w hw=>ZbW rx fx r fs w (by simpa using hw)) ⟨.bl _,H,I,rfl,?_⟩;rw [show its.toArray.any (eqU x)=its.any (eqU x) by simp,ZdS r fs];exact q
theorem Zg5:OpR X (compareOp .NotIn) (rIn X.K true):=by
 intro pins s Z H x y v u Q I rx ry h;obtain ⟨p,xs,rfl,hq,fx,fs,q⟩:=h;cases ry;rcases hq with hq|hq
 . obtain ⟨its,r,pl,hz⟩:=I.list hq;refine SeqAt.notIn_listAt (eqU x) pl.isList (fun w hw=>ZbW rx fx r fs w (by simpa using hw)) ⟨.bl _,H,I,rfl,?_⟩;rw [show its.toArray.any (eqU x)=its.any (eqU x) by simp,ZdS r fs];exact q
 . obtain ⟨its,r,pl,hz⟩:=I.tuple hq;refine SeqAt.notIn_tupleAt (eqU x) pl (fun w hw=>ZbW rx fx r fs w (by simpa using hw)) ⟨.bl _,H,I,rfl,?_⟩;rw [show its.toArray.any (eqU x)=its.any (eqU x) by simp,ZdS r fs];exact q
theorem Zhr:Z6 X (.builtin "len") (fun xs H Q=>∃ p ys,xs=[.ref p]/\(SqL X.K H p ys\/SqT X.K H p ys)/\Q (.int ys.length) H):=by
 intro pins s Z H xs us Q I r h;obtain ⟨p,ys,rfl,hq,q⟩:=h;obtain ⟨u,rfl,rx⟩:=vals1 r;cases rx;have hn:=ZbA;rcases hq with hq|hq
 . obtain ⟨its,r',pl,hz⟩:=I.list hq;have hlen:=r'.length;exact Calls.call_len_list pl.isList (by simp only [Of]<;>lia) ⟨.int ys.length,H,I.tok _,⟨s.toks+1,by rw [Of,hlen]⟩,q⟩
 . obtain ⟨its,r',pl,hz⟩:=I.tuple hq;have hlen:=r'.length;exact len_tuple pl (by simp only [Of]<;>lia) ⟨.int ys.length,H,I.tok _,⟨s.toks+1,by rw [Of,hlen]⟩,q⟩
theorem Zhq:Z6 X (.builtin "len") (fun xs H Q=>∃ z,xs=[.str z]/\z.length<=sizeLine/\Q (.int z.length) H):=by
 intro pins s Z H xs us Q I r h;obtain ⟨z,rfl,hz,q⟩:=h;obtain ⟨u,rfl,t,rfl⟩:=vals1 r;have hn:=ZbA;exact len_str (by lia) ⟨.int z.length,H,I.tok _,⟨_,rfl⟩,q⟩
theorem ZcJ:Z6 X (.type "tuple") (fun xs H Q=>∃ p ys,xs=[.ref p]/\((SqL X.K H p ys/\∀ l,H l=none->Q (.ref l) (upd H l (.tup ys)))\/(SqT X.K H p ys/\Q (.ref p) H))):=by
 intro pins s Z H xs us Q I r h;obtain ⟨p,ys,rfl,h⟩:=h;obtain ⟨u,rfl,rx⟩:=vals1 r;cases rx;rcases h with ⟨hq,q⟩|⟨hq,q⟩
 . obtain ⟨its,r',pl,hz⟩:=I.list hq;have hlen:=r'.length;refine call_tuple_list pl.isList (fun h' kp=>?_) (by simp only [Of]<;>lia);have I1:Inv X pins Z H {s with heap:=h'}:=I.kept (t':=s.toks) kp;have I2:Inv X pins Z (upd H h'.objs.size (.tup ys)) {s with heap:=h'.push {cls:=.type "tuple",data:=.seq its.toArray}} :=
     I1.laid (t':=s.toks) (fun b o e=>Od _ e) (Oq _) (show Z5 X.prog X.w _ _ _ (.tup ys) from ⟨hz,its,r',Zax.fresh _ _⟩)
   exact ⟨.ref h'.objs.size,_,I2,rfl,q _ (I1.hok.fresh (Oq _))⟩
 . obtain ⟨its,r',pl,hz⟩:=I.tuple hq;exact call_tuple_same pl ⟨.ref p,H,I,rfl,q⟩
noncomputable def tyV(K:PySem.W.Frag)(T:String)(x:V)(H:Hp):Prop:=match x with
 | .str _=>T = "str"
 | .int _=>T = "int"
 | .ref p=>(T = "list" /\ ∃ xs,SqL K H p xs)\/(T = "tuple" /\ ∃ o,K.lookup p=some o/\o.cls=.type "tuple" /\ o.dict=none) \/
     (T = "dict" /\ ((∃ kvs,H p=some (.dK kvs))\/∃ kvs,H p=some (.dT kvs)))\/(T = "set" /\ ∃ S_ n,H p=some (.set S_ n))
 | _=>False
theorem ZlC(I:Inv X pins Z H s)(r:RelV x v)(ty:tyV X.K T x H) :
   s.TypeIs v T/\∀ a,v=.ref a->∃ ob,s.heap.get? a=some ob/\ob.dict=none:=by
 cases x with
 | str z =>
   obtain ⟨t,rfl⟩:=r;cases (show T = "str" from ty);exact ⟨typeIs_str s z t,fun _ e=>nomatch e⟩
 | int i =>
   obtain ⟨t,rfl⟩:=r;cases (show T = "int" from ty);exact ⟨typeIs_int s i t,fun _ e=>nomatch e⟩
 | ref p =>
   cases r;rcases ty with ⟨rfl,xs,hq⟩|⟨rfl,o,hk,hc,hd⟩|⟨rfl,hk⟩|⟨rfl,S_,n,hk⟩
   . obtain ⟨its,_,pl,_⟩:=I.list hq;refine ⟨pl.isList.typeIs,fun a e=>?_⟩;cases e;obtain ⟨o,n,e,c,hd,_⟩:=pl;exact ⟨o,e,hd⟩
   . refine ⟨⟨o,I.kIn p o hk,hc⟩,fun a e=>?_⟩;cases e;exact ⟨o,I.kIn _ o hk,hd⟩
   . have z:∃ o,s.heap.get? p=some o/\o.ExactDict:=by
       rcases hk with ⟨kvs,hk⟩|⟨kvs,hk⟩
       . obtain ⟨_,_,_,_,o,_,_,e,ex,_⟩:=I.hok p _ hk;exact ⟨o,e,ex⟩
       . obtain ⟨_,_,_,_,o,_,_,e,ex,_⟩:=I.hok p _ hk;exact ⟨o,e,ex⟩
     obtain ⟨o,e,ex⟩:=z;refine ⟨⟨o,e,ex.1⟩,fun a e2=>?_⟩;cases e2;exact ⟨o,e,ex.2.1⟩
   . obtain ⟨o,_,_,_,e,ex,_⟩:=I.hok p _ hk;refine ⟨⟨o,e,ex.1⟩,fun a e2=>?_⟩;cases e2;exact ⟨o,e,ex.2.1⟩
 | _=>exact False.elim ty
noncomputable def Zus(K:PySem.W.Frag)(T:String)(r:V->List V->Hp->VK->Prop)(to:TE):TE:=fun Z H Q=>to Z H fun x H1=>tyV K T x H1/\r x [] H1 Q
noncomputable def tBM(K:PySem.W.Frag)(T:String)(r:V->List V->Hp->VK->Prop)(to:TE)(t:TA):TE:=fun Z H Q=>to Z H fun x H1=>tyV K T x H1/\t Z H1 fun xs H2=>r x xs H2 Q
variable {o e:Expr}{es:List Expr}{to:TE}{t:TA}{name:Str}{apos cpos:Pos}{T id:String}{r:V->List V->Hp->VK->Prop}
theorem Zq0 (pa:PlainAttrs T) (slot:Slot T name id) (hty:typeOf (.builtin id)=pure (.type "method_descriptor")) (hm:MtR X id r) (ho:PE X o to)
   (hbase:attributeBase o name X.env (eval o X.env)=eval o X.env:=by rfl) (hline:(apos.endLine==cpos.line)=true:=by rfl):PE X (.Call (.Attribute o name apos) [] [] cpos) (Zus X.K T r to):=by
 intro pins s Z H Q I h;refine wpAny_Call_method0_late hbase hline (thn (ho pins s Z H _ I h) fun v s1 ⟨x,H1,I1,r1,ty,q1⟩=>?_);obtain ⟨h1,h2⟩:=ZlC I1 r1 ty;exact ⟨T,id,pa,slot,hty,h1,h2,Calls.callWith_builtin rfl (PySem.evalArgs_none (hm pins s1 Z H1 x [] v [] Q I1 r1 .nil q1))⟩
theorem ZpR (pa:PlainAttrs T) (slot:Slot T name id) (hty:typeOf (.builtin id)=pure (.type "method_descriptor")) (hm:MtR X id r) (ho:PE X o to) (ha:PA X (e::es) t)
   (hbase:attributeBase o name X.env (eval o X.env)=eval o X.env:=by rfl)
   (hfew:((backTo cpos (starEach (e::es) X.env)).all (fun x=>!x.1)&&(backToKw cpos (keywordEach [] X.env)).all (fun x=>x.1.isSome)
     && decide ((e::es).length+([]:List Keyword).length+(if ([]:List Keyword).isEmpty then 0 else 1)<30))=true:=by rfl)
   (hline:(apos.endLine==cpos.line)=true:=by rfl) (hs:starEach (e::es) X.env=(false,eval e X.env)::starEach es X.env:=by rfl) (hplain:(backTo cpos (starEach es X.env)).any (·.1)=false:=by rfl) :
   PE X (.Call (.Attribute o name apos) (e::es) [] cpos) (tBM X.K T r to t):=by
 intro pins s Z H Q I h;refine wpAny_Call_method_late hbase hfew hline rfl (thn (ho pins s Z H _ I h) fun v s1 ⟨x,H1,I1,r1,ty,q1⟩=>?_);obtain ⟨h1,h2⟩:=ZlC I1 r1 ty;refine ⟨T,id,pa,slot,hty,h1,h2,?_⟩;have hA:=ha cpos pins s1 Z H1 _ I1 q1;rw [hs] at hA ⊢;refine Calls.callWith_builtin (by show (false || (backTo cpos (starEach es X.env)).any (·.1))=false;rw [hplain]<;>rfl) (Calls.evalArgs_plain ?_);exact thn hA fun us s2 ⟨vs,H2,I2,r2,q2⟩=>hm pins s2 Z H2 x vs v us Q I2 r1 r2 q2
end
end L2
namespace L2
open PySem PySem.Spec PyProof.Rows
noncomputable def MtM(X:Cx)(id:String)(r:V->List V->Hp->VK->Prop):Prop :=
 ∀ (pins:List (Addr×Obj)) (s:Shared) (Z:St) (H:Hp) (x:V) (xs:List V) (v:Value) (us:List Value) (Q:VK),Inv X pins Z H s->RelV x v->Zi xs us->r x xs H Q ->
   wpAny (model X.prog X.w) X.A (call (.builtin id) (v::us)) (EP X pins Z Q) X.xe s
theorem Zi.one:∀ {x:V}{us:List Value},Zi [x] us->∃ u,us=[u]/\RelV x u
 | _,_,.cons r .nil=>⟨_,rfl,r⟩
theorem Zi.zero:∀ {us:List Value},Zi [] us->us=[]
 | _,.nil=>rfl
theorem Zi.dropLast(h:Zi xs us):Zi xs.dropLast us.dropLast:=by
 induction h with
 | nil=>exact .nil
 | cons r t ih =>
   cases t with
   | nil=>exact .nil
   | cons q t'=>exact .cons r ih
theorem Zi.reverse(h:Zi xs us):Zi xs.reverse us.reverse:=by
 induction h with
 | nil=>exact .nil
 | cons r t ih=>rw [List.reverse_cons,List.reverse_cons];exact Zi.append ih (.cons r .nil)
theorem Zjk(l:List α):l.eraseIdx (l.length - 1)=l.dropLast:=by
 induction l with
 | nil=>rfl
 | cons a r ih =>
   cases r with
   | nil=>rfl
   | cons b r =>
     have e:(a::b::r).length - 1=((b::r).length - 1)+1:=by
       have h1:(a::b::r).length=r.length+2:=rfl;have h2:(b::r).length=r.length+1:=rfl
       lia
     rw [e,List.eraseIdx_cons_succ,ih]
     all_goals rfl
section
variable {X:Cx}{pins:List (Addr×Obj)}{Z:St}{H:Hp}{s:Shared}{l b:Addr}{xs ys zs:List V}
theorem Inv.lset{its its':List Value}{n:Nat}{f:Array Value->Array Value}{t':Nat}(I:Inv X pins Z H s)(hH:H l=some (.lst xs))
   (e:s.heap.get? l=some {cls:=.type "list",data:=.seq its.toArray n}) (hf:f its.toArray=its'.toArray) (hv:Zi ys its') (hz:ys.length<=sizeLine) :
   Inv X pins Z (upd H l (.lst ys)) {s with heap:=s.heap.update l (Obj.mapSeq f),toks:=t'}:=by
 have q:=PySem.IsL.update e f;rw [hf] at q;refine I.write (x:=l) (e:=l) (by rw [hH];exact trivial) (.inl rfl) (fun b' u hb hu=>(Heap.get?_update_other s.heap (Obj.mapSeq f) (Ne.symm hb)).trans hu) ⟨_,q⟩ ?_;exact ⟨hz,its',_,hv,q⟩
theorem Inv.lnew(I:Inv X pins Z H s)(hv:Zi ys its)(hz:ys.length<=sizeLine) :
   Inv X pins Z (upd H s.heap.objs.size (.lst ys)) {s with heap:=s.heap.push {cls:=.type "list",data:=.seq its.toArray},toks:=t'} :=
 I.laid (fun _ _ q=>Od _ q) (Oq _) ⟨hz,its,0,hv,Oj _ rfl⟩
theorem Inv.fresh(I:Inv X pins Z H s):H s.heap.objs.size=none:=I.hok.fresh (Oq _)
theorem Inv.lstM (I:Inv X pins Z H s) (hH:H l=some (.lst xs)):xs.length<=sizeLine/\∃ (its:List Value) (n:Nat),Zi xs its/\xs.length=its.length/\s.heap.get? l=some {cls:=.type "list",data:=.seq its.toArray n}:=by
 obtain ⟨z,its,n,r,e⟩:=I.hok l _ hH;exact ⟨z,its,n,r,r.length,e⟩
theorem ZhV{n:Nat}(h:n<=sizeLine):Builtin.List.listTooLong n=false:=by
 unfold Builtin.List.listTooLong;exact decide_eq_false (by lia)
end
section
variable {X:Cx}
noncomputable def Zn0:V->List V->Hp->VK->Prop:=fun x vs H Q=>∃ l xs y,x=.ref l/\vs=[y]/\H l=some (.lst xs)/\xs.length<sizeLine/\Q .non (upd H l (.lst (xs++[y])))
theorem ZgE:MtM X "list.append" Zn0:=by
 intro pins s Z H x vs v us Q I rx rv h;obtain ⟨l,xs,y,rfl,rfl,hH,hz,q⟩:=h;cases rx;obtain ⟨u,rfl,ru⟩:=rv.one;obtain ⟨z,its,n,r,hl,e⟩:=I.lstM hH;refine call_meets F.slot_list_append ⟨_,e,rfl⟩ F.entry_list_append (F.args_list_append_2 _ _) (PySem.list_append l its.toArray n u (by rw [Of];lia)) ⟨e,?_⟩;refine ⟨.non,_,I.lset (its':=its++[u]) hH e (by simp) (r.append (.cons ru .nil)) ?_,rfl,q⟩;rw [OA,List.length_singleton]
 lia
noncomputable def ZnZ:V->List V->Hp->VK->Prop:=fun x vs H Q=>∃ l b xs zs,x=.ref l/\vs=[.ref b]/\H l=some (.lst xs)/\H b=some (.lst zs)/\xs.length+zs.length<=sizeLine/\Q .non (upd H l (.lst (xs++zs)))
theorem Zk4:MtM X "list.extend" ZnZ:=by
 intro pins s Z H x vs v us Q I rx rv h;obtain ⟨l,b,xs,zs,rfl,rfl,hH,hB,hz,q⟩:=h;cases rx;obtain ⟨u,rfl,ru⟩:=rv.one;cases ru;obtain ⟨z,its,n,r,hl,e⟩:=I.lstM hH;obtain ⟨z2,its2,n2,r2,hl2,e2⟩:=I.lstM hB;have hsz:its.toArray.size+its2.toArray.size<=sizeLine:=by rw [Of,Of];lia
 have hlong:¬ (!its.toArray.isEmpty&&Builtin.List.listTooLong (its.toArray.size+its2.toArray.size))=true:=by
   rw [ZhV hsz,Bool.and_false];exact Ow
 refine call_meets F.slot_list_extend ⟨_,e,rfl⟩ F.entry_list_extend (F.args_list_extend_2 _ _)
   (AutoSeq1.list_extend_list_list_0 l its.toArray n b its2.toArray n2 hlong (by rw [Of];lia) (by lia)) ⟨e,e2,?_⟩
 refine ⟨.non,_,I.lset (its':=its++its2) hH e (by simp) (r.append r2) ?_,rfl,q⟩;rw [OA]
 lia
noncomputable def ZuG:V->List V->Hp->VK->Prop:=fun x vs H Q=>∃ l xs y,x=.ref l/\vs=[]/\H l=some (.lst xs)/\xs[xs.length - 1]? = some y/\Q y (upd H l (.lst xs.dropLast))
theorem Zrc:MtM X "list.pop" ZuG:=by
 intro pins s Z H x vs v us Q I rx rv h;obtain ⟨l,xs,y,rfl,rfl,hH,hy,q⟩:=h;cases rx;have hus:=rv.zero;subst hus;obtain ⟨z,its,n,r,hl,e⟩:=I.lstM hH;obtain ⟨u,hu,ru⟩:=r.get hy;have hy':its.toArray[its.toArray.size - 1]? = some u:=by
   show its.toArray[its.length - 1]? = some u;rw [<- Array.getElem?_toList,<- hl];exact hu
 refine call_meets F.slot_list_pop ⟨_,e,rfl⟩ F.entry_list_pop (F.args_list_pop_1 _) (MeetsSeq.list_pop_last l its.toArray n u hy' (by rw [Of];lia)) ⟨e,?_⟩;refine ⟨y,_,I.lset (its':=its.dropLast) hH e ?_ r.dropLast ?_,ru,q⟩
 . show its.toArray.eraseIdxIfInBounds (its.toArray.size - 1)=its.dropLast.toArray;rw [Of,List.eraseIdxIfInBounds_toArray,Zjk]
 . rw [List.length_dropLast]
   lia
noncomputable def Zl5:V->List V->Hp->VK->Prop:=fun x vs H Q=>∃ l xs,x=.ref l/\vs=[]/\H l=some (.lst xs)/\Q .non (upd H l (.lst xs.reverse))
theorem Zi9:MtM X "list.reverse" Zl5:=by
 intro pins s Z H x vs v us Q I rx rv h;obtain ⟨l,xs,rfl,rfl,hH,q⟩:=h;cases rx;have hus:=rv.zero;subst hus;obtain ⟨z,its,n,r,hl,e⟩:=I.lstM hH;refine call_meets F.slot_list_reverse ⟨_,e,rfl⟩ F.entry_list_reverse (F.args_list_reverse_1 _) (AutoSeq1.list_reverse_list_0 l its.toArray n (by rw [Of];lia)) ⟨e,?_⟩;refine ⟨.non,_,I.lset (its':=its.reverse) hH e (by simp) r.reverse ?_,rfl,q⟩;rw [List.length_reverse]
 lia
noncomputable def ZqE:V->List V->Hp->VK->Prop:=fun x vs H Q=>∃ l xs,x=.ref l/\vs=[]/\H l=some (.lst xs)/\Q .non (upd H l (.lst []))
theorem Zmz:MtM X "list.clear" ZqE:=by
 intro pins s Z H x vs v us Q I rx rv h;obtain ⟨l,xs,rfl,rfl,hH,q⟩:=h;cases rx;have hus:=rv.zero;subst hus;obtain ⟨z,its,n,r,hl,e⟩:=I.lstM hH;refine call_meets F.slot_list_clear ⟨_,e,rfl⟩ F.entry_list_clear (F.args_list_clear_1 _) (AutoSeq1.list_clear_list_0 l its.toArray n (by rw [Of];lia)) ⟨e,?_⟩;exact ⟨.non,_,I.lset (its':=[]) (ys:=[]) hH e rfl .nil (Nat.zero_le _),rfl,q⟩
noncomputable def ZuL:R2:=fun x y H Q=>∃ l b xs zs,x=.ref l/\y=.ref b/\H l=some (.lst xs)/\H b=some (.lst zs)/\xs.length+zs.length<=sizeLine/\∀ p,H p=none->Q (.ref p) (upd H p (.lst (xs++zs)))
theorem Zq7:OpR X (binaryOp .Add) ZuL:=by
 intro pins s Z H x y v u Q I rx ry h;obtain ⟨l,b,xs,zs,rfl,rfl,hH,hB,hz,q⟩:=h;cases rx;cases ry;obtain ⟨z,its,n,r,hl,e⟩:=I.lstM hH;obtain ⟨z2,its2,n2,r2,hl2,e2⟩:=I.lstM hB;refine PySem.P.add_list e e2 ?_ (by rw [Of,Of];lia);have ea:its.toArray++its2.toArray=(its++its2).toArray:=by simp
 rw [ea];exact ⟨.ref _,_,I.lnew (t':=s.toks) (r.append r2) (by rw [OA];lia),rfl,q _ I.fresh⟩
end
end L2
namespace Att
open PySem PySem.W PySem.Calls PyProof.Rows
theorem ZeU:∀ (ns:List Int) (vs:List Value),WellAll P h vs (ns.map WData.int)->IntsAre vs ns:=by
 intro ns;induction ns with
 | nil =>
   intro vs w;rw [Oy] at w;cases w;exact .nil
 | cons n ns ih =>
   intro vs w;rw [Op] at w;cases w with
   | cons a b =>
     cases a;exact .cons _ _ (ih _ b)
theorem ZkN{l:OpenLaw}{n:Nat}(hn:l.most=some n){P:Params}{h:Heap}{args:List WData}{vals:List Value}
   (hpre:l.row.toRowW.claim.pre args=true) (hwl:WellAll P h vals args) :
   ∃ a vs ns,vals=[Value.ref a]/\args=[WData.list (ns.map WData.int)]/\h.get? a=some {cls:=.type "list",data:=.seq vs.toArray}/\IntsAre vs ns/\ns.length<=n:=by
 have hsh:WShape.hasAll [] args [.list .int]=true:=(pre_splitW hpre).1;have hc:l.pre.holds [] {args:=args}=true:=(pre_splitW hpre).2;obtain ⟨d,r,rfl,h1,h2⟩:=hasAllW_cons hsh;obtain rfl:=hasAllW_nil h2;obtain ⟨xs,rfl,h3⟩:=hasW_list h1;obtain ⟨ns,rfl⟩:=items_int h3;have hlen:ns.length<=n:=by
   unfold OpenLaw.pre at hc;have h4:(WTm.not (.lt (.lit (.int (n:Int))) (.len (.arg 0)))).holds [] {args:=[.list (ns.map .int)]}=true:=by
     have h4:=(holds_andW hc).1;rw [hn] at h4;exact h4
   have h5:=condW_of h4 (w_not (w_lt w_lit (w_len_list (w_arg rfl))));rw [List.length_map] at h5;refine Nat.le_of_not_lt fun q=>?_;have q':(n:Int)<((ns.length:Nat):Int):=by lia
   first
     | (rw [decide_eq_true q'] at h5;exact absurd h5 (by decide))
     | (simp at h5;lia)
 cases hwl with
 | cons w1 w2 =>
   cases w2;cases w1 with
   | list ho hall=>exact ⟨_,_,ns,rfl,rfl,ho,ZeU ns _ hall,hlen⟩
theorem ZkS(l:OpenLaw)(args:List WData):l.row.toRowW.claim.post args (.bool true) args=true :=
 postW_of (r:=l.row.toRowW) (X:=(true==true))
   (show WShape.has [] (.bool true) .bool=true by first|rfl|decide|simp [WShape.has,WShape.arms,WShape.armsAll])
   (show (WTm.eq .res (.lit (.bool true))).value [] {args:=args,res:=some (.bool true),after:=args}=some (.bool (true==true)) from w_eq_bool (w_res rfl) w_lit) rfl
theorem ZiH{l:OpenLaw}{n:Nat}{q:Program}{loose:List Str}{XP:(Str->Option Value)->Heap->Prop}{YP:World->Heap->Prop}{d:DefRec}
   (hn:l.most=some n) (hdf:d.params.defaults=[])
   (call:∀ (w:World) (s₀ s₁:Shared) (mg mb:Str->Option Value) (fa:Addr) (o:Obj) (pm cd doc:Value) (a:Addr) (vs:List Value) (ns:List Int),
     Ground q loose [] XP w s₀ mg mb s₁.heap->YP w s₁.heap ->
     s₁.heap.get? fa=some o->o.data=.func (docDef d.name d.params d.body d.scope pm cd doc)->s₁.heap.CodeRec cd d.name->mg d.name=some (.ref fa) ->
     s₁.heap.get? a=some {cls:=.type "list",data:=.seq vs.toArray}->IntsAre vs ns->ns.length<=n->s₁.gens=#[] ->
     codeAny (model l.prog w) callerA (.call (.ref fa) ⟨[.ref a],[]⟩) (fun r s'=>r=.ok (.ret (.bool true))/\OldK s₁.heap s'.heap/\s'.os=s₁.os/\AllBare s'.gens) s₁) :
   WalkO q loose XP YP l.row.toRowW d [] (fun f vs=>PySem.call f vs):=by
 intro w s₀ s₁ mg mb G Y fa o pm cd doc dV kV ho hd hcd hD hmg hg args vals as hpre hlay hrd hwl hlo;obtain rfl:dV=.none:=Dflts.none hD hdf;obtain rfl:kV=.none:=Dflts.noKw hD;obtain ⟨a,vs,ns,rfl,rfl,hobj,hints,hlen⟩:=ZkN hn hpre hwl;refine enter_call (codeAny_mono (call w s₀ s₁ mg mb fa o pm cd doc a vs ns G Y ho (fd_plain hd) hcd hmg hobj hints hlen hg) fun r s' hq=>?_);obtain ⟨rfl,h2,h3,h4⟩:=hq;exact ⟨.inl ⟨.bool true,.bool true,[],rfl,fun _=>rfl,.bool true,ZkS l _,fun _=>⟨List.Pairwise.nil,fun _ hm=>(nomatch hm)⟩⟩,h2,h3,h4⟩
end Att
namespace L2
open PySem PySem.Spec PyProof.Rows
theorem Zgz:∀ {vs:List Value}{ns:List Int},IntsAre vs ns->Zi (ns.map V.int) vs
 | _,_,.nil=>.nil
 | _,_,.cons n t h=>.cons ⟨t,rfl⟩ (Zgz h)
noncomputable def ZpC(H:Hp):Prop:=∀ b,H b=none\/∃ o xs,H b=some (.frz o (.lst xs))
theorem ZmD{P:Program}{w:World}{K:PySem.W.Frag}{mg mb:Str->Option Value}{CX:CXT}{k:Nat}{fa a:Addr}{fd:FuncData}{x:Str}{sp:Sp}{s₁:Shared}{vs:List Value}{ns:List Int}
   (KX:K.In s₁.heap) (hns:s₁.heap.Ns mainGlobals mg) (hb:s₁.heap.Ns builtinsNs mb) (hbb:∀ x:Str,x ≠ "__name__" -> mb x=bootBuiltins x) (hlim:s₁.heap.NoLimit) (hg:s₁.gens=#[])
   (ha:s₁.heap.get? a=some {cls:=.type "list",data:=.seq vs.toArray}) (hi:IntsAre vs ns) (hl:ns.length<=sizeLine) (hr:Room k callerA)
   (F:∀ base:Heap,K.In base->base.Ns mainGlobals mg->FnOk P w K mg base CX k fa fd [x] sp) (hbind:∀ (s:Shared) (u:Value),BindsTo s fd ⟨[u],[]⟩ [(x,u)])
   (hsp:∀ H:Hp,ZpC H->SqL K H a (ns.map V.int)->sp [.ref a] H (fun v _=>v=.bl true) fun _ _ _=>False)
   (hCX:∀ H e s',CX [] H s₁ (fun _ _ _=>False) e s'->False) :
   codeAny (model P w) callerA (.call (.ref fa) ⟨[.ref a],[]⟩) (fun r s'=>r=.ok (.ret (.bool true))/\OldK s₁.heap s'.heap/\s'.os=s₁.os/\AllBare s'.gens) s₁:=by
 have rv:=Zgz hi;have lenV:=hi.length;have core:∀ H:Hp,ZpC H->SqL K H a (ns.map V.int)->HOk P w H s₁.heap->(∀ b,H b≠none->b=a)->(H a≠none->K.lookup a=none) ->
     codeAny (model P w) callerA (.call (.ref fa) ⟨[.ref a],[]⟩) (fun r s'=>r=.ok (.ret (.bool true))/\OldK s₁.heap s'.heap/\s'.os=s₁.os/\AllBare s'.gens) s₁:=by
   intro H hO hS hok hA hK;have base_of:∀ {b:Addr}{o:Obj},s₁.heap.get? b=some o->H b=none->(Zhg s₁.heap H).get? b=some o:=fun e n=>ZmN e n;have noA:∀ {b:Addr}{o:Obj}{es:Array DictEntry}{ep:Nat},s₁.heap.get? b=some o->o.data=.dict es ep->H b=none:=fun {b o es ep} e d=>by
     cases q:H b with
     | none=>rfl
     | some u =>
       have e':b=a:=hA b (by rw [q];simp);subst e';rw [ha] at e;cases e;have d':Data.seq vs.toArray _=Data.dict es ep:=d;cases d'
   have nsK:∀ {b:Addr}{m:Str->Option Value},s₁.heap.Ns b m->(Zhg s₁.heap H).Ns b m:=fun {b m} ⟨o,es,ep,e,d,r⟩=>⟨o,es,ep,base_of e (noA e d),d,r⟩
   have hKb:K.In (Zhg s₁.heap H):=fun b o e=>base_of (KX b o e) (by
     cases q:H b with
     | none=>rfl
     | some u =>
       have e':b=a:=hA b (by rw [q];simp);subst e';rw [hK (by rw [q];simp)] at e;cases e)
   have hM:Mod K mg (Zhg s₁.heap H):=⟨hKb,nsK hns,⟨mb,nsK hb,hbb⟩,let ⟨mc,h1,h2⟩:=hlim;⟨mc,nsK h1,h2⟩⟩
   have e0:Env0 P w K mg (Zhg s₁.heap H) callerA [] s₁ H:=⟨rfl,hM,fun b o e=>ZoB e,Nat.le_of_eq (Zlg _ _),trivial,fun b hb=>absurd (show b∈([]:List Addr) from hb) (by simp),hok,.of_eq hg⟩
   refine codeAny_mono ((F _ hKb (nsK hns)).run callerA [] s₁ H ⟨[.ref a],[]⟩ [.ref a] [.ref a] _ _ hr e0 (hbind s₁ (.ref a)) (.cons rfl .nil) (hsp H hO hS)) fun r s' h=>?_;cases r with
   | error e=>exact (hCX H e s' h).elim
   | ok fl =>
     cases fl with
     | next=>exact False.elim h
     | brk=>exact False.elim h
     | cont=>exact False.elim h
     | ret u =>
       obtain ⟨v,H',os,bare,un,hok',r',q⟩:=h;have q':v=.bl true:=q;subst q';obtain rfl:u=Value.bool true:=r';refine ⟨rfl,OldK.of_keep fun b o e=>?_,os,bare⟩;cases q:H b with
       | none=>exact un.keep b o e q (by intro z;exact absurd (show b∈([]:List Addr) from z) (by simp)) (by simp)
       | some u =>
         rcases hO b with z|⟨ob,xs,z⟩
         . rw [q] at z;cases z
         . have z2:=un.frzs b ob _ z;obtain ⟨e1,_⟩:=hok b _ z;obtain ⟨e2,_⟩:=hok' b _ z2;rw [e] at e1;cases e1;exact e2
 cases hk:K.lookup a with
 | some o =>
   have e:=KX a o hk;rw [ha] at e;cases e;refine core (fun _=>none) (fun _=>.inl rfl) (.inr ⟨_,vs.toArray,_,hk,rfl,rfl,rfl,by rw [Of,lenV];exact hl,by simpa using rv⟩) (fun b u z=>by have z':(none:Option HO)=some u:=z;cases z') (fun b z=>absurd rfl z) fun z=>absurd rfl z
 | none =>
   refine core (fun b=>if b=a then some (.frz {cls:=.type "list",data:=.seq vs.toArray} (.lst (ns.map V.int))) else none) (fun b=>?_) (.inl (.inr ⟨{cls:=.type "list",data:=.seq vs.toArray},if_pos rfl⟩)) (fun b u z=>?_) (fun b z=>?_) fun _=>hk
   . by_cases hb:b=a
     . exact .inr ⟨_,_,if_pos hb⟩
     . exact .inl (if_neg hb)
   . by_cases hb:b=a
     . have z':=(if_pos hb).symm.trans z;cases z';subst hb;exact ⟨ha,by rw [List.length_map];exact hl,vs,_,rv,ha⟩
     . have z':=(if_neg hb).symm.trans z;cases z'
   . by_cases hb:b=a
     . exact hb
     . exact absurd (if_neg hb) z
end L2
namespace L2
open PySem PySem.Spec PyProof.Rows
theorem ZnB{l:PySem.W.OpenLaw}{n k:Nat}{q:Program}{loose:List Str}{XP:(Str->Option Value)->Heap->Prop}{YP:World->Heap->Prop}{d:DefRec}{K:Params->PySem.W.Frag}{CX:World->CXT}{sp:World->Sp}{x:Str}
   (hn:l.most=some n) (hn2:n<=sizeLine) (hdf:d.params.defaults=[]) (hr:Room k callerA)
   (hY:∀ (w:World) (h:Heap),YP w h->(K w.params).In h)
   (F:∀ (w:World) (mg:Str->Option Value) (fa:Addr) (h:Heap),(K w.params).In h->h.Ns mainGlobals mg->mg d.name=some (.ref fa) ->
     ∃ fd:FuncData,(∀ (s:Shared) (u:Value),BindsTo s fd ⟨[u],[]⟩ [(x,u)]) /\
       ∀ base:Heap,(K w.params).In base->base.Ns mainGlobals mg->FnOk l.prog w (K w.params) mg base (CX w) k fa fd [x] (sp w))
   (hsp:∀ (w:World) (H:Hp) (a:Addr) (ns:List Int),ns.length<=n->ZpC H->SqL (K w.params) H a (ns.map V.int)->sp w [.ref a] H (fun v _=>v=.bl true) fun _ _ _=>False)
   (hCX:∀ (w:World) (H:Hp) (s:Shared) (e:Value) (s':Shared),CX w [] H s (fun _ _ _=>False) e s'->False) :
   PySem.W.WalkO q loose XP YP l.row.toRowW d [] (fun f vs=>PySem.call f vs):=by
 refine Att.ZiH hn hdf fun w s₀ s₁ mg mb fa o pm cd doc a vs ns G Y ho hd hcd hmg hobj hints hlen hg=>?_;have KX:=hY w _ Y;obtain ⟨fd,hb,hF⟩:=F w mg fa _ KX G.T.g hmg;exact ZmD KX G.T.g G.T.b G.T.builtins G.T.nolimit hg hobj hints (OE hlen hn2) hr hF hb (fun H hO hS=>hsp w H a ns hlen hO hS) fun H e s'=>hCX w H s₁ e s'
end L2
namespace L2
open PySem PySem.Spec PyProof.Rows
noncomputable def inClass(s:Stmt)(j:Nat):Stmt:=match s with
 | .ClassDef _ _ _ body _ _ _ _ _ _ _=>body.getD j (.Pass ⟨0,0,0,0⟩)
 | _=>.Pass ⟨0,0,0,0⟩
noncomputable def Zck(s:Stmt):Arguments:=match s with
 | .FunctionDef _ a _ _ _ _ _ _ _ _=>a
 | _=>{posonlyargs:=[],args:=[],vararg:=none,kwonlyargs:=[],kw_defaults:=[],kwarg:=none,defaults:=[]}
noncomputable def Zbb(s:Stmt):List Stmt:=match s with
 | .FunctionDef _ _ b _ _ _ _ _ _ _=>b
 | _=>[]
noncomputable def ZI(s:Stmt):Scope:=match s with
 | .FunctionDef _ _ _ _ _ _ sc _ _ _=>sc
 | _=>{kind:=.function,names:=[],isGenerator:=false,isCoroutine:=false}
noncomputable abbrev E0:XK:=fun _ _ _=>False
structure Fun(K:PySem.W.Frag)(x qual:Str)(st:Stmt)(f:Addr)(fd:FuncData):Prop where
 ex:∃ (oc:Value) (od:Option Addr) (kV doc pm:Value) (an:Option Addr) (cdv ct:Value) (osl:Array (Option Value)),
   fd=PySem.W.fnOf x qual (Zck st) (Zbb st) (ZI st) .none kV doc pm an cdv ct/\K.lookup f=some ⟨oc,od,.func fd,osl⟩/\PySem.W.codeIn K cdv qual=true
 kp:PySem.W.keepIn K (.ref f)=true
section
variable {P:Program}{w:World}{K:PySem.W.Frag}{mg:Str->Option Value}{base:Heap}
theorem Fun.binds{x qual:Str}{st:Stmt}{f:Addr}{fd:FuncData}{ps:List Str}(F:Fun K x qual st f fd)
   (h:∀ (kV doc pm:Value) (an:Option Addr) (cdv ct:Value) (us:List Value),us.length=ps.length->bindArgs (PySem.W.fnOf x qual (Zck st) (Zbb st) (ZI st) .none kV doc pm an cdv ct) ⟨us,[]⟩=pure (ps.zip us)):Binds K fd ps []:=by
 obtain ⟨oc,od,kV,doc,pm,an,cdv,ct,osl,rfl,lk,hcd⟩:=F.ex;exact .all (h kV doc pm an cdv ct)
theorem ZmQ{x qual:Str}{st:Stmt}{f:Addr}{oc:Value}{od an:Option Addr}{osl:Array (Option Value)}{kV doc pm cdv ct:Value}(l:K.lookup f=some ⟨oc,od,.func (PySem.W.fnOf x qual (Zck st) (Zbb st) (ZI st) .none kV doc pm an cdv ct),osl⟩)
   (c:PySem.W.codeIn K cdv qual=true) (k:PySem.W.keepIn K (.ref f)=true):Fun K x qual st f (PySem.W.fnOf x qual (Zck st) (Zbb st) (ZI st) .none kV doc pm an cdv ct):=⟨⟨oc,od,kV,doc,pm,an,cdv,ct,osl,rfl,l,c⟩,k⟩
end
theorem Zia{A B_:Prop}(h:B_):if false=true then A else B_:=by
 rw [if_neg Ow];exact h
theorem Zh9{A B_:Prop}(h:A):if true=true then A else B_:=by
 rw [if_pos rfl];exact h
end L2
end
section
set_option tactic.hygienic false
namespace L2
open PySem PySem.Spec PyProof.Rows
section
variable {κ:Type} [DecidableEq κ]
noncomputable def Zdk(kvs:List (κ×V))(k:κ):Option V:=(kvs.find? fun kv=>decide (kv.1=k)).map (·.2)
noncomputable def putK(kvs:List (κ×V))(k:κ)(v:V):List (κ×V) :=
 if (kvs.any fun kv=>decide (kv.1=k))=true then kvs.map (fun kv=>if kv.1=k then (kv.1,v) else kv) else kvs++[(k,v)]
theorem Zly{p:κ×V}{r:List (κ×V)}{k:κ}(e:p.1=k):Zdk (p::r) k=some p.2:=by simp [Zdk,List.find?_cons,e]
theorem Zlz{p:κ×V}{r:List (κ×V)}{k:κ}(e:¬ p.1=k):Zdk (p::r) k=Zdk r k:=by simp [Zdk,List.find?_cons,e]
theorem Zeu(kvs:List (κ×V))(k:κ)(v:V):(putK kvs k v).length<=kvs.length+1:=by
 unfold putK;split
 . rw [List.length_map];lia
 . rw [OA,Os,List.length_nil];lia
theorem ZdT.isSome_eq{o:Option V}{u:Option Value}(r:ZdT o u):o.isSome=u.isSome:=by
 cases o with
 | none=>cases u with
   | none=>rfl
   | some _=>exact (show False from r).elim
 | some _=>cases u with
   | none=>exact (show False from r).elim
   | some _=>rfl
theorem KV.val{kvs:List (κ×V)}{vs:List (κ×Value)}(r:KV kvs vs)(k:κ):ZdT (Zdk kvs k) (valueAt vs k):=by
 unfold KV at r;induction r with
 | nil=>exact True.intro
 | @cons p q ps qs h t ih =>
   obtain ⟨h1,h2⟩:=h;by_cases e:p.1=k
   . have e':q.1=k:=h1.symm.trans e;have b:valueAt (q::qs) k=some q.2:=by simp [valueAt,List.find?_cons,e']
     rw [Zly e,b];exact h2
   . have e':¬ q.1=k:=fun z=>e (h1.trans z);have b:valueAt (q::qs) k=valueAt qs k:=by simp [valueAt,List.find?_cons,e']
     rw [Zlz e,b];exact ih
theorem KV.any{kvs:List (κ×V)}{vs:List (κ×Value)}(r:KV kvs vs)(k:κ):(kvs.any fun kv=>decide (kv.1=k))=vs.any fun kv=>decide (kv.1=k):=by
 unfold KV at r;induction r with
 | nil=>rfl
 | cons h t ih=>rw [List.any_cons,List.any_cons,ih,h.1]
theorem KV.repl{kvs:List (κ×V)}{vs:List (κ×Value)}(r:KV kvs vs)(k:κ){y:V}{u:Value}(ry:RelV y u) :
   KV (kvs.map fun kv=>if kv.1=k then (kv.1,y) else kv) (vs.map fun kv=>if kv.1=k then (kv.1,u) else kv):=by
 unfold KV at r ⊢;induction r with
 | nil=>exact .nil
 | @cons p q ps qs h t ih =>
   rw [Op,Op];refine .cons ?_ ih;obtain ⟨h1,h2⟩:=h;by_cases e:p.1=k
   . rw [if_pos e,if_pos (h1.symm.trans e)];exact ⟨h1,ry⟩
   . rw [if_neg e,if_neg (fun z=>e (h1.trans z))];exact ⟨h1,h2⟩
theorem KV.put{kvs:List (κ×V)}{vs:List (κ×Value)}(r:KV kvs vs)(k:κ){y:V}{u:Value}(ry:RelV y u):KV (putK kvs k y) (stored vs k u):=by
 unfold putK stored;rw [r.any k];by_cases e:(vs.any fun kv=>decide (kv.1=k))=true
 . rw [if_pos e,if_pos e];exact r.repl k ry
 . rw [if_neg e,if_neg e];exact Paired.snoc r ⟨rfl,ry⟩
theorem KV.length(r:KV kvs vs):kvs.length=vs.length:=Paired.length r
end
theorem Zh7(r:RelV (kV k) u):(ZF P w).is k u=true:=by
 cases k with
 | inl i=>obtain ⟨t,e⟩:=(show ∃ t,u=Value.int i t from r);subst e;exact Zh0 P w i t
 | inr x=>obtain ⟨t,e⟩:=(show ∃ t,u=Value.str x t from r);subst e;exact ZhZ P w x t
section
variable {P:Program}{w:World}{H:Hp}{h:Heap}{a:Addr}
theorem ZsC(ok:HOk P w H h)(e:Rd H a u):Z5 P w H h a u:=e.ok ok
theorem Zp2(ok:HOk P w H h)(e:Rd H a (.dK kvs)):kvs.length<=sizeLine/\(a==sysModules)=false/\∃ vs,KV kvs vs/\h.DictOf (ZF P w) a vs :=
 show Z5 P w H h a (.dK kvs) from ZsC ok e
theorem Zp3(ok:HOk P w H h)(e:H a=some (.dK kvs)):kvs.length<=sizeLine/\(a==sysModules)=false/\∃ vs,KV kvs vs/\h.DictOf (ZF P w) a vs:=Zp2 ok (.inl e)
end
section
variable {X:Cx}{pins:List (Addr×Obj)}{Z:St}{H:Hp}{s:Shared}{a:Addr}{y v:V}{u r:Value}{o:Option V}{A:Around}{E:Value->Shared->Prop}
theorem Inv.big(I:Inv X pins Z H s):sysModules<s.heap.objs.size:=by
 have h:mainGlobals<s.heap.objs.size:=(I.mod.glob.keeps I.bk).lt;exact Nat.lt_trans (by decide) h
theorem Zkn(I:Inv X pins Z H s)(mu:Mut (H a))(hs:Heap.SameBut a s.heap h')(he:∃ q,h'.get? a=some q)(new:Z5 X.prog X.w (upd H a ob) h' a ob) :
   Inv X pins Z (upd H a ob) {s with heap:=h',toks:=t'} :=
 I.write (x:=a) (e:=a) mu (.inl rfl) (fun b q hb z=>(hs.2 b hb).trans z) he new
theorem Zm6(z:kvs.length<=sizeLine)(hd:(a==sysModules)=false)(rel:KV kvs vs)(dd:h'.DictOf (ZF P w) a vs) :
   Z5 P w H' h' a (.dK kvs):=⟨z,hd,vs,rel,dd⟩
end
theorem Zii (h:Heap) (hb:sysModules<h.objs.size):Z5 P w H (h.push {cls:=.type "dict",data:=.dict #[]}) h.objs.size (.dK []) :=
 ⟨Nat.zero_le _,beq_eq_false_iff_ne.mpr (Ne.symm (Ou hb)),[],.nil,Heap.DictOf.new h⟩
noncomputable def Zqt:TE:=fun _ H Q=>∀ p,H p=none->Q (.ref p) (upd H p (.dK []))
section
variable {X:Cx}{pos:Pos}
theorem Zmo:PE X (.Dict [] [] pos) Zqt:=fun pins s Z H Q I h =>
 wpAny_Dict_empty ⟨.ref s.heap.objs.size,_,I.laid (a:=s.heap.objs.size) (o:=.dK []) (t':=s.toks) (fun _ _ q=>Od _ q) (Oq _) (Zii s.heap I.big),rfl,h _ (I.hok.fresh (Oq _))⟩
end
noncomputable def Zg0:List (TE×TE)->St->Hp->(List (V×V)->Hp->Prop)->Prop
 | [],_,H,Q=>Q [] H
 | (tk,tv)::r,Z,H,Q=>tk Z H fun x H1=>tv Z H1 fun y H2=>Zg0 r Z H2 fun ps H3=>Q ((x,y)::ps) H3
noncomputable abbrev VV:List (V×V)->List (Value×Value)->Prop:=Paired fun p q=>RelV p.1 q.1/\RelV p.2 q.2
noncomputable def PPs(X:Cx)(pos:Pos)(keys:List (Option Expr))(values:List Expr)(trs:List (TE×TE)):Prop :=
 ∀ (pins:List (Addr×Obj)) (s:Shared) (Z:St) (H:Hp) (Q:List (V×V)->Hp->Prop),Inv X pins Z H s->Zg0 trs Z H Q ->
   wpAny (model X.prog X.w) X.A (evalPairs (pairTrees keys values X.env pos)) (fun vs s'=>∃ ps H',Inv X pins Z H' s'/\VV ps vs/\Q ps H') X.xe s
theorem Zn7:PPs X pos [] [] []:=fun pins s Z H Q I h=>pairTrees_nil_walk ⟨[],H,I,.nil,h⟩
theorem Zmf(hk:PE X k tk)(hv:PE X v tv)(hr:PPs X pos ks vs trs) :
   PPs X pos (some k::ks) (v::vs) ((tk,tv)::trs):=fun pins s Z H Q I h =>
 pairTrees_cons_walk (thn (hk pins s Z H _ I h) fun u s1 ⟨x,H1,I1,rx,q1⟩=>thn (hv pins s1 Z H1 _ I1 q1) fun w2 s2 ⟨y,H2,I2,ry,q2⟩ =>
   thn (hr pins s2 Z H2 _ I2 q2) fun ws s3 ⟨ps,H3,I3,rel,q3⟩=>⟨(x,y)::ps,H3,I3,.cons ⟨rx,ry⟩ rel,q3⟩)
noncomputable def Zd0(kvs more:List (Key×V)):List (Key×V):=more.foldl (fun acc kv=>putK acc kv.1 kv.2) kvs
theorem KV.merge:∀ {more:List (Key×V)}{rs:List (Key×Value)}{kvs:List (Key×V)}{vs:List (Key×Value)},KV more rs->KV kvs vs->KV (Zd0 kvs more) (merged vs rs):=by
 intro more rs kvs vs r;unfold KV at r;induction r generalizing kvs vs with
 | nil=>intro q;exact q
 | @cons p q ps qs h t ih =>
   intro r0;have e:KV (putK kvs p.1 p.2) (stored vs q.1 q.2):=by
     have:=r0.put p.1 h.2;rw [<- h.1];exact this
   exact ih e
theorem ZcB:∀ (more kvs:List (Key×V)),(Zd0 kvs more).length<=kvs.length+more.length
 | [],kvs=>by show kvs.length<=kvs.length+0;lia
 | p::r,kvs=>by
   have h1:=ZcB r (putK kvs p.1 p.2);have h2:=Zeu kvs p.1 p.2;show (Zd0 (putK kvs p.1 p.2) r).length<=_;rw [Os];lia
theorem ZfV:∀ {kvs:List (Key×V)}{ws:List (Value×Value)},VV (kvs.map fun kv=>(kV kv.1,kv.2)) ws->∃ rs,Carries (ZF P w) ws rs/\KV kvs rs
 | [],_,r=>by rw [Oy] at r;cases r;exact ⟨[],True.intro,.nil⟩
 | p::kvs,_,r=>by
   rw [Op] at r;cases r with
   | @cons a b as bs h t =>
     obtain ⟨rs,c,q⟩:=ZfV (P:=P) (w:=w) t;obtain ⟨b1,b2⟩:=b;exact ⟨(p.1,b2)::rs,⟨Zh7 h.1,rfl,c⟩,.cons ⟨rfl,h.2⟩ q⟩
noncomputable def Zst(trs:List (TE×TE)):TE:=fun Z H Q=>∀ p,H p=none->Zg0 trs Z (upd H p (.dK [])) fun ps H2=>H2 p=some (.dK [])/\∃ kvs:List (Key×V),ps=kvs.map (fun kv=>(kV kv.1,kv.2))/\kvs.length<=15/\Q (.ref p) (upd H2 p (.dK (Zd0 [] kvs)))
theorem Zoj(h:PPs X pos keys values trs)(hall:keys.all (·.isSome)=true)(hl:keys.length=values.length)(h0:keys≠[])
   (h15:keys.length<=15):PE X (.Dict keys values pos) (Zst trs):=by
 intro pins s Z H Q I q;have hn:=I.hok.fresh (Oq s.heap.objs.size);have I1:=I.laid (a:=s.heap.objs.size) (o:=.dK []) (h':=s.heap.push {cls:=.type "dict",data:=.dict #[]}) (t':=s.toks) (fun _ _ q=>Od _ q) (Oq _) (Zii s.heap I.big);refine wpAny_Dict_walk (knd:=ZF X.prog X.w) hall hl h0 h15 (thn (h pins _ Z _ _ I1 (q _ hn)) fun ws s2 ⟨ps,H2,I2,rel,e,kvs,ep,lk,q2⟩=>?_);subst ep;obtain ⟨rs,c,rk⟩:=ZfV (P:=X.prog) (w:=X.w) rel;obtain ⟨z,hd,vs0,r0,dd⟩:=Zp3 I2.hok e;cases r0;refine ⟨rs,c,dd,fun h' dd' hs=>⟨.ref s.heap.objs.size,_,?_,rfl,q2⟩⟩;have hz:(Zd0 [] kvs).length<=sizeLine:=by
   have h1:=ZcB kvs [];rw [List.length_nil] at h1;rw [sizeLine_eq];lia
 have he:∃ q,h'.get? s.heap.objs.size=some q:=let ⟨q,_,_,hq,_⟩:=dd';⟨q,hq⟩;exact Zkn I2 (by rw [e];exact True.intro) hs he (Zm6 hz hd (rk.merge .nil) dd')
end L2
end
section
namespace L2
open PySem PySem.Spec PyProof.Rows
noncomputable def Its(x:Str):It:=⟨fun i _=>i<x.cps.size,fun i H v H'=>H'=H/\∃ c,x.cps[i]? = some c/\v=.str ⟨#[c]⟩,fun i _=>i=x.cps.size⟩
theorem ZrB{M:Model}{A:Around}{E:Value->Shared->Prop}{s:Shared}{tg:Expr}{it:Addr}{x:Str}{t:Tok}{Q:Unit->Shared->Prop}(hQ:Q () s):wpAny M A (letOwnedTupleGo tg (.ref it) (.str x t)) Q E s:=by
 unfold letOwnedTupleGo;cases tg<;>exact wpAny_pure hQ
theorem ZhG{P:Program}{w:World}{K:PySem.W.Frag}{tg:Expr}{it:Addr}{x:Str}{t:Tok}{ty:String}
   (W:∀ A':Around,A'.handled=none->Walks P w A' it [it] [it] x.cps.size (SignAt x) (fun i h=>h.IsStrIter it ty x t i))
   (hself:∀ (A:Around) (i:Nat) (s:Shared) (Q:Value->Shared->Prop) (E:Value->Shared->Prop),s.heap.IsStrIter it ty x t i->Q (.ref it) s->wpAny (model P w) A (pyIter (.ref it)) Q E s) :
   Turn P w K tg (Its x) [it] it (fun i h=>h.IsStrIter it ty x t i) where
 mem:=by simp
 obj:=fun i h st b hb=>by
   have e:b=it:=by simpa using hb
   subst e;obtain ⟨o,e,c,d⟩:=st;exact ⟨o,e,fun v z=>by rw [d] at z;cases z⟩
 keep:=fun i h h' st k=>by
   obtain ⟨o,e,r⟩:=st;exact ⟨o,k it (by simp) o e,r⟩
 item:=by
   intro X hP hw hK hc i pins s Z H E I hf st hg;subst hP hw hK;obtain ⟨f0,f1,f2,f3,f4,f5⟩:=hf it (by simp);refine (W X.A (I.ok.hd hc)).item i s _ _ hg st fun v h' tk hv st' kk=>?_;obtain ⟨c,u,hcx,rfl⟩:=hv;have I1:Inv X pins Z H {s with heap:=h',toks:=tk}:=I.turned (fun b o hb e=>kk b o (by simpa using hb) e) f0 f1 f3 f4 f5;exact ⟨_,rfl,ZrB ⟨.str ⟨#[c]⟩,H,I1,⟨u,rfl⟩,⟨rfl,c,hcx,rfl⟩,st',fun b hb=>(hf b hb).1⟩⟩
 done:=by
   intro X hP hw hK hc i pins s Z H E I hf st hg;subst hP hw hK;obtain ⟨f0,f1,f2,f3,f4,f5⟩:=hf it (by simp);have e:i=x.cps.size:=hg;subst e;exact (W X.A (I.ok.hd hc)).done s _ _ st fun h' tk kk=>⟨rfl,I.turned (fun b o hb e=>kk b o (by simpa using hb) e) f0 f1 f3 f4 f5⟩
 self:=hself
noncomputable def ZuZ(tl:TE):TI:=fun Z H R=>tl Z H fun x H1=>∃ y,x=.str y/\R (Its y) H1
theorem ZqO{X:Cx}{tg l:Expr}{tl:TE}(hl:PE X l tl):PI X tg l (ZuZ tl):=by
 intro pins s Z H R I h;refine thn (hl pins s Z H _ I h) fun v s1 ⟨x,H1,I1,r1,q1⟩=>?_;obtain ⟨y,e,q⟩:=q1;subst e;obtain ⟨t,rfl⟩:=r1;have fin:∀ b∈[s1.heap.objs.size],ZbT X pins H1 b:=fun b hb=>by
   have e:b=s1.heap.objs.size:=by simpa using hb
   subst e;exact I1.fpOk (Oq _) (I1.hok.fresh (Oq _))
 cases ha:y.cps.all (·<128)
 . refine wpAny_pyIter_wide ha ?_;exact ⟨s1.heap.objs.size,[s1.heap.objs.size],_,_,H1,rfl,I1.kept (t':=s1.toks) fun b o e=>Od _ e,ZhG (t:=t) (fun A' hA=>Walks.strWide hA _ y t) (fun _ _ _ _ _ st h=>wpAny_pyIter_striter_wide st h),⟨_,Oj _ rfl,rfl,rfl⟩,fin,q⟩
 . refine wpAny_pyIter_ascii ha ?_;exact ⟨s1.heap.objs.size,[s1.heap.objs.size],_,_,H1,rfl,I1.kept (t':=s1.toks) fun b o e=>Od _ e,ZhG (t:=t) (fun A' hA=>Walks.strAscii hA _ y t) (fun _ _ _ _ _ st h=>wpAny_pyIter_striter_ascii st h),⟨_,Oj _ rfl,rfl,rfl⟩,fin,q⟩
theorem ZbX{env:Env}:∀ (names:List (Str×NameKind)) (x:Str),
   (names.map fun (n,k)=>if (k==NameKind.free&&env.scope.kind==.function&&env.kindOf n==some .cell) then (n,NameKind.cell) else (n,k)).lookup x =
     (names.lookup x).map fun k=>if (k==NameKind.free&&env.scope.kind==.function&&env.kindOf x==some .cell) then NameKind.cell else k
 | [],_=>rfl
 | (n,k)::r,x=>by
   have ih:=@ZbX env r x;show List.lookup x ((if (k==NameKind.free&&env.scope.kind==.function&&env.kindOf n==some .cell)=true then (n,NameKind.cell) else (n,k))::_)=_;cases hx:x==n with
   | true =>
     have e:x=n:=by simpa using hx
     subst e;by_cases hc:(k==NameKind.free&&env.scope.kind==.function&&env.kindOf x==some .cell)=true
     . rw [if_pos hc];simp only [OF,hx,Option.map_some,if_pos hc]
     . rw [if_neg hc];simp only [OF,hx,Option.map_some,if_neg hc]
   | false =>
     by_cases hc:(k==NameKind.free&&env.scope.kind==.function&&env.kindOf n==some .cell)=true
     . rw [if_pos hc];simp only [OF,hx];exact ih
     . rw [if_neg hc];simp only [OF,hx];exact ih
noncomputable def Zeb(env:Env):List (Str×NameKind)->List (Str×Addr)->List (Str×Addr)
 | [],cs=>cs
 | (n,k)::r,cs=>Zeb env r (if (k==.free)=true then (n,(env.cells.lookup n).getD 0)::cs else cs)
theorem Zio{env:Env}:∀ (l:List (Str×NameKind)) (cs:List (Str×Addr)),(∀ y∈l,y.2=.free->∃ c,env.cells.lookup y.1=some c) ->
   (∀ x c,(x,c)∈cs->env.cells.lookup x=some c)->∀ x c,(x,c)∈Zeb env l cs->env.cells.lookup x=some c
 | [],cs,_,h2,x,c,hm=>h2 x c hm
 | (n,k)::r,cs,h1,h2,x,c,hm=>by
   refine Zio r _ (fun y hy=>h1 y (Oh _ hy)) (fun x c hm=>?_) x c hm;by_cases hk:(k==NameKind.free)=true
   . rw [if_pos hk] at hm;rcases O2.mp hm with e|hm
     . cases e;have hk':k=.free:=by
         cases k<;>first|rfl|(exact absurd hk (by decide))
       obtain ⟨c,e⟩:=h1 (n,k) Oi hk';rw [e];rfl
     . exact h2 x c hm
   . rw [if_neg hk] at hm;exact h2 x c hm
theorem ZgO:∀ (l:List (Str×NameKind)) (cs:List (Str×Addr)) (p:Str×Addr),p∈cs->p∈Zeb env l cs
 | [],_,_,h=>h
 | (n,k)::r,cs,p,h=>by
   refine ZgO r _ p ?_;by_cases hk:(k==NameKind.free)=true
   . rw [if_pos hk];exact Oh _ h
   . rw [if_neg hk];exact h
theorem Zip:∀ (l:List (Str×NameKind)) (cs:List (Str×Addr)) (y:Str×NameKind),y∈l->y.2=.free->∃ c,(y.1,c)∈Zeb env l cs
 | (n,k)::r,cs,y,h,hf=>by
   rcases O2.mp h with e|h
   . subst e;refine ⟨(env.cells.lookup n).getD 0,ZgO r _ _ ?_⟩;have hk:(k==NameKind.free)=true:=by
       have:k=.free:=hf;subst this;rfl
     rw [if_pos hk];exact Oi
   . exact Zip r _ y h hf
theorem Zcz:∀ {l:List (Str×α)}{x:Str}{c:α},(x,c)∈l->∃ c',l.lookup x=some c'/\(x,c')∈l
 | (n,d)::r,x,c,h=>by
   cases hx:x==n with
   | true =>
     have e:x=n:=by simpa using hx
     subst e;exact ⟨d,by simp [OF],Oi⟩
   | false =>
     rcases O2.mp h with e|h
     . cases e;simp at hx
     . obtain ⟨c',h1,h2⟩:=Zcz h;exact ⟨c',by simp only [OF,hx];exact h1,Oh _ h2⟩
theorem Zgd(h:∀ y∈scope.names,y.2=.free->∃ c,env.cells.lookup y.1=some c):closureFor scope env=pure (Zeb env scope.names []):=by
 have all:∀ (l:List (Str×NameKind)) (cs:List (Str×Addr)),(∀ y∈l,y.2=.free->∃ c,env.cells.lookup y.1=some c) ->
     (forIn l cs fun (x:Str×NameKind) r=>match x with|(name,kind)=>if (kind==NameKind.free)=true then (do let a <- cellOf env name;pure (ForInStep.yield ((name,a)::r))) else pure (ForInStep.yield r):Sem (List (Str×Addr)))=pure (Zeb env l cs):=by
   intro l;induction l with
   | nil=>intro cs _;rfl
   | cons y r ih =>
     intro cs hl;obtain ⟨n,k⟩:=y;rw [List.forIn_cons];have hr:=fun cs=>ih cs fun y hy=>hl y (Oh _ hy);by_cases hk:(k==NameKind.free)=true
     . have hk':k=.free:=by
         cases k<;>first|rfl|(exact absurd hk (by decide))
       obtain ⟨c,e⟩:=hl (n,k) Oi hk';have ec:cellOf env n=pure c:=by unfold cellOf;rw [e]
       simp only [hk,if_true,ec];show (forIn r ((n,c)::cs) _:Sem _)=_;rw [hr];show _=pure (Zeb env r (if (k==NameKind.free)=true then (n,(env.cells.lookup n).getD 0)::cs else cs));rw [if_pos hk,e];rfl
     . simp only [hk];show (forIn r cs _:Sem _)=_;rw [hr];show _=pure (Zeb env r (if (k==NameKind.free)=true then (n,(env.cells.lookup n).getD 0)::cs else cs));rw [if_neg hk]
 unfold closureFor;have z:=all scope.names [] h;dsimp only at z ⊢;rw [z];rfl
end L2
end
section
set_option tactic.hygienic false
namespace L2
open PySem PySem.Spec PyProof.Rows
theorem Zim(I:Nat->Shared->Prop)
   (turn:∀ n s,I n s->wpAny (model prog w) A (pyNext it) (fun r s₁=>match r with
     | none=>R (.ok .next) s₁
     | some v=>wpAny (model prog w) A (letOwnedTupleGo target it v) (fun _ s₁'=>wpAny (model prog w) A (assign target env v) (fun _ s₂ =>
         wpAny (model prog w) A (forIn ifs true fun c r=>if r=true then do let ok <- isTrue c env (eval c env);pure (ForInStep.yield ok) else pure (ForInStep.yield r)) (fun ok s₃ =>
           if ok=true then wpAny (model prog w) A (eval elt env) (fun x s₄ =>
             wpAny (model prog w) A (call (.builtin "list.append") [acc,x]) (fun _ s₅=>∃ m,m<n/\I m s₅) (notedBy (model prog w) A env fun e s'=>R (.error e) s') s₄) (notedBy (model prog w) A env fun e s'=>R (.error e) s') s₃
           else ∃ m,m<n/\I m s₃) (notedBy (model prog w) A env fun e s'=>R (.error e) s') s₂) (notedBy (model prog w) A env fun e s'=>R (.error e) s') s₁') (notedBy (model prog w) A env fun e s'=>R (.error e) s') s₁) (notedBy (model prog w) A env fun e s'=>R (.error e) s') s)
   (n:Nat) (h:I n s) :
   codeAny (model prog w) A (.compLoop (.ListComp elt [⟨target,iter,ifs,0⟩] scope pos) 0 it acc env) R s:=by
 refine codeAny_loop rfl I (fun n s hI=>?_) n h;show wpAny _ A ((compTurn (.ListComp elt [⟨target,iter,ifs,0⟩] scope pos) 0 it acc env).onRaise (fun x=>do noteFrame x env;theTreesLotGoes x)) _ _ s;refine wpAny_noted ?_;rw [compTurn_list];refine wpAny_bind (wpAny_standAt (wpAny_bind (wpAny_mono (turn n s hI) (fun r s₁ h₁=>?_) fun _ _ h'=>h')));cases r with
 | none=>exact wpAny_pure h₁
 | some v =>
   refine wpAny_bind (wpAny_mono h₁ (fun _ s₁' h₁'=>?_) fun _ _ h'=>h');refine wpAny_bind (wpAny_mono h₁' (fun _ s₂ h₂=>wpAny_bind (wpAny_mono h₂ (fun ok s₃ h₃=>?_) fun _ _ h'=>h')) fun _ _ h'=>h');cases ok with
   | false=>exact wpAny_pure ⟨rfl,h₃⟩
   | true =>
     exact wpAny_bind (wpAny_bind (wpAny_mono h₃ (fun x s₄ h₄=>wpAny_bind (wpAny_mono h₄ (fun _ s₅ h₅=>wpAny_pure (wpAny_pure ⟨rfl,h₅⟩)) fun _ _ h'=>h')) fun _ _ h'=>h'))
structure CompSc(NC N:List Str)(js:List (Option Nat))(sc scope:Scope):Prop where
 kind:scope.kind=.function
 dkind:sc.kind=.function
 nocell:∀ y∈scope.names,y.2≠.cell
 locs:∀ y∈scope.names,y.2=.local->scope.names.lookup y.1=some .local
 free:∀ y∈scope.names,y.2=.free->sc.names.lookup y.1=some .cell
 nd:NC.Nodup
 len:js.length=NC.length
 jok:((NC.zip js).all fun p=>p.2.all fun j=>decide (N[j]? = some p.1)&&decide (scope.names.lookup p.1=some .free))=true
theorem CompSc.at{NC N:List Str}{js:List (Option Nat)}(S_:CompSc NC N js sc scope){i j:Nat}{x:Str}(h1:NC[i]? = some x)(h2:js[i]? = some (some j)):N[j]? = some x/\scope.names.lookup x=some .free:=by
 have h:=S_.jok;rw [OC] at h;have hm:(x,some j)∈NC.zip js:=by
   refine O1 (i:=i) ?_;rw [List.getElem?_zip_eq_some];exact ⟨h1,h2⟩
 have q:=h _ hm;simp only [Option.all_some,Oa,decide_eq_true_eq] at q;exact q
noncomputable def capt(js:List (Option Nat))(Z:St):St:=js.map fun o=>o.bind fun j=>(Z[j]?).join
noncomputable def Zv(X:Cx)(NC:List Str)(scope:Scope)(C:Addr)(s3:Shared)(H3:Hp)(fp:List Addr):Cx :=
 {X with N:=NC,s₀:=s3,H₀:=H3,env:=compEnvC scope (Zeb X.env scope.names []) C X.env,outer:=X.stack,stack:=X.stack,ex:=fp,fn:=fun _=>false,calm:=true,pn:=[],xe:=fun _ _=>False}
noncomputable def Zju(k:Nat)(g:TG):Prop:=∀ x Z H Q,g x Z H Q->g x Z H fun σ2 H2=>Q σ2 H2/\σ2.length=Z.length/\∀ j,k<=j->σ2[j]? = Z[j]?
noncomputable def ZiL(k:Nat)(g:TGs):Prop:=∀ x Z H Q,g x Z H Q->g x Z H fun σ2 H2=>Q σ2 H2/\σ2.length=Z.length/\∀ j,k<=j->σ2[j]? = Z[j]?
theorem ZnG(h:i<k):Zju k (ZbK i):=fun x Z H Q q=>⟨q,List.length_set,fun j hj=>by rw [Oc (by lia)]⟩
theorem ZjE:ZiL k Zo0:=fun x Z H Q q=>⟨q.1,q.2,rfl,fun _ _=>rfl⟩
theorem Zfm(h:i<k)(hu:ZiL k u):ZiL k (Zig (ZbK i) u):=by
 rintro xs Z H Q ⟨v,r,e,q⟩;refine ⟨v,r,e,?_⟩;have z:=hu r (Z.set i (some v)) H Q q;have z2:=hu r (Z.set i (some v)) H (fun σ2 H2=>Q σ2 H2/\σ2.length=(Z.set i (some v)).length/\∀ j,k<=j->σ2[j]? = (Z.set i (some v))[j]?) z;show u r (Z.set i (some v)) H _;have e1:(Z.set i (some v)).length=Z.length:=List.length_set;have e2:∀ j,k<=j->(Z.set i (some v))[j]? = Z[j]? := fun j hj=>Oc (by lia);have e3:(fun σ2 H2=>Q σ2 H2/\σ2.length=Z.length/\∀ j,k<=j->σ2[j]? = Z[j]?)=(fun σ2 H2=>Q σ2 H2/\σ2.length=(Z.set i (some v)).length/\∀ j,k<=j->σ2[j]? = (Z.set i (some v))[j]?):=by
   funext σ2 H2;rw [e1];refine propext ⟨fun ⟨a,b,c⟩=>⟨a,b,fun j hj=>(c j hj).trans (e2 j hj).symm⟩,fun ⟨a,b,c⟩=>⟨a,b,fun j hj=>(c j hj).trans (e2 j hj)⟩⟩
 rw [e3];exact z
theorem ZlH{K:PySem.W.Frag}(hu:ZiL k u):Zju k (ZoZ K n u):=by
 rintro x Z H Q ⟨a,xs,e,h1,h2,q⟩;exact ⟨a,xs,e,h1,h2,hu xs Z H Q q⟩
noncomputable def PIf(X:Cx)(ifs:List Expr)(t:TT):Prop :=
 ∀ (pins:List (Addr×Obj)) (s:Shared) (Z:St) (H:Hp) (Q:Bool->Hp->Prop),Inv X pins Z H s->t Z H Q ->
   wpAny (model X.prog X.w) X.A (forIn ifs true fun c r=>if r=true then do let ok <- isTrue c X.env (eval c X.env);pure (ForInStep.yield ok) else pure (ForInStep.yield r)) (TP X pins Z Q) X.xe s
noncomputable def Zug:TT:=fun _ H Q=>Q true H
theorem Zod{X:Cx}:PIf X [] Zug:=fun _ _ _ H _ I h=>wpAny_tests_nil ⟨H,I,h⟩
theorem Zoc{X:Cx}{c:Expr}{t:TT}(hc:PT X c t):PIf X [c] t:=fun pins s Z H Q I h=>wpAny_tests_one (hc pins s Z H Q I h)
noncomputable def ZlJ(wi:TI)(js:List (Option Nat))(g:TG)(tc:TT)(te:TE):TE:=fun Z H Q=>wi Z H fun J H1=>∀ D,H1 D=none->∃ W:Nat->Nat->List V->Hp->Prop,(∃ m,W 0 m [] (upd H1 D (.lst []))) /\
 ∀ i m ys H,W i m ys H->H D=some (.lst ys)->(J.stop i H/\Q (.ref D) H) \/
   (J.go i H/\ys.length<sizeLine/\∀ x H',J.yld i H x H'->g x (capt js Z) H' fun σ2 H2=>tc σ2 H2 fun b H3 =>
     if b=true then te σ2 H3 fun y H4=>H4 D=some (.lst ys)/\∃ m',m'<m/\W (i+1) m' (ys++[y]) (upd H4 D (.lst (ys++[y])))
     else H3 D=some (.lst ys)/\∃ m',m'<m/\W (i+1) m' ys H3)
section
variable {X:Cx}{pins:List (Addr×Obj)}{Z:St}{H:Hp}{s:Shared}
theorem ZmM{NC:List Str}{js:List (Option Nat)}{sc scope:Scope}{C:Addr}{h4:Heap}{tk:Nat}{fp:List Addr}{m:Str->Option Value}(S_:CompSc NC X.N js sc scope)(hsc:X.env.scope=sc)(hc:X.calm=true)
   (I:Inv X pins Z H s) (f:∀ b∈fp,ZbT X pins H b) (fo:∀ b∈fp,∃ o,s.heap.get? b=some o) (hC:C=s.heap.objs.size) (hns:h4.Ns C m) (hk:∀ b o,s.heap.get? b=some o->h4.get? b=some o) :
   Inv (Zv X NC scope C s H fp) [] (capt js Z) H {s with heap:=h4,toks:=tk}:=by
 have hcells:∀ y∈scope.names,y.2=.free->∃ c,X.env.cells.lookup y.1=some c:=fun y hy hf=>I.ok.has y.1 (.inl (show X.env.scope.names.lookup y.1=some .cell by rw [hsc];exact S_.free y hy hf));have cl1:∀ x c,(Zeb X.env scope.names []).lookup x=some c->X.env.cells.lookup x=some c:=fun x c e=>Zio scope.names [] hcells (fun _ _ z=>by cases z) x c (PySem.mem_of_lookup e);have cl2:∀ y∈scope.names,y.2=.free->∃ c,(Zeb X.env scope.names []).lookup y.1=some c:=fun y hy hf=>by
   obtain ⟨c,hm⟩:=Zip (env:=X.env) scope.names [] y hy hf;obtain ⟨c',e,_⟩:=Zcz hm;exact ⟨c',e⟩
 have kinds:∀ x,(Zv X NC scope C s H fp).env.kindOf x=(scope.names.lookup x).map fun k=>if (k==NameKind.free&&X.env.scope.kind==.function&&X.env.kindOf x==some .cell) then NameKind.cell else k:=fun x=>ZbX scope.names x;have fcell:∀ x,scope.names.lookup x=some .free->(Zv X NC scope C s H fp).env.kindOf x=some .cell:=fun x e=>by
   rw [kinds,e];have h1:X.env.kindOf x=some .cell:=show X.env.scope.names.lookup x=some .cell by rw [hsc];exact S_.free (x,.free) (PySem.mem_of_lookup e) rfl
   have h2:X.env.scope.kind=.function:=I.ok.kind;simp only [Option.map_some,h1,h2];rfl
 have flt:∀ b∈fp,b<s.heap.objs.size:=fun b hb=>let ⟨o,e⟩:=fo b hb;Heap.lt_size e;refine ⟨⟨I.ok.mod,S_.kind,I.ok.glob,I.ok.blt,Nat.le_of_eq hC.symm,fun x y c h1 h2=>I.ok.inj x y c (cl1 x c h1) (cl1 y c h2),fun x hx=>?_,fun x c hf _=>absurd (show false=true from hf) Ow,fun _=>I.ok.hd hc,I.ok.frames,.inl rfl,fun b hb=>⟨?_,fun x c e=>(f b hb).2.2.2.2.1 x c (cl1 x c e)⟩,
     I.bs,OE I.ok.bsz I.sz,fun b o e hb=>?_,fun b hb hm=>?_,I.stack,I.stkFree⟩,
   rfl,I.bare,Un.kept hk,⟨m,hns,fun i x v h1 h2 h3=>?_⟩,fun x c e=>?_,?_,fun x c e=>I.freeC x c (cl1 x c e),fun p hp=>absurd (show p∈([]:List (Addr×Obj)) from hp) (by simp),I.hok.kept hk,?_⟩
 . rw [kinds] at hx;cases e:scope.names.lookup x with
   | none=>rw [e] at hx;rcases hx with hx|hx<;>cases hx
   | some k =>
     rw [e] at hx;have hm:=PySem.mem_of_lookup e;have hk:k=.free:=by
       by_cases hf:(k==NameKind.free)=true
       . cases k<;>first|rfl|(exact absurd hf (by decide))
       . have hf':(k==NameKind.free)=false:=Bool.eq_false_iff.mpr hf;simp only [Option.map_some,hf',Bool.false_and,OG,if_false] at hx;rcases hx with hx|hx
         . exact absurd (Option.some.inj hx) (S_.nocell _ hm)
         . exact Option.some.inj hx
     exact cl2 (x,k) hm hk
 . show b≠C;rw [hC];exact Ou (flt b hb)
 . obtain ⟨_,_,_,f3,_⟩:=f b hb;rcases f3 with z|z
   . exact I.ok.noex b o e z
   . exact absurd (Ot (Heap.lt_size e) (OE I.ok.bsz z)) (Nat.lt_irrefl _)
 . obtain ⟨_,f1,f2,_⟩:=f b hb;exact (O2.mp (I.stkSub b hm)).elim f1 f2
 . have hj:∃ j,js[i]? = some (some j)/\Z[j]? = some (some v):=by
     unfold capt at h2;rw [On] at h2;cases e:js[i]? with
     | none=>rw [e] at h2;cases h2
     | some o =>
       rw [e] at h2;have h2':(o.bind fun j=>(Z[j]?).join)=some v:=Option.some.inj h2;cases o with
       | none=>cases h2'
       | some j =>
         refine ⟨j,rfl,?_⟩;have h3':(Z[j]?).join=some v:=h2';cases q:Z[j]? with
         | none=>rw [q] at h3';cases h3'
         | some r=>rw [q] at h3';rw [show r=some v from h3']
   obtain ⟨j,hj,hσ⟩:=hj;obtain ⟨hN,hfr⟩:=S_.at (show NC[i]? = some x from h1) hj;have hcell:X.env.scope.names.lookup x=some .cell:=by rw [hsc];exact S_.free (x,.free) (PySem.mem_of_lookup hfr) rfl
   obtain ⟨m0,_,hl⟩:=I.loc;obtain ⟨u,r,l⟩:=hl j x v hN hσ (.inr (.inl hcell));refine ⟨u,r,?_⟩;rcases l with ⟨k,_⟩|⟨_,c,e,z⟩
   . rw [show X.env.kindOf x=some .cell from hcell] at k;cases k
   . obtain ⟨c',e'⟩:=cl2 (x,.free) (PySem.mem_of_lookup hfr) rfl;have ec:=cl1 x c' e';rw [e] at ec;cases ec;obtain ⟨o,ho,hd⟩:=z;exact .inr ⟨.inl (fcell x hfr),c,e',o,hk _ _ ho,hd⟩
 . obtain ⟨v,o,ho,hd⟩:=I.cell x c (cl1 x c e);exact ⟨v,o,hk _ _ ho,hd⟩
 . show H C=none;rw [hC];exact I.hok.fresh (Oq _)
 . unfold capt;rw [List.length_map];exact S_.len
end
section
variable {X:Cx}{elt tg iter:Expr}{ifs:List Expr}{scope sc:Scope}{pos:Pos}{NC:List Str}{js:List (Option Nat)}{k:Nat}{wi:TI}{g:TG}{tc:TT}{te:TE}
theorem Inv.comp_out{pins:List (Addr×Obj)}{Z σ':St}{H3 H':Hp}{s3 s1:Shared}{C:Addr}{fp:List Addr}{h'':Heap}(I3:Inv X pins Z H3 s3)(f:∀ b∈fp,ZbT X pins H3 b)(hC:C=s3.heap.objs.size)
   (I':Inv (Zv X NC scope C s3 H3 fp) [] σ' H' s1) (hs:Heap.SameBut C s1.heap h''):Inv X pins Z H' {s1 with heap:=h''}:=by
 have ne:∀ b o,s3.heap.get? b=some o->b≠C:=fun b o e=>by rw [hC];exact Ou (Heap.lt_size e)
 have u:=I'.base;refine I3.call' (s':={s1 with heap:=h''}) (ch:=fp) I'.os ⟨fun b o e n hb hx=>(hs.2 b (ne b o e)).trans (u.keep b o e n hb hx),fun b o e n hb hx=>?_,u.free,fun b o e hx=>?_,u.tups,u.frzs,u.tbls⟩ ?_ I'.bare fun b hb=>?_
 . obtain ⟨sl,q⟩:=u.slot b o e n hb hx;exact ⟨sl,(hs.2 b (ne b o e)).trans q⟩
 . obtain ⟨o',q⟩:=u.there b o e hx;exact ⟨o',(hs.2 b (ne b o e)).trans q⟩
 . have hfree:H' C=none:=I'.free;intro b ob e;refine (I'.hok b ob e).stay (fun c w' hc q=>(hs.2 c ?_).trans q) (fun _ q=>q) fun _ _ q=>q;rintro rfl;rcases hc with rfl|hc
   . rw [hfree] at e;cases e
   . rw [hfree] at hc;cases hc
 . obtain ⟨_,f1,_,f3,f4,f5⟩:=f b hb;exact ⟨f3,f1,f4,f5⟩
theorem Zll{pins:List (Addr×Obj)}{Z:St}{H3:Hp}{s3 s4:Shared}{C Dd it:Addr}{fp:List Addr}{tn:Nat->Heap->Prop}{J:It}{W:Nat->Nat->List V->Hp->Prop}{Q:VK}{m0:Nat}{post:Result->Shared->Prop}
   (hb:∀ (C:Addr) (s3:Shared) (H3:Hp) (fp:List Addr),PG (Zv X NC scope C s3 H3 fp) tg g/\PIf (Zv X NC scope C s3 H3 fp) ifs tc/\PE (Zv X NC scope C s3 H3 fp) elt te)
   (hk:Zju k g) (hjk:∀ j,j<k->js[j]? = some none) (hC:C=s3.heap.objs.size) (f3:∀ b∈fp,ZbT X pins H3 b) (fpl:∀ b∈fp,∃ o,s3.heap.get? b=some o) (I4:Inv (Zv X NC scope C s3 H3 fp) [] (capt js Z) H3 s4) (T:Turn X.prog X.w X.K tg J fp it tn) (st4:tn 0 s4.heap) (hD0:H3 Dd=some (.lst [])) (w0:W 0 m0 [] H3)
   (turn:∀ i m ys H,W i m ys H->H Dd=some (.lst ys)->(J.stop i H/\Q (.ref Dd) H)\/(J.go i H/\ys.length<sizeLine/\∀ x H',J.yld i H x H'->g x (capt js Z) H' fun σ2 H2=>tc σ2 H2 fun b H3 =>
     if b=true then te σ2 H3 fun y H4=>H4 Dd=some (.lst ys)/\∃ m',m'<m/\W (i+1) m' (ys++[y]) (upd H4 Dd (.lst (ys++[y]))) else H3 Dd=some (.lst ys)/\∃ m',m'<m/\W (i+1) m' ys H3))
   (stp:∀ s6 H5,Inv (Zv X NC scope C s3 H3 fp) [] (capt js Z) H5 s6->Q (.ref Dd) H5->post (.ok .next) s6) :
   codeAny (model X.prog X.w) X.A (.compLoop (.ListComp elt [⟨tg,iter,ifs,0⟩] scope pos) 0 (.ref it) (.ref Dd) (compEnvC scope (Zeb X.env scope.names []) C X.env)) post s4:=by
 have stat:∀ {H':Hp},(∀ b∈fp,H' b=none)->∀ b∈fp,ZbT (Zv X NC scope C s3 H3 fp) [] H' b:=fun hn b hb =>
   ⟨hn b hb,(by rw [hC];exact Ou (let ⟨o,e⟩:=fpl b hb;Heap.lt_size e)),fun hm=>I4.ok.exfs b hb hm,.inl hb,fun x c e=>(I4.ok.exf b hb).2 x c e,fun p hp=>absurd (show p∈([]:List (Addr×Obj)) from hp) (by simp)⟩
 refine Zim (fun n s'=>∃ i ys H',Inv (Zv X NC scope C s3 H3 fp) [] (capt js Z) H' s'/\tn i s'.heap/\(∀ b∈fp,H' b=none)/\H' Dd=some (.lst ys)/\W i n ys H') ?_ m0
   ⟨0,[],_,I4,st4,fun b hb=>(f3 b hb).1,hD0,w0⟩
 rintro n s5 ⟨i,ys,H5,I5,st5,fr5,hD5,w5⟩;rcases turn i n ys H5 w5 hD5 with ⟨stop,qn⟩|⟨go,hlen,step⟩
 . refine wpAny_mono (T.done (Zv X NC scope C s3 H3 fp) rfl rfl rfl rfl i [] s5 (capt js Z) H5 (fun _ _=>False) I5 (stat fr5) st5 stop) (fun r s6 ⟨hr,I6⟩=>?_) fun _ _ z=>z.elim;subst hr;exact stp s6 H5 I6 qn
 . refine wpAny_mono (T.item (Zv X NC scope C s3 H3 fp) rfl rfl rfl rfl i [] s5 (capt js Z) H5 (fun _ _=>False) I5 (stat fr5) st5 go) (fun r s6 ⟨u,hr,h6⟩=>?_) fun _ _ z=>z.elim;subst hr;refine wpAny_mono h6 (fun _ s7 ⟨x,H7,I7,r7,y7,st7,fr7⟩=>?_) fun _ _ z=>z.elim;have I7':=I7.pinned (stat fr7) (T.obj _ _ st7);obtain ⟨pg,pif,pe⟩:=hb C s3 H3 fp;refine wpAny_mono (pg _ s7 (capt js Z) H7 x u _ I7' r7 (hk _ _ _ _ (step x H7 y7))) (fun _ s8 ⟨σ8,H8,I8,q8,l8,k8⟩=>?_) fun _ _ z=>z.elim;have back:∀ {H9:Hp}{s9:Shared},Inv (Zv X NC scope C s3 H3 fp) ([]++Zfw fp s7.heap) σ8 H9 s9 ->
       Inv (Zv X NC scope C s3 H3 fp) [] (capt js Z) H9 s9/\tn (i+1) s9.heap/\∀ b∈fp,H9 b=none:=fun {H9 s9} I9=>by
     refine ⟨(I9.unpinned).weak l8.symm fun j v e=>?_,T.keep _ _ _ st7 fun b hb o e=>(I9.pin (b,o) (Ov _ (Ov _ (Zbz hb e)))).1,fun b hb=>?_⟩
     . by_cases hj:j<k
       . unfold capt at e;rw [On,hjk j hj] at e;cases e
       . rw [k8 j (Nat.le_of_not_lt hj)];exact e
     . obtain ⟨o,e,d⟩:=T.obj _ _ st7 b hb;exact (I9.pin (b,o) (Ov _ (Ov _ (Zbz hb e)))).2.1
   refine wpAny_mono (pif _ s8 σ8 H8 _ I8 q8) (fun ok s9 ⟨H9,I9,q9⟩=>?_) fun _ _ z=>z.elim;cases ok with
   | false =>
     rw [if_neg Ow] at q9 ⊢;obtain ⟨hD9,m',hm,w9⟩:=q9;obtain ⟨b1,b2,b3⟩:=back I9;exact ⟨m',hm,i+1,ys,H9,b1,b2,b3,hD9,w9⟩
   | true =>
     rw [if_pos rfl] at q9 ⊢;refine wpAny_mono (pe _ s9 σ8 H9 _ I9 q9) (fun y s10 ⟨v,H10,I10,r10,hD10,m',hm,w10⟩=>?_) fun _ _ z=>z.elim;refine wpAny_mono (ZgE (X:=Zv X NC scope C s3 H3 fp) _ s10 σ8 H10 (.ref Dd) [v] (.ref Dd) [y]
       (fun _ H11=>H11=upd H10 Dd (.lst (ys++[v]))) I10 rfl (.cons r10 .nil) ⟨_,ys,v,rfl,rfl,hD10,hlen,rfl⟩) (fun _ s11 ⟨_,H11,I11,_,e11⟩=>?_) fun _ _ z=>z.elim
     subst e11;obtain ⟨b1,b2,b3⟩:=back I11;exact ⟨m',hm,i+1,ys++[v],_,b1,b2,b3,Zg,w10⟩
theorem Zil{U:Option (Value->Sem Unit)}{Q0:Value->Shared->Prop}{Q:VK}{pins:List (Addr×Obj)}{Z:St}{H:Hp}{s:Shared}(S_:CompSc NC X.N js sc scope)(hsc:X.env.scope=sc)(hc:X.calm=true)(hi:PI X tg iter wi)
   (hb:∀ (C:Addr) (s3:Shared) (H3:Hp) (fp:List Addr),PG (Zv X NC scope C s3 H3 fp) tg g/\PIf (Zv X NC scope C s3 H3 fp) ifs tc/\PE (Zv X NC scope C s3 H3 fp) elt te)
   (hk:Zju k g) (hjk:∀ j,j<k->js[j]? = some none) (hs:∀ x,foldedSetIterable iter X.env x=pure x) (I:Inv X pins Z H s) (h:ZlJ wi js g tc te Z H Q)
   (stp:∀ C Dd (s3 s6:Shared) H3 H5 fp,C=s3.heap.objs.size->Inv X pins Z H3 s3->(∀ b∈fp,ZbT X pins H3 b)->Inv (Zv X NC scope C s3 H3 fp) [] (capt js Z) H5 s6->Q (.ref Dd) H5->compPost (model X.prog X.w) X.A X.xe U Q0 (.ref Dd) C (.ok .next) s6) :
   wpAny (model X.prog X.w) X.A (comprehension (.ListComp elt [⟨tg,iter,ifs,0⟩] scope pos) scope X.env posn (newList []) false (eval iter X.env) U) Q0 X.xe s:=by
 have hcells:∀ y∈scope.names,y.2=.free->∃ c,X.env.cells.lookup y.1=some c:=fun y hy hf=>I.ok.has y.1 (.inl (show X.env.scope.names.lookup y.1=some .cell by rw [hsc];exact S_.free y hy hf));refine wpAny_comprehension_free rfl hs (Zgd hcells) S_.kind S_.locs (thn (hi pins s Z H _ I h) fun xv s1 h1=>thn h1 fun itv s2 h2=>?_);obtain ⟨it,fp,tn,J,H2,e,I2,T,st2,f2,rest⟩:=h2;subst e;have hD:H2 s2.heap.objs.size=none:=I2.hok.fresh (Oq _);obtain ⟨W,⟨m0,w0⟩,turn⟩:=rest s2.heap.objs.size hD;refine wpAny_newObj_type (wpAny_newFunctionEnv S_.nocell (by intro y hy;simp at hy) (fun h4 hns hsb=>?_) S_.kind);have I3:Inv X pins Z (upd H2 s2.heap.objs.size (.lst [])) {s2 with heap:=s2.heap.push {cls:=.type "list",dict:=none,data:=.seq ([]:List Value).toArray}}:=I2.lnew (t':=s2.toks) (ys:=[]) (its:=[]) .nil (Nat.zero_le _);dsimp only at hns hsb ⊢;generalize hs3:({s2 with heap:=s2.heap.push {cls:=.type "list",dict:=none,data:=.seq ([]:List Value).toArray}}:Shared)=s3 at I3;have eh:s2.heap.push {cls:=.type "list",dict:=none,data:=.seq ([]:List Value).toArray}=s3.heap:=by rw [<- hs3]
 have eD:s2.heap.objs.size<s3.heap.objs.size:=by rw [<- eh,Heap.size_push];exact OH _
 rw [eh] at hns hsb;have keep:∀ b o,s3.heap.get? b=some o->h4.get? b=some o:=fun b o e=>(hsb.2 b (Ou (Heap.lt_size e))).trans (Od _ e);have fpl:∀ b∈fp,∃ o,s3.heap.get? b=some o:=fun b hb=>by
   obtain ⟨o,e,_⟩:=T.obj 0 _ st2 b hb;exact ⟨o,by rw [<- eh];exact Od _ e⟩
 have neD:∀ b∈fp,b≠s2.heap.objs.size:=fun b hb=>by
   obtain ⟨o,e,_⟩:=T.obj 0 _ st2 b hb;exact Ou (Heap.lt_size e)
 have f3:∀ b∈fp,ZbT X pins (upd H2 s2.heap.objs.size (.lst [])) b:=fun b hb=>⟨by rw [Zk (neD b hb)];exact (f2 b hb).1,(f2 b hb).2⟩
 have I4:=ZmM (tk:=s2.toks+([]:List (Str×Value)).length) S_ hsc hc I3 f3 fpl rfl hns keep;have st4:tn 0 h4:=T.keep 0 _ _ st2 fun b hb o e=>keep b o (by rw [<- eh];exact Od _ e);have eC:(s2.heap.push {cls:=.type "list",dict:=none,data:=.seq ([]:List Value).toArray}).objs.size=s3.heap.objs.size:=by rw [eh]
 have loop:∀ s4:Shared,s4={s3 with heap:=h4,toks:=s2.toks+([]:List (Str×Value)).length} ->
     codeAny (model X.prog X.w) X.A (.compLoop (.ListComp elt [⟨tg,iter,ifs,0⟩] scope pos) 0 (.ref it) (.ref s2.heap.objs.size) (compEnvC scope (Zeb X.env scope.names []) s3.heap.objs.size X.env))
       (compPost (model X.prog X.w) X.A X.xe U Q0 (.ref s2.heap.objs.size) s3.heap.objs.size) s4:=by
   rintro s4 rfl;exact Zll hb hk hjk rfl f3 fpl I4 T st4 Zg w0 turn fun s6 H5 I6 qn=>stp _ _ s3 s6 _ H5 fp rfl I3 f3 I6 qn
 have e4:({s2 with heap:=h4,toks:=s2.toks+([]:List (Str×Value)).length}:Shared)={s3 with heap:=h4,toks:=s2.toks+([]:List (Str×Value)).length}:=by rw [<- hs3]
 rw [eC];exact codeAny_compStart_list (loop _ e4) (T.self X.A 0 _ _ _ st4 (loop _ e4))
theorem Zok(S_:CompSc NC X.N js sc scope)(hsc:X.env.scope=sc)(hc:X.calm=true)(hi:PI X tg iter wi)
   (hb:∀ (C:Addr) (s3:Shared) (H3:Hp) (fp:List Addr),PG (Zv X NC scope C s3 H3 fp) tg g/\PIf (Zv X NC scope C s3 H3 fp) ifs tc/\PE (Zv X NC scope C s3 H3 fp) elt te)
   (hk:Zju k g) (hjk:∀ j,j<k->js[j]? = some none) (hs:∀ x,foldedSetIterable iter X.env x=pure x:=by intro _;rfl) :
   PE X (.ListComp elt [⟨tg,iter,ifs,0⟩] scope pos) (ZlJ wi js g tc te):=fun pins s Z H Q I h=>Zil S_ hsc hc hi hb hk hjk hs I h fun C Dd s3 s6 H3 H5 fp hC I3 f3 I6 qn=>by
     obtain ⟨m,hm,_⟩:=I6.loc;exact ⟨m,hm,fun h' hs'=>⟨.ref Dd,H5,I3.comp_out f3 hC I6 hs',rfl,qn⟩⟩
end
end L2
end
section
namespace L2
open PySem PySem.Spec PyProof.Rows
section
variable {X:Cx}
noncomputable def TyN(K:PySem.W.Frag)(x:V)(H:Hp)(t:String):Prop:=match x with
 | .int _=>t = "int"
 | .str _=>t = "str"
 | .bl _=>t = "bool"
 | .non=>t = "NoneType"
 | .ref p=>(t = "list" /\ ∃ xs,SqL K H p xs)\/(t = "tuple" /\ ∃ xs,SqT K H p xs)
 | _=>False
theorem Znc:Z6 X (.builtin "isinstance") (fun xs H Q=>∃ x t T b,xs=[x,.ty T]/\TyN X.K x H t/\PySem.W.kitOne X.K (.type t) (.type T)=some b/\Q (.bl b) H):=by
 intro pins s Z H xs us Q I r h;obtain ⟨x,t,T,b,rfl,ty,e,q⟩:=h;obtain ⟨u,w',rfl,rx,rT⟩:=vals2 r;obtain rfl:w'=Value.type T:=rT;have fin:∀ tk,EP X pins Z Q (.bool b) {s with toks:=tk}:=fun tk=>⟨.bl b,H,I.tok tk,rfl,q⟩
 cases x with
 | int i =>
   obtain ⟨tk,rfl⟩:=rx;obtain rfl:t = "int" := ty;exact PySem.W.kia_one PySem.W.kitx_int I.kIn trivial e (by intro z;cases z) fin
 | str i =>
   obtain ⟨tk,rfl⟩:=rx;obtain rfl:t = "str" := ty;exact PySem.W.kia_one PySem.W.kitx_str I.kIn trivial e (by intro z;cases z) fin
 | bl i =>
   obtain rfl:u=Value.bool i:=rx;obtain rfl:t = "bool" := ty;exact PySem.W.kia_one PySem.W.kitx_bool I.kIn trivial e (by intro z;cases z) fin
 | non =>
   obtain rfl:u=Value.none:=rx;obtain rfl:t = "NoneType" := ty;exact PySem.W.kia_one PySem.W.kitx_none I.kIn trivial e (by intro z;cases z) fin
 | ref p =>
   obtain rfl:u=Value.ref p:=rx;rcases ty with ⟨rfl,xs,hx⟩|⟨rfl,xs,hx⟩
   . obtain ⟨its,_,pl,_⟩:=I.list hx;exact PySem.W.kia_one PySem.W.kitx_list I.kIn pl.isList.typeIs e (by intro z;cases z) fin
   . obtain ⟨its,_,pl,_⟩:=I.tuple hx;exact PySem.W.kia_one PySem.W.kitx_tuple I.kIn pl.typeIs e (by intro z;cases z) fin
 | _=>exact (show False from ty).elim
theorem Zla{K:PySem.W.Frag}(h:PySem.W.kitOne [] (.type t) (.type T)=some b):PySem.W.kitOne K (.type t) (.type T)=some b:=h
theorem range_all(bs:List Bool):(List.range bs.length).all (fun i=>bs.getD i false)=bs.all id:=by
 rw [Bool.eq_iff_iff,OC,OC];constructor
 . intro h x hx;obtain ⟨i,hi,e⟩:=List.getElem_of_mem hx;have:=h i (List.mem_range.mpr hi);rw [List.getD_eq_getElem?_getD,Og hi] at this;subst e;exact this
 . intro h i hi;have hi':=List.mem_range.mp hi;rw [List.getD_eq_getElem?_getD,Og hi'];exact h _ (List.getElem_mem hi')
theorem Znd (hc:X.calm=true):Z6 X (.builtin "all") (fun xs H Q=>∃ (a:Addr) (bs:List Bool),xs=[.ref a]/\SqL X.K H a (bs.map V.bl)/\Q (.bl (bs.all id)) H):=by
 intro pins s Z H xs us Q I r h;obtain ⟨a,bs,rfl,hx,q⟩:=h;obtain ⟨u,rfl,rx⟩:=vals1 r;obtain rfl:u=Value.ref a:=rx;obtain ⟨its,rv,pl,hz⟩:=I.list hx;have hlt:a<s.heap.objs.size:=by obtain ⟨_,_,e,_⟩:=pl;exact Heap.lt_size e
 have hl:its.length=bs.length:=by have:=rv.length;rw [List.length_map] at this;exact this.symm
 refine call_all_walk (wpAny_pyIter_list pl.isList ?_);refine ⟨s.heap.objs.size,_,_,_,_,_,fun i=>bs.getD i false,rfl,Walks.list (A:=X.A.in1) (show X.A.in1.handled=none from I.ok.hd hc) s.heap.objs.size a (Ou hlt) its.toArray,⟨⟨_,Oj _ rfl,rfl,rfl⟩,pl.isList.push _⟩,?_,fun h' tk hk=>?_⟩
 . intro i v s' Q' E' hv hq;have hv':its[i]? = some v:=by simpa using hv
   have hi:i<bs.length:=by rw [<- hl];exact (Ob.mp hv').1
   have hb:(bs.map V.bl)[i]? = some (.bl bs[i]):=by rw [On,Og hi]<;>rfl
   obtain ⟨u',e',r'⟩:=rv.get hb;rw [hv'] at e';cases e';obtain rfl:v=Value.bool bs[i]:=r';refine wpAny_truthy_bool ?_;have e:bs.getD i false=bs[i]:=by rw [List.getD_eq_getElem?_getD,Og hi]<;>rfl
   rw [<- e];exact hq
 . refine ⟨.bl (bs.all id),H,I.kept fun b o e=>hk b o (fun z=>?_) (Od _ e),?_,q⟩
   . have:b=s.heap.objs.size:=by simpa using z
     subst this;exact absurd (Heap.lt_size e) (Nat.lt_irrefl _)
   . rw [<- range_all];show Value.bool ((List.range its.toArray.size).all _)=_;rw [Of,hl]
noncomputable def ZuE:V->Option Int->Option Int->Hp->VK->Prop:=fun x lo hi H Q=>∃ y,x=.str y/\y.length<=sizeLine/\Q (.str (StrLaws.sliceText y lo hi)) H
theorem Zqw:SlR X ZuE:=by
 intro pins s Z H x v vl vu lo hi sl Q I rx hs pl pu h;obtain ⟨y,rfl,hz,q⟩:=h;obtain ⟨t,rfl⟩:=rx;refine ⟨"str",_,F.slot_str_getitem.lookup,typeIs_str _ _ _,?_⟩;have go:∀ (l u:Option (Int×Tok)),vl=partValue l->vu=partValue u->lo=l.map (·.1)->hi=u.map (·.1)->wpAny (model X.prog X.w) X.A (getItem (.str y t) (.ref sl)) (EP X pins Z Q) X.xe s:=by
   rintro l u rfl rfl rfl rfl;refine wpAny_getItem_str_slice (l:=l) (u:=u) (st:=none) hs rfl ?_;refine post_val_or_str ⟨OE (Txt.slice_le y _ _) hz,fun t' k=>⟨.str _,H,I.tok k,⟨t',rfl⟩,q⟩⟩
 cases pl with
 | none =>
   cases pu with
   | none=>exact go none none rfl rfl rfl rfl
   | int j tj=>exact go none (some (j,tj)) rfl rfl rfl rfl
 | int i ti =>
   cases pu with
   | none=>exact go (some (i,ti)) none rfl rfl rfl rfl
   | int j tj=>exact go (some (i,ti)) (some (j,tj)) rfl rfl rfl rfl
theorem Zge:Z6 X (.type "int") (fun xs H Q=>∃ y n,xs=[.str y]/\PySem.intText? y=some n/\y.length<=640/\Q (.int n) H):=by
 intro pins s Z H xs us Q I r h;obtain ⟨y,n,rfl,e,hl,q⟩:=h;obtain ⟨u,rfl,t,rfl⟩:=vals1 r;exact PySem.W.KIN.call_text e hl ⟨.int n,H,I.tok _,⟨_,rfl⟩,q⟩
end
end L2
end
section
namespace L2
open PySem PySem.Spec PyProof.Rows
theorem Z5.there(x:Z5 P w H h a o):∃ ob,h.get? a=some ob:=by
 cases o with
 | lst xs=>obtain ⟨_,_,_,_,e⟩:=x;exact ⟨_,e⟩
 | tup xs=>obtain ⟨_,_,_,ob,e,_⟩:=x;exact ⟨_,e⟩
 | dK kvs=>obtain ⟨_,_,_,_,o,_,_,e,_⟩:=x;exact ⟨_,e⟩
 | dT kvs=>obtain ⟨_,_,_,_,o,_,_,e,_⟩:=x;exact ⟨_,e⟩
 | set S_ n=>obtain ⟨o,_,_,_,e,_⟩:=x;exact ⟨_,e⟩
 | ins C dx fs=>obtain ⟨_,_,_,e,_⟩:=x;exact ⟨_,e⟩
 | own y=>obtain ⟨_,e⟩:=x;exact ⟨_,e⟩
 | xd fs=>obtain ⟨_,⟨_,_,_,e,_⟩,_⟩:=x;exact ⟨_,e⟩
 | rng lo hi=>obtain ⟨_,_,_,e⟩:=x;exact ⟨_,e⟩
 | frz ob u=>obtain ⟨e,_⟩:=x;exact ⟨_,e⟩
 | tbl ps=>exact ⟨_,(show h.get? a=some _ from x)⟩
 | met f y=>exact ⟨_,(show h.get? a=some _ from x)⟩
 | ext φ=>obtain ⟨_,⟨_,e⟩,_⟩:=x;exact ⟨_,e⟩
noncomputable def Kept(fs:List Addr)(H':Hp)(h h1 B_:Heap):Prop:=∀ b o,h1.get? b=some o->(H' b≠none\/((∃ o',h.get? b=some o')/\b ∉ fs))->B_.get? b=some o
noncomputable def CXF(P:Program)(w:World):CXT:=fun outer H s E e s' =>
 ∃ (a:Addr) (cls a0:Value) (H':Hp) (B_:Heap),e=.ref a/\s'.os=s.os/\AllBare s'.gens/\Un (frs outer) [] H H' s.heap s'.heap/\HOk P w H' s'.heap /\
   Heap.FlyingW B_ outer a cls a0 s'.heap/\Kept (frs outer) H' s.heap s'.heap B_/\H' a=none/\E cls none H'
theorem ZfD(un:Un fs [] H H' h h1)(hok:HOk P w H' h1)(kb:Kept fs H' h h1 B_)(stay:B_.StaysIn h2)(up:h1.UpToSlots h2)
   (hf:∀ b∈fs,∃ o,h1.get? b=some o/\∀ vs,o.data≠.fields vs):Un fs [] H H' h h2/\HOk P w H' h2/\Kept fs H' h h2 B_:=by
 have tr:∀ b u,H' b=some u->∃ o,h1.get? b=some o/\h2.get? b=some o/\B_.get? b=some o:=fun b u e=>by
   obtain ⟨o,q⟩:=(hok b u e).there;have z:=kb b o q (.inl (by rw [e];simp));exact ⟨o,q,stay _ _ z,z⟩
 have old:∀ b o,h.get? b=some o->b ∉ fs->∃ o1,h1.get? b=some o1/\h2.get? b=some o1/\B_.get? b=some o1:=fun b o e hb=>by
   obtain ⟨o1,q⟩:=un.there b o e (by simp);have z:=kb b o1 q (.inr ⟨⟨o,e⟩,hb⟩);exact ⟨o1,q,stay _ _ z,z⟩
 refine ⟨⟨fun b o e n hb _=>?_,fun b o e n hb _=>?_,fun b o e n _=>un.free b o e n (by simp),fun b o e _=>?_,un.tups,un.frzs,un.tbls⟩,fun b u e=>?_,fun b o e hb=>?_⟩
 . obtain ⟨o1,q1,q2,_⟩:=old b o e hb;have z:=un.keep b o e n hb (by simp);rw [q1] at z;cases z;exact q2
 . obtain ⟨sl,z⟩:=un.slot b o e n hb (by simp);obtain ⟨o',z',nf⟩:=hf b hb;rw [z] at z';cases z';obtain ⟨sl',q⟩:=up b _ z nf;exact ⟨sl',q⟩
 . by_cases hb:b∈fs
   . obtain ⟨o',z',nf⟩:=hf b hb;obtain ⟨sl',q⟩:=up b _ z' nf;exact ⟨_,q⟩
   . obtain ⟨o1,_,q2,_⟩:=old b o e hb;exact ⟨_,q2⟩
 . refine (hok b u e).stay (fun c v hc q=>?_) (fun _ q=>q) fun _ _ q=>q;have hc':∃ u',H' c=some u':=by
     rcases hc with rfl|hc
     . exact ⟨u,e⟩
     . exact ⟨_,hc⟩
   obtain ⟨u',e'⟩:=hc';obtain ⟨o,q1,q2,_⟩:=tr c u' e';rw [q] at q1;cases q1;exact q2
 . rcases hb with hb|⟨⟨o',e'⟩,hb⟩
   . cases q:H' b with
     | none=>exact absurd q hb
     | some u =>
       obtain ⟨o1,q1,q2,q3⟩:=tr b u q;rw [e] at q2;cases q2;exact q3
   . obtain ⟨o1,q1,q2,q3⟩:=old b o' e' hb;rw [e] at q2;cases q2;exact q3
noncomputable def ZkE(X:Cx)(E:XK):Prop:=∀ (pins:List (Addr×Obj)) (Z:St) (H:Hp) (s:Shared) (h':Heap) (e:Addr) (cls:Value) (vs:List Value),Inv X pins Z H s->Heap.MadeExcOf s.heap h' e cls vs->E cls none H->X.xe (.ref e) {s with heap:=h'}
section
variable {P:Program}{w:World}{K:PySem.W.Frag}{mg:Str->Option Value}{base:Heap}{N:List Str}{qual:Str}{scope:Scope}{f:Addr}{cd:Value}{A:Around}{outer:List Env}{s0:Shared}{H0:Hp}{E:XK}
theorem Zl0:ZkE (Zjn (CXF P w) P w K mg base N qual scope f cd A outer s0 H0 E) E:=by
 intro pins Z H s h' e cls vs I hx hE;have hfr:(A.deeper (envOfC qual scope s0.heap.objs.size f cd)).frames=some (envOfC qual scope s0.heap.objs.size f cd::outer):=I.ok.frames;have hin:∀ env∈(envOfC qual scope s0.heap.objs.size f cd::outer),∀ b,env.frame=some b->b∈(envOfC qual scope s0.heap.objs.size f cd::outer).filterMap (·.frame):=fun env he b hb=>List.mem_filterMap.mpr ⟨env,he,hb⟩;have hst:s.heap.FunFrames base (envOfC qual scope s0.heap.objs.size f cd::outer):=I.stack;show wpAny (model P w) (A.deeper (envOfC qual scope s0.heap.objs.size f cd)) (leaving (envOfC qual scope s0.heap.objs.size f cd) (.ref e)) _ _ {s with heap:=h'};refine wpAny_leaves_madeW (s:={s with heap:=h'}) (base:=PySem.W.hideAll s.heap (frs (envOfC qual scope s0.heap.objs.size f cd::outer))) hfr rfl (fun b o q=>PySem.W.of_hideAll _ q) (PySem.W.funFrames_hide hst hin) hx fun h'' t x1 x2 x3 x4=>?_;have un:Un (frs outer) [] H0 H s0.heap h':=(I.base:Un (frs outer) [] H0 H s0.heap s.heap).trans (Un.kept hx.keeps);have hok:HOk P w H h':=I.hok.kept hx.keeps;have kb:Kept (frs outer) H s0.heap h' (PySem.W.hideAll s.heap (frs (envOfC qual scope s0.heap.objs.size f cd::outer))):=fun b o e1 hb=>by
   rcases hb with hb|⟨⟨o',e'⟩,hb⟩
   . cases q:H b with
     | none=>exact absurd q hb
     | some u =>
       obtain ⟨o1,q1⟩:=(I.hok b u q).there;have q2:=hx.keeps b o1 q1;rw [e1] at q2;cases q2;exact PySem.W.hideAll_get _ q1 fun hm=>by
         have z:H b=none:=I.stkFree b hm;rw [q] at z;cases z
   . obtain ⟨o1,q1⟩:=(I.base:Un (frs outer) [] H0 H s0.heap s.heap).there b o' e' (show b ∉ ([]:List Addr) from List.not_mem_nil);have q2:=hx.keeps b o1 q1;rw [e1] at q2;cases q2;refine PySem.W.hideAll_get _ q1 fun hm=>?_;have hm':b∈s0.heap.objs.size::frs outer:=I.stkSub b hm;rcases O2.mp hm' with z|z
     . rw [z] at e';exact absurd (Heap.lt_size e') (Nat.lt_irrefl _)
     . exact hb z
 have hfo:∀ b∈frs outer,∃ o,h'.get? b=some o/\∀ vs,o.data≠.fields vs:=fun b hb=>by
   obtain ⟨_,o,q,nf⟩:=I.funs.mem hb;exact ⟨o,hx.keeps _ _ q,nf⟩
 obtain ⟨r1,r2,r3⟩:=ZfD un hok kb x1.1 x4 hfo;refine ⟨e,cls,_,H,_,rfl,I.os,I.bare,r1,r2,x1,r3,?_,hE⟩;cases q:H e with
 | none=>rfl
 | some u =>
   obtain ⟨o1,q1⟩:=(I.hok e u q).there;rw [hx.new] at q1;cases q1
theorem Zon(h:∀ cls H',E1 cls none H'->E cls none H'):Za2 (CXF P w) (Zjn (CXF P w) P w K mg base N qual scope f cd A outer s0 H0 E) E1:=by
 intro pins Z H s e s' I hx;obtain ⟨a,cls,a0,H',B_,rfl,os,bare,un,hok,fl,kb,ha,hE⟩:=hx;have I':=I.call' (ch:=[]) os un hok bare (fun b z=>absurd z (by simp));have hfr:(A.deeper (envOfC qual scope s0.heap.objs.size f cd)).frames=some (envOfC qual scope s0.heap.objs.size f cd::outer):=I.ok.frames;show wpAny (model P w) (A.deeper (envOfC qual scope s0.heap.objs.size f cd)) (leaving (envOfC qual scope s0.heap.objs.size f cd) (.ref a)) _ _ s';refine wpAny_leaves_onW hfr rfl fl fun h'' x1 x4=>?_;have kb':Kept (frs outer) H' s0.heap s'.heap B_:=fun b o e1 hb=>by
   refine kb b o e1 ?_;rcases hb with hb|⟨⟨o',e'⟩,hb⟩
   . exact .inl hb
   . obtain ⟨o1,q1⟩:=(I.base:Un (frs outer) [] H0 H s0.heap s.heap).there b o' e' (show b ∉ ([]:List Addr) from List.not_mem_nil);refine .inr ⟨⟨o1,q1⟩,fun hm=>?_⟩;have hm':b∈s0.heap.objs.size::frs outer:=I.stkSub b hm;rcases O2.mp hm' with z|z
     . rw [z] at e';exact absurd (Heap.lt_size e') (Nat.lt_irrefl _)
     . exact hb z
 have hfo:∀ b∈frs outer,∃ o,s'.heap.get? b=some o/\∀ vs,o.data≠.fields vs:=fun b hb=>by
   obtain ⟨_,o,q,nf⟩:=I'.funs.mem hb;exact ⟨o,q,nf⟩
 obtain ⟨r1,r2,r3⟩:=ZfD (I'.base:Un (frs outer) [] H0 H' s0.heap s'.heap) hok kb' x1.1 x4 hfo;exact ⟨a,cls,a0,H',B_,rfl,I'.os,bare,r1,r2,x1,r3,ha,h _ _ hE⟩
end
theorem ZkV:Za2 (CXF P w) X E0:=fun _ _ _ _ _ _ _ h=>by
 obtain ⟨_,_,_,_,_,_,_,_,_,_,_,_,_,z⟩:=h;exact z.elim
end L2
end
section
namespace L2
open PySem PySem.Spec PyProof.Rows
structure ExcN(K:PySem.W.Frag)(C2:Addr):Prop where
 ty:PySem.W.typeIn K (.ref C2)=some (.type "type")
 cls:(PySem.W.clsIn K C2).isSome=true
 exc:PySem.W.subIn K (.ref C2) (.type "BaseException")=some true
end L2
end
section
namespace L2
open PySem PySem.Spec PyProof.Rows
noncomputable def Def(P:Program)(w:World)(K:PySem.W.Frag)(mg:Str->Option Value)(base:Heap)(k:Nat)(x:Str)(ps:List Str)(sp:Sp):Prop :=
 ∃ f fd,mg x=some (.ref f)/\PySem.W.keepIn K (.ref f)=true/\Binds K fd ps []/\FnOk P w K mg base (CXF P w) k f fd ps sp
section
variable {X:Cx}{k:Nat}{x:Str}{ps:List Str}{sp:Sp}{E:XK}{e:Expr}{es:List Expr}{t:TA}{p pos:Pos}
noncomputable def Zur(sp:Sp)(E:XK)(t:TA):TE:=fun Z H Q=>t Z H fun vs H1=>sp vs H1 Q E
theorem ZqZ(D:Def X.prog X.w X.K X.mg X.base k x ps sp)(hr:Room k X.A)(hg:Gl X x)(hx:Za2 (CXF X.prog X.w) X E)(ha:PA X (e::es) t)
   (hdb:(x==("__debug__" : Str))=false:=by decide) (he:starEach (e::es) X.env=(false,eval e X.env)::starEach es X.env:=by rfl) (hpl:(backTo pos (starEach es X.env)).any (·.1)=false:=by rfl) :
   PE X (.Call (.Name x p) (e::es) [] pos) (Zur sp E t):=by
 obtain ⟨f,fd,h1,h2,h3,h4⟩:=D;intro pins s Z H Q I h;refine Zol h4 hr hg h1 h2 h3 .nil hx ha hdb he hpl pins s Z H Q I ?_;have z:t Z H fun vs H1=>sp vs H1 Q E:=h;show t Z H fun vs H1=>sp (vs++[]) H1 Q E;simpa only [List.append_nil] using z
end
end L2
end
section
namespace L2
open PySem PySem.Spec PyProof.Rows
section
variable {X:Cx}{pins:List (Addr×Obj)}{Z:St}{H:Hp}{s:Shared}{h':Heap}
theorem Zkh{ch:List Addr}(hf:∀ b∈ch,ZbT X pins H b):∀ b∈ch,(b∈X.ex\/X.s₀.heap.objs.size<=b)/\b≠X.env.locals/\(∀ x c,X.env.cells.lookup x=some c->c≠b)/\∀ p∈X.pn++pins,p.1≠b:=fun b hb=>by
 obtain ⟨_,f1,_,f3,f4,f5⟩:=hf b hb;exact ⟨f3,f1,f4,f5⟩
theorem Inv.turnL{t':Nat}{ch:List Addr}(I:Inv X pins Z H s)(hf:∀ b∈ch,ZbT X pins H b)(k:∀ b o,b ∉ ch->s.heap.get? b=some o->h'.get? b=some o):Inv X pins Z H {s with heap:=h',toks:=t'}:=by
 have nit:∀ b u,H b=some u->b ∉ ch:=fun b u e z=>by rw [(hf b z).1] at e;cases e
 refine I.step (g':=s.gens) (d':=s.drawn) (ch:=ch) (Zkh hf) (fun b o _ _ hc e _=>k b o hc e) (fun b o _ _ hc e _=>⟨o.slots,k b o hc e⟩) (fun _ _ _ _ n=>n)
   (fun b o hc e=>⟨o,k b o hc e⟩) (fun _ _ e=>e) (fun _ _ _ e=>e) (fun b ps e=>⟨#[],by rw [e];simp⟩) (fun m hm=>?_) (fun b u e=>?_) I.bare
 . obtain ⟨o,es,ep,ho,r⟩:=hm;exact ⟨o,es,ep,k _ o (fun z=>(hf _ z).2.1 rfl) ho,r⟩
 . refine (I.hok b u e).stay (fun c v hc q=>k c v ?_ q) (fun _ q=>q) fun _ _ q=>q;rcases hc with z|z
   . rw [z];exact nit b u e
   . exact nit c _ z
theorem Inv.turnT{t':Nat}{ch:List Addr}{us:List Value}(I:Inv X pins Z H s)(hf:∀ b∈ch,ZbT X pins H b)(k:∀ b o,b ∉ ch->s.heap.get? b=some o->h'.get? b=some o)
   (hT:s.heap.objs.size<=T) (tup:Zax h' T us.toArray) (rv:Zi vs us) (hz:vs.length<=sizeLine):Inv X pins Z (upd H T (.tup vs)) {s with heap:=h',toks:=t'}:=by
 have nit:∀ b u,H b=some u->b ∉ ch:=fun b u e z=>by rw [(hf b z).1] at e;cases e
 have neT:∀ b o,s.heap.get? b=some o->b≠T:=fun b o e=>Ou (Ot (Heap.lt_size e) hT);have hTn:H T=none:=I.hok.fresh hT;refine I.step (g':=s.gens) (d':=s.drawn) (ch:=ch) (Zkh hf) (fun b o _ _ hc e _=>k b o hc e) (fun b o _ _ hc e _=>⟨o.slots,k b o hc e⟩) (fun b o _ e n=>by rw [Zk (neT b o e)];exact n)
   (fun b o hc e=>⟨o,k b o hc e⟩) (fun b xs e=>by rw [Zk (ZB e hTn)];exact e) (fun b o u e=>by rw [Zk (ZB e hTn)];exact e) (fun b ps e=>⟨#[],by rw [Zk (ZB e hTn),e];simp⟩) (fun m hm=>?_) (fun b u e=>?_) I.bare
 . obtain ⟨o,es,ep,ho,r⟩:=hm;exact ⟨o,es,ep,k _ o (fun z=>(hf _ z).2.1 rfl) ho,r⟩
 . by_cases hb:b=T
   . subst hb;rw [Zg] at e;cases e;exact ⟨hz,us,rv,tup⟩
   . rw [Zk hb] at e;refine (I.hok b u e).stay (fun c v hc q=>k c v ?_ q) (fun c q=>by rw [Zk (ZB q hTn)];exact q) fun c xs q=>by rw [Zk (ZB q hTn)];exact q
     rcases hc with z|z
     . rw [z];exact nit b u e
     . exact nit c _ z
end
noncomputable def Ite(K:PySem.W.Frag)(a:Addr):It :=
 ⟨fun i H=>∃ xs x,SqL K H a xs/\xs[i]? = some x,fun i H v H'=>∃ p,v=.ref p/\H p=none/\∃ x,(∀ xs,SqL K H a xs->xs[i]? = some x)/\H'=upd H p (.tup [.int i,x]),fun i H=>∃ xs,SqL K H a xs/\xs.length=i⟩
theorem ZkH{P:Program}{w:World}{K:PySem.W.Frag}{es:List Expr}{kk:Nat}{tp:Pos}(a it e:Addr)(hei:e≠it)(hae:a≠e)(hai:a≠it) :
   Turn P w K (.Tuple es kk tp) (Ite K a) [e,it] e (fun i h=>(∃ old,IsEnum h e it i old)/\h.IsListIter it a i) where
 mem:=by simp
 obj:=fun i h st b hb=>by
   obtain ⟨⟨old,he⟩,o,e1,c,d⟩:=st;rcases O2.mp hb with rfl|hb
   . exact ⟨_,he,fun v z=>by cases z⟩
   . have e2:b=it:=by simpa using hb
     subst e2;exact ⟨o,e1,fun v z=>by rw [d] at z;cases z⟩
 keep:=fun i h h' st k=>by
   obtain ⟨⟨old,he⟩,st⟩:=st;exact ⟨⟨old,k e (by simp) _ he⟩,st.at fun o z=>k it (by simp) o z⟩
 item:=by
   intro X hP hw hK hc i pins s Z H E I hf st hg;subst hP hw hK;obtain ⟨xs,x,hq,hx⟩:=hg;obtain ⟨its,rv,p,hz⟩:=I.list hq;have hl:=rv.length;have hi:i<xs.length:=(Ob.mp hx).1;have W:=WalksT.enumerate (prog:=X.prog) (w:=X.w) (I.ok.hd hc) e it a hei hae hai its.toArray;have itm:∀ (Q':Option Value->Shared->Prop) (E':Value->Shared->Prop),(∀ T vals h' tk,(∃ t x,its.toArray[i]? = some x/\vals=#[.int i t,x])->s.heap.objs.size<=T->Zax h' T vals ->
       ((∃ x,IsEnumOut h' e it ((i:Int)+1) x T)/\h'.IsListIter it a (i+1)/\h'.IsList a its.toArray/\T≠e/\T≠it)->(∀ b o,b ∉ [e,it]->s.heap.get? b=some o->h'.get? b=some o)->Q' (some (.ref T)) {s with heap:=h',toks:=tk}) ->
       wpAny (model X.prog X.w) X.A (pyNext (.ref e)) Q' E' s:=by
     intro Q' E' hQ;obtain ⟨⟨old,he⟩,hit⟩:=st;have hx2:its.toArray[i]? = some (its.toArray[i]'(by simp;lia)):=Array.getElem?_eq_getElem (by simp;lia);refine wpAny_pyNext_enum_item he hit p.isList hx2 hei fun h' ho hit' hT hsz hk=>?_;have e1:e<s.heap.objs.size:=Heap.lt_size he;have e2:it<s.heap.objs.size:=by obtain ⟨_,z,_⟩:=hit;exact Heap.lt_size z
     exact hQ s.heap.objs.size _ h' (s.toks+1) ⟨_,_,hx2,rfl⟩ (Oq _) ⟨_,hT,rfl,rfl,_,rfl⟩ ⟨⟨_,ho⟩,hit',p.isList.at fun o z=>hk a o hae hai z,Nat.ne_of_gt e1,Nat.ne_of_gt e2⟩
       fun b o hb z=>hk b o (fun e'=>hb (by simp [e'])) (fun e'=>hb (by simp [e'])) z
   refine itm _ _ fun T vals h1 tk hP hT tup mid kk=>?_;refine ⟨_,rfl,W.go _ _ _ i T {s with heap:=h1,toks:=tk} _ _ mid fun h2 st2 kk2=>?_⟩;obtain ⟨t,y,hy,rfl⟩:=hP;have hy':its[i]? = some y:=by simpa using hy
   obtain ⟨u,hu,ru⟩:=rv.get hx;rw [hy'] at hu;cases hu;have hTw:T ∉ [e,it]:=W.apart i T h1 mid;have tup2:Zax h2 T #[.int i t,y]:=by
     obtain ⟨o,q,r⟩:=tup;exact ⟨o,kk2 T o hTw q,r⟩
   have I2:Inv X pins Z (upd H T (.tup [.int i,x])) {s with heap:=h2,toks:=tk}:=I.turnT hf (fun b o hb q=>kk2 b o hb (kk b o hb q)) hT (us:=[.int i t,y]) tup2 (.cons ⟨t,rfl⟩ (.cons ru .nil)) (by show 2<=sizeLine;decide);refine ⟨.ref T,_,I2,rfl,⟨T,rfl,I.hok.fresh hT,x,fun ys hy=>by rw [I.list_inj hy hq];exact hx,rfl⟩,⟨st2.1,st2.2.1⟩,fun b hb=>?_⟩;have neb:b≠T:=fun z=>hTw (by rw [<- z];exact hb);rw [Zk neb];exact (hf b hb).1
 done:=by
   intro X hP hw hK hc i pins s Z H E I hf st hg;subst hP hw hK;obtain ⟨xs,hq,hx⟩:=hg;obtain ⟨its,rv,p,hz⟩:=I.list hq;have hl:=rv.length;have W:=WalksT.enumerate (prog:=X.prog) (w:=X.w) (I.ok.hd hc) e it a hei hae hai its.toArray;have e1:its.toArray.size=i:=by simp;lia
   refine W.done s _ _ ?_ fun h1 tk kk=>⟨rfl,I.turnL hf kk⟩
   rw [e1];exact ⟨st.1,st.2,p.isList⟩
 self:=fun A i s Q E st h=>by
   obtain ⟨⟨old,he⟩,_⟩:=st;exact wpAny_pyIter_enum he h
noncomputable def Ztw(K:PySem.W.Frag)(ta:TA):TI:=fun Z H R=>ta Z H fun vs H1=>∃ a,vs=[.ref a]/\(∃ xs,SqL K H1 a xs)/\R (Ite K a) H1
theorem Zof {X:Cx}{es:List Expr}{kk:Nat}{tp:Pos}{l:Expr}{ta:TA}{p pos:Pos} (hg:Gl X "enumerate") (hm:X.mg "enumerate" = none) (ha:PA X [l] ta) (hs:starEach [l] X.env=[(false,eval l X.env)]:=by rfl) :
   PI X (.Tuple es kk tp) (.Call (.Name "enumerate" p) [l] [] pos) (Ztw X.K ta):=by
 intro pins s Z H R I h;refine Call_ (Zc8 I hg hm boot_enumerate (PyProof.Rows.callWith_type1 (thn (ha pos pins s Z H _ I h) fun us s1 ⟨vs,H1,I1,r1,q1⟩=>?_) hs rfl));obtain ⟨a,rfl,⟨xs,hq⟩,q⟩:=q1;obtain ⟨u,rfl,ru⟩:=vals1 r1;obtain rfl:u=Value.ref a:=ru;obtain ⟨its,rv,pl,hz⟩:=I1.list hq;have hlt:a<s1.heap.objs.size:=by obtain ⟨_,_,e,_⟩:=pl;exact Heap.lt_size e
 refine call_enumerate_list pl.isList fun h' he hi hsz kk=>?_;refine wpAny_pyIter_enum he ?_;refine ⟨s1.heap.objs.size+1,[s1.heap.objs.size+1,s1.heap.objs.size],_,_,H1,rfl,I1.kept (t':=s1.toks) kk,ZkH a s1.heap.objs.size (s1.heap.objs.size+1) (Nat.succ_ne_self _) (Ou (Nat.lt_succ_of_lt hlt)) (Ou hlt),⟨⟨_,he⟩,hi⟩,fun b hb=>?_,q⟩;rcases O2.mp hb with rfl|hb
 . exact I1.fpOk (Nat.le_succ _) (I1.hok.fresh (Nat.le_succ _))
 . have e:b=s1.heap.objs.size:=by simpa using hb
   subst e;exact I1.fpOk (Oq _) (I1.hok.fresh (Oq _))
end L2
end
section
namespace L2
open PySem PySem.Spec PyProof.Rows PySem.Builtin PySem.Builtin.ObjectAttr PySem.Builtin.Getset_descriptor
structure ExcA(K:PySem.W.Frag)(D:Addr):Prop where
 ga:PySem.W.findIn K (.ref D) "__getattribute__" = some (some (.builtin "BaseException.__getattribute__"))
 ga2:PySem.W.findIn K (.ref D) "__getattr__" = some none
 cl:PySem.W.findIn K (.ref D) "__class__" = some (some (.builtin "object.__class__"))
 get:PySem.W.specialIn K (.builtin "object.__class__") "__get__" = some (some (.builtin "getset_descriptor.__get__"))
 takes:PySem.W.takesIn K (.builtin "object.__class__")=some true
 obj:PySem.W.mroIn K D (.type "object")=some true
 base:PySem.W.subIn K (.ref D) (.type "BaseException")=some true
 isc:(PySem.W.clsIn K D).isSome=true
end L2
end
section
namespace L2
open PySem PySem.Spec PyProof.Rows
theorem Zpi(h:PSs X b t)(r:t D Z H):∃ t,PSs X b t/\t D Z H:=⟨t,h,r⟩
theorem Zbm:RelV (.str x) (.str x t):=⟨t,rfl⟩
theorem Zbn:RelV (.int x) (.int x t):=⟨t,rfl⟩
theorem Zac:RelV (.ref a) (.ref a):=rfl
end L2
end
section
namespace L2
open PySem PySem.Spec PyProof.Rows
noncomputable def DkK(P:Program)(w:World)(K:PySem.W.Frag)(a:Addr)(kvs:List (Key×V)):Prop :=
 ∃ (o:Obj) (es:Array DictEntry) (ep:Nat) (vs:List (Key×Value)),K.lookup a=some o/\o.ExactDict/\o.data=.dict es ep/\KeysOf (ZF P w) es/\Pairs (ZF P w) es.toList vs/\(vs.map (·.1)).Nodup/\KV kvs vs/\kvs.length<=sizeLine/\(a==sysModules)=false
noncomputable def Dk(P:Program)(w:World)(K:PySem.W.Frag)(H:Hp)(a:Addr)(kvs:List (Key×V)):Prop:=Rd H a (.dK kvs)\/DkK P w K a kvs
section
variable {X:Cx}{pins:List (Addr×Obj)}{Z:St}{H:Hp}{s:Shared}{a:Addr}
theorem Inv.dk(I:Inv X pins Z H s)(h:Dk X.prog X.w X.K H a kvs):kvs.length<=sizeLine/\(a==sysModules)=false/\∃ vs,KV kvs vs/\s.heap.DictOf (ZF X.prog X.w) a vs:=by
 rcases h with h|⟨o,es,ep,vs,lk,ex,da,ks,ps,nd,kv,z,hm⟩
 . exact Zp2 I.hok h
 . exact ⟨z,hm,vs,kv,o,es,ep,I.kIn a o lk,ex,da,ks,ps,nd⟩
noncomputable def ZsI(P:Program)(w:World)(K:PySem.W.Frag)(neg:Bool):R2:=fun x y H Q=>∃ a kvs k,y=.ref a/\x=kV k/\Dk P w K H a kvs/\Q (.bl (if neg then !(Zdk kvs k).isSome else (Zdk kvs k).isSome)) H
theorem Zq6:OpR X (compareOp .In) (ZsI X.prog X.w X.K false):=by
 intro pins s Z H x y v u Q I rx ry h;obtain ⟨a,kvs,k,rfl,rfl,hd,q⟩:=h;cases ry;obtain ⟨z,hm,vs,rel,dd⟩:=I.dk hd;refine wpAny_in_of (Zh7 rx) hm dd.mapOf ?_;rw [<- (rel.val k).isSome_eq];exact ⟨.bl _,H,I.tok _,rfl,q⟩
theorem ZkW:OpR X (compareOp .NotIn) (ZsI X.prog X.w X.K true):=by
 intro pins s Z H x y v u Q I rx ry h;obtain ⟨a,kvs,k,rfl,rfl,hd,q⟩:=h;cases ry;obtain ⟨z,hm,vs,rel,dd⟩:=I.dk hd;refine wpAny_notIn_of (Zh7 rx) hm dd.mapOf ?_;rw [<- (rel.val k).isSome_eq];exact ⟨.bl _,H,I.tok _,rfl,q⟩
noncomputable def ZuK(P:Program)(w:World)(K:PySem.W.Frag):R2:=fun x y H Q=>∃ a kvs k v,x=.ref a/\y=kV k/\Dk P w K H a kvs/\Zdk kvs k=some v/\Q v H
theorem ZoW:IxR X (ZuK X.prog X.w X.K):=by
 intro value slice pins s Z H x y v u Q I rx ry h hs;obtain ⟨a,kvs,k,z,rfl,rfl,hd,hv,q⟩:=h;cases rx;obtain ⟨_,hm,vs,rel,dd⟩:=I.dk hd;obtain ⟨w',hw,rw'⟩:=ZdT.some_of (v:=z) (o:=valueAt vs k) (by rw [<- hv];exact rel.val k);exact subscriptTail_builtinR (x:=w') dd.typeIs PySem.F.slot_dict_getitem.lookup (wpAny_getItem_of (Zh7 ry) dd.mapOf hw ⟨rfl,z,H,I.tok _,rw',q⟩) hs
theorem ZtL(I:Inv X pins Z H s)(e:H a=some (.dK kvs))(l:kvs.length<sizeLine)(ry:RelV (kV k) u)(rv:RelV v r)
   (h:∀ s',Inv X pins Z (upd H a (.dK (putK kvs k v))) s'->Q () s'):wpAny (model X.prog X.w) A (setItem (.ref a) u r) Q E s:=by
 obtain ⟨z,hd,vs,rel,dd⟩:=Zp3 I.hok e;have hz:vs.length<=sizeLine:=by rw [<- rel.length];exact z
 have hl:(putK kvs k v).length<=sizeLine:=by have:=Zeu kvs k v;lia
 refine wpAny_setItem_pairs (hsz:=hz) (Zh7 ry) dd fun h' dd' hs=>h _ ?_;have he:∃ q,h'.get? a=some q:=let ⟨q,_,_,hq,_⟩:=dd';⟨q,hq⟩;exact Zkn I (by rw [e];exact True.intro) hs he (Zm6 hl hd (rel.put k rv) dd')
noncomputable def ZsB:ZpA:=fun o i v H Q=>∃ a kvs k,o=.ref a/\i=kV k/\H a=some (.dK kvs)/\kvs.length<sizeLine/\Q (upd H a (.dK (putK kvs k v)))
theorem set_dict:ZpB X ZsB:=by
 intro pins s Z H o i v ov iv u Q I ro ri rv h;obtain ⟨a,kvs,k,rfl,rfl,e,l,q⟩:=h;cases ro;exact ZtL I e l ri rv fun s' I'=>⟨_,I',q⟩
end
end L2
end
section
set_option tactic.hygienic false
namespace L2
open PySem PySem.Spec PyProof.Rows
section
variable {X:Cx}{elt tg iter:Expr}{ifs:List Expr}{scope sc:Scope}{pos:Pos}{NC:List Str}{js:List (Option Nat)}{k:Nat}{wi:TI}{g:TG}{tc:TT}{te:TE}
theorem ZiY(hN:X.N.Nodup)(hy:X.N[i0]? = some y)(hx:Loc X.env.scope y)(hf:X.fn y=true\/X.env.scope.names.lookup y=some .local)(S_:CompSc NC X.N js sc scope)(hsc:X.env.scope=sc)(hc:X.calm=true)(hi:PI X tg iter wi)
   (hb:∀ (C:Addr) (s3:Shared) (H3:Hp) (fp:List Addr),PG (Zv X NC scope C s3 H3 fp) tg g/\PIf (Zv X NC scope C s3 H3 fp) ifs tc/\PE (Zv X NC scope C s3 H3 fp) elt te)
   (hk:Zju k g) (hjk:∀ j,j<k->js[j]? = some none) (hs:∀ x,foldedSetIterable iter X.env x=pure x:=by intro _;rfl) (hsw:swapsWith (.ListComp elt [⟨tg,iter,ifs,0⟩] scope pos) (some (.Name y py)) spos.line X.env=pure true:=by rfl) :
   PS X (.Assign [.Name y py] (.ListComp elt [⟨tg,iter,ifs,0⟩] scope pos) spos) (ZiP (ZlJ wi js g tc te) (ZbK i0)):=by
 intro pins s Z H D0 I h;rw [exec_Assign_Name_used _ _ _ _ hsw];refine wpAny_bind (wpAny_standAt (wpAny_bind ?_));show wpAny _ X.A (do let _ <- comprehension (.ListComp elt [⟨tg,iter,ifs,0⟩] scope pos) scope X.env _ (newList []) false (eval iter X.env) (some (assign (.Name y py) X.env))) _ _ s;refine wpAny_bind (wpAny_mono (Zil (Q:=fun x H1=>ZbK i0 x Z H1 D0.nx) (Q0:=fun _ s'=>SP X pins D0 .next s') S_ hsc hc hi hb hk hjk hs I h fun C Dd s3 s6 H3 H5 fp hC I3 f3 I6 qn=>?_) (fun _ s' hq=>wpAny_pure (wpAny_pure hq)) fun _ _ e=>e);obtain ⟨m,hm,_⟩:=I6.loc;have Io:Inv X pins Z H5 s6:=I3.comp_out (h'':=s6.heap) f3 hC I6 ⟨rfl,fun _ _=>rfl⟩;have fC:ZbT X pins H5 C:=I3.fpOk (Nat.le_of_eq hC.symm) I6.free;show wpAny _ X.A (assign (.Name y py) X.env (.ref Dd)) _ _ _;refine wpAny_assign_Name (ZgB Io hN hy hx (v:=.ref Dd) rfl (fun s8 I8 ⟨a8,sb8,ha8⟩=>?_) hf);have ne8:C≠a8:=fun z=>by
   rcases ha8 with e|e
   . exact fC.2.1 (z.trans e)
   . exact fC.2.2.2.2.1 _ _ e z.symm
 refine ⟨m,hm.sameBut sb8 ne8,fun h' hs'=>?_⟩;exact ⟨_,H5,I8.turnL (t':=s8.toks) (ch:=[C]) (fun b hb=>by rw [Ox.mp hb];exact fC) (fun b o hb e=>(hs'.2 b (fun z=>hb (by rw [z];exact List.mem_singleton_self _))).trans e),qn⟩
end
end L2
end
section
namespace L2
open PySem PySem.Spec PyProof.Rows
mutual
inductive Dp(K:PySem.W.Frag)(H:Hp):V->PyData->Prop
 | non:Dp K H .non .none
 | bl (b:Bool):Dp K H (.bl b) (.bool b)
 | int (i:Int):Dp K H (.int i) (.int i)
 | str (x:Str) (ok:PyData.strOk x=true):Dp K H (.str x) (.str x)
 | lst {a:Addr}{xs:List V}{ds:List PyData}:SqL K H a xs->Dps K H xs ds->Dp K H (.ref a) (.list ds)
 | tup {a:Addr}{xs:List V}{ds:List PyData}:SqT K H a xs->Dps K H xs ds->Dp K H (.ref a) (.tuple ds)
inductive Dps(K:PySem.W.Frag)(H:Hp):List V->List PyData->Prop
 | nil:Dps K H [] []
 | cons {v:V}{vs:List V}{d:PyData}{ds:List PyData}:Dp K H v d->Dps K H vs ds->Dps K H (v::vs) (d::ds)
end
section
variable {K:PySem.W.Frag}{H H':Hp}
mutual
theorem Dp.lay:∀ {v:V}{d:PyData},Dp K H v d->d.canLay0=true
 | _,_,.non=>rfl
 | _,_,.bl b=>rfl
 | _,_,.int i=>rfl
 | _,_,.str x ok=>ok
 | _,_,.lst h r=>Dps.lay r
 | _,_,.tup h r=>Dps.lay r
theorem Dps.lay:∀ {v:List V}{d:List PyData},Dps K H v d->PyData.canLayAll0 d=true
 | _,_,.nil=>rfl
 | _,_,.cons h r=>by rw [PyData.canLayAll0,Dp.lay h,Dps.lay r];rfl
end
end
section
variable {X:Cx}{pins:List (Addr×Obj)}{Z:St}{H:Hp}{s:Shared}
mutual
theorem Inv.reads(I:Inv X pins Z H s):∀ {v:V}{d:PyData}{u:Value},Dp X.K H v d->RelV v u->∃ as,Reads s.heap u d as
 | _,_,_,.non,r=>by cases r;exact ⟨_,.none⟩
 | _,_,_,.bl b,r=>by cases r;exact ⟨_,.bool b⟩
 | _,_,_,.int i,r=>by obtain ⟨t,rfl⟩:=r;exact ⟨_,.int i t⟩
 | _,_,_,.str x ok,r=>by obtain ⟨t,rfl⟩:=r;exact ⟨_,.str x t⟩
 | _,_,_,.lst h rs,r=>by
   cases r;obtain ⟨its,rv,⟨o,n,e,c,_,dd⟩,_⟩:=I.list h;obtain ⟨as,q⟩:=Inv.readsAll I rs rv;exact ⟨_,.list e c dd (by simpa using q)⟩
 | _,_,_,.tup h rs,r=>by
   cases r;obtain ⟨its,rv,⟨o,e,c,n,dd⟩,_⟩:=I.tuple h;obtain ⟨as,q⟩:=Inv.readsAll I rs rv;exact ⟨_,.tuple e c dd (by simpa using q)⟩
theorem Inv.readsAll(I:Inv X pins Z H s):∀ {v:List V}{d:List PyData}{u:List Value},Dps X.K H v d->Zi v u->∃ as,ReadsAll s.heap u d as
 | _,_,_,.nil,r=>by cases r;exact ⟨_,.nil⟩
 | _,_,_,.cons h rs,r=>by
   cases r with
   | cons r1 r2 =>
     obtain ⟨as,q⟩:=Inv.reads I h r1;obtain ⟨bs,q2⟩:=Inv.readsAll I rs r2;exact ⟨_,.cons q q2⟩
end
end
end L2
end
section
set_option tactic.hygienic false
namespace L2
open PySem PySem.Spec PyProof.Rows
namespace Rv
theorem own:Manifest.owners.lookup (String.ofList ['d','e','s','r','e','v','e','r'].reverse)=some Manifest.sig_reversed:=by kernel_rfl
theorem next:Slot "reversed" "__next__" "reversed.__next__" :=
 .of (owner := "reversed") (n := "__next__") (by rw [typeLookup_type,builtinLookup_eq_fast]<;>kernel_rfl) (by decide +kernel) (by decide +kernel) (by decide +kernel) (by first|exact .inl (by decide +kernel)|exact .inr (by decide +kernel)) (by rw [isSubtype_type]<;>kernel_rfl)
theorem Zp1:entryFor table "reversed.__next__" = some Builtin.«reversed.__next__»:=entryFor_of_tree (by kernel_rfl)
theorem Zqc (a:Value):argsOk "reversed.__next__" ⟨[a],[]⟩:=by
 unfold argsOk;rw [signature?_of (id := "reversed.__next__") (n:=['_','_','t','x','e','n','_','_']) (o:=['d','e','s','r','e','v','e','r']) (by kernel_rfl) own];kernel_rfl
theorem iter:Slot "reversed" "__iter__" "reversed.__iter__" :=
 .of (owner := "reversed") (n := "__iter__") (by rw [typeLookup_type,builtinLookup_eq_fast]<;>kernel_rfl) (by decide +kernel) (by decide +kernel) (by decide +kernel) (by first|exact .inl (by decide +kernel)|exact .inr (by decide +kernel)) (by rw [isSubtype_type]<;>kernel_rfl)
theorem ZtX (a:Value):argsOk "reversed.__iter__" ⟨[a],[]⟩:=by
 unfold argsOk;rw [signature?_of (id := "reversed.__iter__") (n:=['_','_','r','e','t','i','_','_']) (o:=['d','e','s','r','e','v','e','r']) (by kernel_rfl) own];kernel_rfl
theorem ZtH:entryFor table "reversed.__iter__" = some Builtin.«dict_keyiterator.__iter__» :=
 entryFor_alias (id' := "dict_keyiterator.__iter__") (by kernel_rfl) (by first|rfl|decide +kernel|(unfold String.splitOn;simp +decide [String.splitOnAux])) (by decide +kernel) (by kernel_rfl)
theorem Zs8:typeLookup (.type "tuple") "__reversed__" = pure none:=by rw [typeLookup_type,builtinLookup_eq_fast]<;>kernel_rfl
theorem ZnI:isSubtype (.type "reversed") (.type "reversed")=pure true:=by rw [isSubtype_type]<;>kernel_rfl
theorem init:Slot "reversed" "__init__" "object.__init__" :=
 .of (owner := "object") (n := "__init__") (by rw [typeLookup_type,builtinLookup_eq_fast]<;>kernel_rfl) (by decide +kernel) (by decide +kernel) (by decide +kernel) (by first|exact .inl (by decide +kernel)|exact .inr (by decide +kernel)) (by rw [isSubtype_type]<;>kernel_rfl)
theorem called:TypeCalled "reversed" "reversed.__new__" "object.__init__" := ⟨by decide +kernel,F.create_reversed,⟨_,_,F.mro_reversed⟩,F.made_reversed,by decide +kernel,ZnI,init⟩
noncomputable def obj (l:Addr) (i:Int):Obj:={cls:=.type "reversed",data:=.fields #[.ref l,rawInt i]}
noncomputable def Is (h:Heap) (a l:Addr) (i:Int):Prop:=∃ o,h.get? a=some o/\o.cls=.type "reversed" /\ o.data=.fields #[.ref l,rawInt i]
section
variable {prog:Program}{w:World}{A:Around}{E:Value->Shared->Prop}{s:Shared}
theorem Is.typeIs (x:Is s.heap a l i):s.TypeIs (.ref a) "reversed" := let ⟨o,ho,hc,_⟩:=x;⟨o,ho,hc⟩
theorem Is.at(x:Is h a l i)(e:∀ o,h.get? a=some o->h'.get? a=some o):Is h' a l i:=let ⟨o,ho,r⟩:=x;⟨o,e _ ho,r⟩
theorem new(hl:IsTup s.heap l items)(hz:items.size<=sizeLine)
   (h:Q (.ref s.heap.objs.size) {s with heap:=s.heap.push (obj l ((items.size:Int) - 1)),toks:=s.toks+1+1}) :
   codeAny (model prog w) A (.call (.builtin "reversed.__new__") ⟨[.type "reversed",.ref l],[]⟩) (wants Q E) s:=by
 have hfit:(items.size:Int)<2 ^ 63:=by have:=ZbA;lia
 refine codeAny_of_tree ?_;show wpAny _ A.in1 (do checkBuiltinCall "reversed.__new__" ⟨[.type "reversed",.ref l],[]⟩;again (.builtin "reversed.__new__" ⟨[.type "reversed",.ref l],[]⟩)) _ _ s;refine wpAny_bind (wpAny_of_eq (F.newCall_reversed_1 _) (wpAny_pure ⟨plainId_quiet F.plain_reversed_new _,codeAny_builtin F.entry_reversed_new ?_⟩));rw [Around.under_plainId F.plain_reversed_new _];unfold Builtin.«reversed.__new__»;refine wpAny_bind (wpAny_of_eq (newClass_reversed _) ?_)
 try dsimp only
 refine wpAny_bind (wpAny_of_eq (a:=()) (by first|rfl|kernel_rfl) (wpAny_bind (wpAny_of_eq (a:=()) (by first|rfl|kernel_rfl) ?_)))
 try dsimp only
 refine wpAny_bind (wpAny_specialOf hl.typeIs Zs8 ?_)
 try dsimp only
 refine wpAny_bind ?_;show wpAny _ _ (isInstance (.ref l) (.type "dict") >>= fun b=>_) _ _ s;refine wpAny_bind (wpAny_isInstance hl.typeIs F.sub_tuple_dict ?_);show wpAny _ _ (specialOf (.ref l) "__getitem__" >>= fun b=>_) _ _ s;refine wpAny_bind (wpAny_specialOf hl.typeIs slot_tuple_getitem.lookup ?_);refine wpAny_of_eq (a:=true) (by rfl) ?_;show wpAny _ _ (call (.builtin "len") [.ref l] >>= fun b=>_) _ _ s;refine wpAny_bind (len_tuple hl hfit ?_);show wpAny _ _ (asInt? (.int _ _) >>= fun b=>_) _ _ _;refine wpAny_bind (wpAny_pure ?_);show wpAny _ _ (newObj (.type "reversed") (.fields #[.ref l,rawInt ((items.size:Int) - 1)]) >>= fun b=>_) _ _ _;exact wpAny_bind (wpAny_newObj_type (wpAny_pure h))
theorem call(hl:IsTup s.heap l items)(hz:items.size<=sizeLine)
   (h:Q (.ref s.heap.objs.size) {s with heap:=s.heap.push (obj l ((items.size:Int) - 1)),toks:=s.toks+1+1}):wpAny (model prog w) A (PySem.call (.type "reversed") [.ref l]) Q E s:=by
 refine callType_codes called (F.typeCall_reversed_1 _) F.entry_object_init (new (Q:=fun o s1=>o=.ref s.heap.objs.size/\s1={s with heap:=s.heap.push (obj l ((items.size:Int) - 1)),toks:=s.toks+1+1}) hl hz ⟨rfl,rfl⟩) ?_;rintro _ _ ⟨rfl,rfl⟩;have hT:Shared.TypeIs {s with heap:=s.heap.push (obj l ((items.size:Int) - 1)),toks:=s.toks+1+1} (.ref s.heap.objs.size) "reversed" := ⟨_,Oj _ rfl,rfl⟩
 refine ⟨hT,F.args_object_init_2 _ _,?_⟩;exact object_init_meets init.lookup F.made_reversed (by decide) prog w _ _ _ ⟨hT,rfl,h⟩
theorem next_item{it l:Addr}{i:Nat}{Q:Option Value->Shared->Prop}(hit:Is s.heap it l (i:Int))(hl:IsTup s.heap l items)(hz:items.size<=sizeLine)(hx:items[i]? = some x)
   (hQ:∀ h' t',Is h' it l ((i:Int) - 1)->Heap.SameBut it s.heap h'->Q (some x) {s with heap:=h',toks:=t'}):wpAny (model prog w) A (pyNext (.ref it)) Q E s:=by
 obtain ⟨o,ho,hc,hd⟩:=id hit;have hi:i<items.size:=by
   have:=(Array.getElem?_eq_some_iff.mp hx).1;exact this
 have l63:=ZbA;unfold pyNext;refine wpAny_bind (wpAny_attempt (wpAny_callSpecial?_slot (name:=O "__next__") hit.typeIs next (wpAny_call_entry next hit.typeIs Zp1 ?_ (Zqc _))));unfold Builtin.«reversed.__next__»;refine wpAny_bind (wpAny_of_eq (a:=(Value.ref it,[])) rfl ?_)
 try dsimp only
 refine wpAny_bind (wpAny_field ho hd (x:=.ref l) rfl (wpAny_bind (wpAny_field ho hd (x:=rawInt (i:Int)) rfl ?_)));show wpAny _ _ (if (i:Int)<0 then _ else _) _ _ s;rw [if_neg (by lia)];show wpAny _ _ (specialOf (.ref l) "__getitem__" >>= fun b=>_) _ _ s;refine wpAny_bind (wpAny_specialOf hl.typeIs slot_tuple_getitem.lookup ?_);show wpAny _ _ (mkInt (i:Int) >>= fun b=>_) _ _ s;refine wpAny_bind (wpAny_mkInt ?_);refine wpAny_bind (wpAny_attempt (getItem_tuple (s:={s with toks:=s.toks+1}) (j:=i) (x:=x) hl (by lia) (by lia) (seqIndex_of (by lia) (by lia)) hx ?_));show wpAny _ _ (field (.ref it) 1 >>= fun b=>_) _ _ _;refine wpAny_bind (wpAny_field ho hd (x:=rawInt (i:Int)) rfl ?_);show wpAny _ _ (setField (.ref it) 1 (rawInt ((i:Int) - 1)) >>= fun b=>_) _ _ _;refine wpAny_bind (wpAny_setField ho hd (by simp) ?_);refine wpAny_pure ⟨x,rfl,wpAny_pure (hQ _ _ ?_ (Heap.SameBut.update ..))⟩;exact ⟨_,Heap.get?_update_self _ ho (Obj.isFreed_of_fields (Obj.data_mapFields hd _)),(Obj.cls_mapFields ..).trans hc,by rw [Obj.data_mapFields hd]<;>simp⟩
theorem next_end(hh:A.handled=none)(hit:Is s.heap it l (-1))(hQ:∀ h',Heap.ExtBut it s.heap h'->Q none {s with heap:=h'}):wpAny (model prog w) A (pyNext (.ref it)) Q E s:=by
 obtain ⟨o,ho,hc,hd⟩:=id hit;unfold pyNext;refine wpAny_bind (wpAny_attempt (wpAny_callSpecial?_slot (name:=O "__next__") hit.typeIs next (wpAny_call_entry next hit.typeIs Zp1 ?_ (Zqc _))));unfold Builtin.«reversed.__next__»;refine wpAny_bind (wpAny_of_eq (a:=(Value.ref it,[])) rfl ?_)
 try dsimp only
 refine wpAny_bind (wpAny_field ho hd (x:=.ref l) rfl (wpAny_bind (wpAny_field ho hd (x:=rawInt (-1)) rfl ?_)));show wpAny _ _ (if (-1:Int)<0 then _ else _) _ _ s;rw [if_pos (by decide)];refine wpAny_bind (wpAny_rule ?_);show wpAny _ _ ((setField (.ref it) 1 (rawInt (-1)) >>= fun _=>setField (.ref it) 0 .none) >>= fun b=>_) _ _ _;have e1:=Heap.get?_update_self (Obj.mapFields (·.setIfInBounds 1 (rawInt (-1)))) ho (Obj.isFreed_of_fields (Obj.data_mapFields hd _));refine wpAny_bind (wpAny_bind (wpAny_setField ho hd (by simp) (wpAny_setField e1 (Obj.data_mapFields hd _) (by simp) ?_)));refine wpAny_bind ?_;show wpAny _ _ (newExc (.type "StopIteration") [] >>= fun b=>_) _ _ _;refine wpAny_bind ?_;simp only [newExc,newTuple];refine wpAny_bind (wpAny_newObj_type ?_ (by size_fits));refine wpAny_bind (m:=firstArgMember _ _) (wpAny_of_eq (a:=Value.none) (by first|rfl|(simp only [firstArgMember]<;>rfl)) (wpAny_newObj_type ?_ (by size_fits)));simp only [raiseNew];refine wpAny_bind (wpAny_handled ?_);rw [show A.in1.handled=none from hh];refine wpAny_bind (wpAny_pure (wpAny_throw ?_));refine wpAny_bind (wpAny_isInstance (T := "StopIteration") (b:=true) ⟨_,Oj _ rfl,rfl⟩ isSubtype_stop (wpAny_pure (hQ _ ?_)));exact ((((Heap.ExtBut.refl _ _).trans (Heap.SameBut.update ..).extBut).trans (Heap.SameBut.update ..).extBut).push _).push _
theorem ZgK(hit:Is s.heap it l i)(h:Q (.ref it) s):wpAny (model prog w) A (pyIter (.ref it)) Q E s:=by
 refine wpAny_pyIter_slot hit.typeIs iter (wpAny_call_entry iter hit.typeIs ZtH ?_ (ZtX _));exact wpAny_pure ⟨_,rfl, "reversed",_,hit.typeIs,next.lookup,h⟩
end
end Rv
noncomputable def Itv(K:PySem.W.Frag)(a:Addr)(n:Nat):It :=
 ⟨fun i H=>∃ xs x,SqT K H a xs/\xs.length=n/\xs.reverse[i]? = some x,fun i H x H'=>H'=H/\∀ xs,SqT K H a xs->xs.reverse[i]? = some x,fun i H=>∃ xs,SqT K H a xs/\xs.length=n/\n=i⟩
theorem ZlE{P:Program}{w:World}{K:PySem.W.Frag}{tg:Expr}(a it:Addr)(n:Nat):Turn P w K tg (Itv K a n) [it] it (fun i h=>i<=n/\Rv.Is h it a ((n:Int) - 1 - i)) where
 mem:=by simp
 obj:=fun i h st b hb=>by
   have e:b=it:=by simpa using hb
   subst e;obtain ⟨_,o,e,c,d⟩:=st;exact ⟨o,e,fun v z=>by rw [d] at z;cases z⟩
 keep:=fun i h h' st k=>⟨st.1,st.2.at fun o e=>k it (by simp) o e⟩
 item:=by
   intro X hP hw hK hc i pins s Z H E I hf st hg;subst hP hw hK;obtain ⟨hin,st⟩:=st;obtain ⟨xs,x,hq,hxn,hx⟩:=hg;obtain ⟨its,rv,p,hz⟩:=I.tuple hq;have hl:=rv.length;have hi:i<xs.length:=by
     have:=(Ob.mp hx).1;simpa using this
   have hx':xs[n - 1 - i]? = some x:=by
     rw [List.getElem?_reverse hi] at hx;rw [<- hxn];exact hx
   obtain ⟨u,hu,ru⟩:=rv.get hx';obtain ⟨f0,f1,f2,f3,f4,f5⟩:=hf it (by simp);have e1:(n:Int) - 1 - (i:Nat)=((n - 1 - i:Nat):Int):=by lia
   rw [e1] at st;refine Rv.next_item st p (by simp;lia) (x:=u) (by simpa using hu) fun h' t' st' sb=>?_;have I1:Inv X pins Z H {s with heap:=h',toks:=t'}:=I.turned (t':=t') (fun b o hb e=>(sb.2 b hb).trans e) f0 f1 f3 f4 f5;obtain ⟨o,e,c,d⟩:=id st';have e2:((n - 1 - i:Nat):Int) - 1=(n:Int) - 1 - ((i+1:Nat):Int):=by lia
   refine ⟨u,rfl,Zie (s:={s with heap:=h',toks:=t'}) e c d (by decide) ⟨x,H,I1,ru,⟨rfl,fun ys hy=>by rw [I.tuple_inj hy hq];exact hx⟩,⟨by lia,by rw [<- e2];exact st'⟩,fun b hb=>(hf b hb).1⟩⟩
 done:=by
   intro X hP hw hK hc i pins s Z H E I hf st hg;subst hP hw hK;obtain ⟨xs,hq,hxn,hx⟩:=hg;obtain ⟨f0,f1,f2,f3,f4,f5⟩:=hf it (by simp);have st1:=st.2;rw [show (n:Int) - 1 - (i:Nat)=-1 by lia] at st1;exact Rv.next_end (I.ok.hd hc) st1 fun h' eb=>⟨rfl,I.turned (t':=s.toks) (fun b o hb e=>eb b o hb e) f0 f1 f3 f4 f5⟩
 self:=fun _ _ _ _ _ st h=>Rv.ZgK st.2 h
end L2
end
section
set_option tactic.hygienic false
namespace L2
open PySem PySem.Spec PyProof.Rows
theorem ZdU:∀ {vs:List Value}{ss:List Str},StrsAre vs ss->Zi (ss.map V.str) vs
 | _,_,.nil=>.nil
 | _,_,.cons y t h=>.cons ⟨t,rfl⟩ (ZdU h)
section
variable {prog:Program}{w:World}{A:Around}{E:Value->Shared->Prop}{s:Shared}
theorem ZiQ
   (hcol:∀ R:List Value->Shared->Prop,(∀ (h':Heap) (tk:Nat) (vs:List Value),s.heap.objs.size<=h'.objs.size->(∀ b o,s.heap.get? b=some o->h'.get? b=some o)->StrsAre vs ss->R vs {s with heap:=h',toks:=tk})->wpAny (model prog w) A.in1 (collect (.ref r)) R E s)
   (h64:ss.length<64)
   (h:∀ (D:Addr) (h':Heap) (tk:Nat) (out:List Value) (ss':List Str) (n:Nat),(∀ b o,s.heap.get? b=some o->h'.get? b=some o)->s.heap.objs.size<=D->h'.get? D=some {cls:=.type "list",data:=.seq out.toArray n}->StrsAre out ss'->ss'.Perm ss->sortedS ss'=true ->
     Q (.ref D) {s with heap:=h',toks:=tk}):wpAny (model prog w) A (call (.builtin "sorted") [.ref r]) Q E s:=by
 refine Calls.call_function_entry kind_sorted plain_sorted entry_sorted (args_sorted1 _) ?_;unfold Builtin.«sorted»;refine wpAny_bind (m:=checkCount "sorted" 1 1 _) (wpAny_pure (wpAny_bind (hcol _ fun h' tk vs hsz hk hS=>?_)));have hlen:vs.length=ss.length:=by
   have:=(ZdU hS).length;simpa using this.symm
 have hz:vs.length<=sizeLine:=by rw [sizeLine_eq];lia
 refine wpAny_bind (wpAny_newList ?_ hz);have hoL:(h'.push (seqObj "list" vs.toArray 0)).get? h'.objs.size=some (seqObj "list" vs.toArray 0):=Oj _ rfl;refine wpAny_bind (wpAny_holding (wpAny_call_entry slot_list_sort ⟨_,hoL,rfl⟩ entry_list_sort (list_sort_treeK strKind_oneLt hoL hS.keysOf (fun v₁ v₂ rest e=>keyKind_strs (by rw [<- e];exact hS)) (by lia) fun st' a1 a2=>⟨_,rfl,?_⟩) (args_list_sort _)));refine wpAny_pure ⟨_,rfl,?_⟩;obtain ⟨ss',h1,h2,h3⟩:=sorted_out_str hS a1 a2;obtain ⟨e,he⟩:=sortedHeap_at (out:=(arrOf st').map (·.2)) hoL;have e2:((arrOf st').map (·.2))=((arrOf st').map (·.2)).toList.toArray:=Array.toArray_toList.symm;refine h h'.objs.size _ tk ((arrOf st').map (·.2)).toList ss' e (fun b o q=>?_) hsz (by rw [<- e2];exact he) h1 h2 h3;have q':=hk b o q;have hlt:=Heap.lt_size q';rw [sortedHeap_old (Ou hlt) (by rw [size_push'];exact Nat.lt_succ_of_lt hlt)];exact Od _ q'
theorem Zin(K:PySem.W.KdlSrc prog w T r d n P OK)(hh:A.handled=none)(hok:OK s.heap)(hn:n<=sizeLine)
   (h:∀ (h':Heap) (tk:Nat) (acc:Array Value),s.heap.objs.size<=h'.objs.size->(∀ b o,s.heap.get? b=some o->h'.get? b=some o)->ItemsOf P acc n->R acc.toList {s with heap:=h',toks:=tk}) :
   wpAny (model prog w) A (collect (.ref r)) R E s:=by
 have lt:=K.there _ hok;unfold collect;refine wpAny_bind (wpAny_runValue (codeAny_builtin entry_proto_collect' ?_));rw [Around.under_plainId PySem.F.plain_proto_collect _];show wpAny _ A.in1 (newList [] >>= fun x=>again (.builtin "list.__iadd__" ⟨[x,.ref r],[]⟩)) _ _ s;refine wpAny_bind (wpAny_newObj_type (wpAny_pure ⟨plainId_quiet PySem.F.plain_list_iadd _,codeAny_builtin entry_list_iadd' ?_⟩));rw [Around.under_plainId PySem.F.plain_list_iadd _];have e0:(s.heap.push {cls:=.type "list",data:=.seq ([]:List Value).toArray}).get? s.heap.objs.size=some {cls:=.type "list",data:=.seq #[]}:=Oj _ rfl;show wpAny _ A.in1 (Builtin.List.listExtendWith (.ref s.heap.objs.size) (.ref r) (.ref s.heap.objs.size)) _ _ _;have key:=PySem.W.kdl_extend (A:=A) (s:={s with heap:=s.heap.push {cls:=.type "list",data:=.seq ([]:List Value).toArray}})
   (R:=fun (q:Result) (s':Shared)=>∃ (h':Heap) (tk:Nat) (acc:Array Value) (c:Nat),q=.ok (.ret (.ref s.heap.objs.size))/\s'={s with heap:=h',toks:=tk}/\(∀ b o,s.heap.get? b=some o->h'.get? b=some o)/\h'.get? s.heap.objs.size=some {cls:=.type "list",dict:=none,data:=.seq acc c,slots:=#[]}/\ItemsOf P acc n)
   K hh (K.keep _ _ hok fun b _ o e=>Od _ e) s.heap.objs.size (Nat.ne_of_gt lt.1) (Nat.ne_of_gt lt.2) (.ref s.heap.objs.size) 0 e0 (fun h' tk acc c hk hS hacc=>⟨h',tk,acc,c,rfl,rfl,fun b o e=>hk b o (Ou (Heap.lt_size e)) (Od _ e),hS,hacc⟩) hn
 refine wpAny_mono key (fun fin s' x=>?_) fun e s' x=>?_
 . cases fin with
   | done f =>
     obtain ⟨h',tk,acc,c,e,rfl,hk,hS,hacc⟩:=x;cases e;exact wpAny_bind (wpAny_load hS (wpAny_pure (h h' tk acc (Nat.le_of_lt (Heap.lt_size hS)) hk hacc)))
   | again c₁ =>
     refine ⟨x.1,codeAny_mono x.2 fun q s₂ y=>?_⟩;obtain ⟨h',tk,acc,c,rfl,rfl,hk,hS,hacc⟩:=y;exact wpAny_bind (wpAny_load hS (wpAny_pure (h h' tk acc (Nat.le_of_lt (Heap.lt_size hS)) hk hacc)))
 . obtain ⟨_,_,_,_,z,_⟩:=x;cases z
end
theorem Zfy:∀ {xs:List α}{ys:List β},Paired R xs ys->∀ {i:Nat}{x:α},xs[i]? = some x->∃ y,ys[i]? = some y/\R x y
 | _,_,.nil,i,x,e=>by simp at e
 | _,_,.cons h r,0,x,e=>by cases e;exact ⟨_,rfl,h⟩
 | _,_,.cons h r,i+1,x,e=>by
   obtain ⟨y,h1,h2⟩:=Zfy r (i:=i) (x:=x) (by simpa using e);exact ⟨y,by simpa using h1,h2⟩
theorem Zfn:∀ (ss:List Str) (vs:List Value),vs.length=ss.length->(∀ (j:Nat) (v:Value),vs[j]? = some v->∃ x,ss[j]? = some x/\(ZF P w).is (Sum.inr x) v=true)->StrsAre vs ss
 | [],[],_,_=>.nil
 | s::ss,v::vs,hl,h=>by
   obtain ⟨x,e,hx⟩:=h 0 v rfl;cases e;obtain ⟨t,rfl⟩:=Value.isStrOf_shape (x:=s) (v:=v) hx;exact .cons s t (Zfn ss vs (by simpa using hl) fun j u hu=>h (j+1) u (by simpa using hu))
section
variable {X:Cx}
noncomputable def Zl4(P:Program)(w:World)(K:PySem.W.Frag):List V->Hp->VK->Prop:=fun xs H Q=>∃ a kvs ss,xs=[.ref a]/\Dk P w K H a kvs/\kvs.map (·.1)=ss.map Sum.inr/\ss.length<64/\∀ p ss',H p=none->ss'.Perm ss->sortedS ss'=true->Q (.ref p) (upd H p (.lst (ss'.map V.str)))
theorem Zhp (hc:X.A.handled=none):Z6 X (.builtin "sorted") (Zl4 X.prog X.w X.K):=by
 intro pins s Z H xs us Q I r h;obtain ⟨a,kvs,ss,rfl,hd,hks,h64,q⟩:=h;obtain ⟨u,rfl,ru⟩:=vals1 r;cases ru;obtain ⟨z,hm,vs,rel,dd⟩:=I.dk hd;obtain ⟨ep,hat⟩:=dd.dictAt;have hl:vs.length=kvs.length:=(Paired.length rel).symm;have hl2:kvs.length=ss.length:=by
   have:=congrArg List.length hks;simpa using this
 have hkey:∀ (j:Nat) k x,vs[j]? = some (k,x)->∃ y,ss[j]? = some y/\k=Sum.inr y:=fun j k x e=>by
   have hj:j<vs.length:=(Ob.mp e).1;have h1:kvs[j]? = some kvs[j]:=Og (by lia);obtain ⟨u,hu,hu2⟩:=Zfy rel h1;rw [e] at hu;cases hu;have h3:(kvs.map (·.1))[j]? = some kvs[j].1:=by rw [On,h1];rfl
   rw [hks,On] at h3;obtain ⟨y,hy,e3⟩:=Oo.mp h3;exact ⟨y,hy,hu2.1.symm.trans e3.symm⟩
 refine ZiQ (ss:=ss) (fun R hR=>Zin (PySem.W.kdl_dict (knd:=ZF X.prog X.w) (kvs:=vs) (ep:=ep) hm) hc hat (by lia) fun h' tk acc hsz hk hacc=>?_) h64 fun D h' tk out ss' n hk hD ho hS hp hs=>?_
 . refine hR h' tk acc.toList hsz hk (Zfn (P:=X.prog) (w:=X.w) ss acc.toList (by rw [Array.length_toList,hacc.1];lia) fun j v hv=>?_);obtain ⟨k,x,e,hk2⟩:=hacc.2 j v (by rw [<- Array.getElem?_toList];exact hv);obtain ⟨y,hy,rfl⟩:=hkey j k x e;exact ⟨y,hy,hk2⟩
 . have hlen:ss'.length<=sizeLine:=by rw [hp.length_eq];lia
   refine ⟨.ref D,_,I.laid (a:=D) (o:=.lst (ss'.map V.str)) (t':=tk) hk hD ⟨by simpa using hlen,out,n,ZdU hS,ho⟩,rfl,q D ss' (I.hok.fresh hD) hp hs⟩
end
end L2
end
section
namespace L2
open PySem PySem.Spec PyProof.Rows
theorem Zcw:∀ {ns:List Int}{vs:List Value},Zi (ns.map V.int) vs->IntsAre vs ns
 | [],vs,h=>by cases h;exact .nil
 | s::ss,vs,h=>by
   rw [Op] at h;cases h with
   | cons h1 h2 =>
     obtain ⟨t,rfl⟩:=h1;exact .cons s t (Zcw h2)
noncomputable def ZdX(z:Str)(n:Nat):Str:=⟨(List.replicate n z.cps).foldl (·++·) #[]⟩
theorem ZfJ(a:Array Nat):∀ (n:Nat) (i:Array Nat),((List.replicate n a).foldl (·++·) i).size=i.size+n * a.size
 | 0,i=>by simp
 | n+1,i=>by
   rw [List.replicate_succ,List.foldl_cons,ZfJ a n (i++a),Array.size_append,Nat.succ_mul]
   lia
theorem Zdq(z:Str)(n:Nat):(ZdX z n).length=n * z.length:=by
 show ((List.replicate n z.cps).foldl (·++·) #[]).size=_;rw [ZfJ];simp;rfl
section
variable {X:Cx}
theorem Zlm (hc:X.A.handled=none):Z6 X (.builtin "sum") (fun xs H Q=>∃ (a:Addr) (ns:List Int),xs=[.ref a]/\SqL X.K H a (ns.map V.int)/\Q (.int ns.sum) H):=by
 intro pins s Z H xs us Q I r h;obtain ⟨a,ns,rfl,hq,q⟩:=h;obtain ⟨u,rfl,ru⟩:=vals1 r;cases ru;obtain ⟨its,rv,pl,hz⟩:=I.list hq;have hi:=Zcw rv;obtain ⟨ys,e⟩:=hi.allInts.items;refine sum_intListG (xs:=ys) hc (by rw [<- e];exact pl.isList) fun h' tk t' hk=>?_;refine ⟨.int ns.sum,H,I.kept (t':=tk) hk,⟨t',?_⟩,q⟩;have e2:=hi.numsOf;have e3:numsOf (intItems ys).toList=ns:=by rw [<- e];exact e2
 rw [nums_intItems] at e3;rw [preSum_eq,List.take_of_length_le (by simp),e3]
theorem Zop:OpR X (binaryOp .Mult) (fun x y H Q=>∃ z n,x=.str z/\y=.int n/\0<=n/\n<=1000/\z.length<=1000/\Q (.str (ZdX z n.toNat)) H):=by
 intro pins s Z H x y v u Q I rx ry h;obtain ⟨z,n,rfl,rfl,h0,h1,h2,q⟩:=h;obtain ⟨t,rfl⟩:=rx;obtain ⟨t2,rfl⟩:=ry;have hl:z.length * n.toNat<=1000000:=Nat.mul_le_mul h2 (by lia:n.toNat<=1000);have hs:(1000000:Nat)<=sizeLine:=by decide
 refine PySem.P.mul_str (by rw [decide_eq_false (by lia:¬ n < -(2 ^ 63:Int)),decide_eq_false (by lia:¬ n ≥ 2 ^ 63)]<;>rfl) (fun _ _=>?_) (fun _ _=>?_) ?_
 . have h3:1<=n:=by lia
   have h4:(9223372036854775807:Int) / n ≥ 1000:=by
     have:1000<=9223372036854775807 / n:=(Int.le_ediv_iff_mul_le (by lia)).mpr (by lia);exact this
   show ¬ ((z.length:Int) > (2 ^ 63 - 1) / n);rw [show (2 ^ 63 - 1:Int)=9223372036854775807 by decide]
   lia
 . unfold Builtin.Str.tooLong;exact decide_eq_false (by lia)
 . by_cases hn:n<1
   . rw [if_pos hn];refine ⟨by decide,.str _,H,I.tok _,⟨_,rfl⟩,?_⟩;rw [show n.toNat=0 by lia] at q;exact q
   . rw [if_neg hn];by_cases h5:(n==1 || z.length==0)=true
     . rw [if_pos h5];refine ⟨.str _,H,I,⟨_,rfl⟩,?_⟩;have e:ZdX z n.toNat=z:=by
         rw [Bool.or_eq_true] at h5;rcases h5 with h5|h5
         . have e1:n.toNat=1:=by have:=eq_of_beq h5;lia
           rw [e1];unfold ZdX;simp
         . have e1:z.length=0:=eq_of_beq h5;have e2:(ZdX z n.toNat).length=0:=by rw [Zdq,e1];simp
           have f:∀ y:Str,y.length=0->y=⟨#[]⟩:=fun y hy=>by
             cases y with|mk c=>rw [show c=#[] from Array.eq_empty_of_size_eq_zero hy]
           exact (f _ e2).trans (f z e1).symm
       rw [e] at q;exact q
     . rw [if_neg h5];refine ⟨?_,.str _,H,I.tok _,⟨_,rfl⟩,q⟩;show (ZdX z n.toNat).length<=sizeLine;rw [Zdq,Nat.mul_comm]
       lia
end
end L2
end
section
namespace L2
open PySem PySem.Spec PyProof.Rows
section
variable {X:Cx}
theorem Zha(hi:i.natAbs<2 ^ 2000)(hj:j.natAbs<2 ^ 2000):IntMulOk i j:=by
 have bits:∀ k:Int,k.natAbs<2 ^ 2000->Builtin.Int.intBits k<=2000:=fun k hk=>by
   unfold Builtin.Int.intBits;split
   . lia
   . rename_i h;have h0:k.natAbs≠0:=by simpa using h
     have:=(Nat.log2_lt h0).mpr hk
     lia
 unfold IntMulOk;have h1:=bits i hi;have h2:=bits j hj;have h3:Builtin.Int.intTooBig (Builtin.Int.intBits i+Builtin.Int.intBits j:Nat)=false:=by
   unfold Builtin.Int.intTooBig;rw [decide_eq_false_iff_not];have:(bitsLine:Nat)=134217728:=by decide
   rw [this]
   lia
 intro q;simp only [Oa] at q;have q2:=q.2;rw [show ((Builtin.Int.intBits i:Int)+(Builtin.Int.intBits j:Int))=((Builtin.Int.intBits i+Builtin.Int.intBits j:Nat):Int) by simp] at q2;rw [h3] at q2;cases q2
theorem ZkX:OpR X (binaryOp .Mult) (rI (fun i j=>i.natAbs<2 ^ 2000/\j.natAbs<2 ^ 2000) fun i j=>.int (i * j)):=opI fun _ _ _ _ _ _ _ hc q=>mul_int q (Zha hc.1 hc.2)
noncomputable def ZsK(K:PySem.W.Frag):R2:=fun x y H Q=>∃ a b ys,x=.ref a/\y=.ref b/\SqT K H a []/\SqT K H b ys/\Q (.ref b) H
theorem Zos:OpR X (binaryOp .Add) (ZsK X.K):=by
 intro pins s Z H x y v u Q I rx ry h;obtain ⟨a,b,ys,rfl,rfl,ha,hb,q⟩:=h;cases rx;cases ry;obtain ⟨its,r1,ht,_⟩:=I.tuple ha;obtain ⟨its2,r2,hb,_⟩:=I.tuple hb;cases r1;obtain ⟨⟨cls,dd,data,sl⟩,ho,hc,n,hd⟩:=id ht;obtain ⟨⟨cls2,dd2,data2,sl2⟩,ho2,hc2,n2,hd2⟩:=id hb;simp only at hc hd hc2 hd2;subst hc hd hc2 hd2;exact concat_meets ⟨_,ho,rfl⟩ ⟨_,ho2,rfl⟩ noFill_tuple_add seq_tuple_add PySem.F.slot_tuple_add PySem.F.entry_tuple_add (PySem.F.args_tuple_add_2 _ _)
     (tuple_addW0 a b _ _ n n2 dd dd2 sl sl2 (by simp)) ⟨ho,ho2,⟨.ref b,H,I,rfl,q⟩⟩
end
end L2
namespace HT
open PySem PyProof.Rows
section
variable {prog:Program}{w:World}{A:Around}{E:Value->Shared->Prop}{s:Shared}
theorem Zco{t sl:Addr}{items:Array Value}{lo hi:Option Int}{Q:Value->Shared->Prop}(ht:IsTup s.heap t items)(hs:s.heap.IsSliceOf sl vl vu .none)(pl:IsPart vl lo)(pu:IsPart vu hi)
   (hw:sIx items.size 0 lo=0/\sIx items.size items.size hi=items.size) (h:Q (.ref t) s):wpAny (model prog w) A (getItem (.ref t) (.ref sl)) Q E s:=by
 obtain ⟨os,hos,hcs,hds⟩:=id hs;have hTs:s.TypeIs (.ref sl) "slice" := ⟨os,hos,hcs⟩
 unfold getItem
 try with_reducible refine wpAny_holding ?_
 first|refine wpAny_bind (wpAny_pure ?_)|skip
 refine wpAny_bind (wpAny_sequenceKey ht.typeIs (by decide) ?_);refine wpAny_bind (wpAny_callSpecial?_slot (name:=O "__getitem__") ht.typeIs PyProof.Rows.slot_tuple_getitem
   (wpAny_call_entry PyProof.Rows.slot_tuple_getitem ht.typeIs entry_tuple_getitem ?_ (args_tuple_getitem _ _)))
 show wpAny _ _ (Builtin.Tuple.tupleItemsOf (.ref t) >>= _) _ _ s;refine wpAny_bind (tupleItemsOf_ ht ?_);refine wpAny_bind (wpAny_typeOf hTs ?_);rw [if_pos (by decide)];refine wpAny_bind (Zbl hs pl pu ?_);have hyes:(((sIx items.size 0 lo:Nat):Int)==0&&(1:Int)==1&&(sIx items.size items.size hi - sIx items.size 0 lo)==items.size)=true:=by
   rw [hw.1,hw.2];simp
 show wpAny _ _ (if (((sIx items.size 0 lo:Nat):Int)==0&&(1:Int)==1&&(sIx items.size items.size hi - sIx items.size 0 lo)==items.size)=true then _ else _) _ _ s;rw [if_pos hyes];unfold Builtin.Tuple.tupleIsExact;refine wpAny_bind (wpAny_bind (wpAny_typeOf ht.typeIs (wpAny_pure ?_)));rw [if_pos (by decide)];exact wpAny_bind (wpAny_rule (wpAny_pure ⟨_,rfl,wpAny_pure h⟩))
end
end HT
namespace L2
open PySem PySem.Spec PyProof.Rows
section
variable {X:Cx}
noncomputable def ZuC(K:PySem.W.Frag):V->Option Int->Option Int->Hp->VK->Prop:=fun x lo hi H Q=>∃ a xs,x=.ref a/\SqT K H a xs /\
 (HT.sIx xs.length 0 lo=0/\HT.sIx xs.length xs.length hi=xs.length)/\Q (.ref a) H
theorem ZlS:SlR X (ZuC X.K):=by
 intro pins s Z H x v vl vu lo hi sl Q I rx hs pl pu h;obtain ⟨a,xs,rfl,hx,hw,q⟩:=h;cases rx;obtain ⟨its,r,ht,hz⟩:=I.tuple hx;have hlen:its.toArray.size=xs.length:=by rw [Of];exact r.length.symm
 refine ⟨"tuple",_,PyProof.Rows.slot_tuple_getitem.lookup,ht.typeIs,?_⟩;exact HT.Zco ht hs pl pu (by rw [hlen];exact hw) ⟨.ref a,H,I,rfl,q⟩
end
end L2
end
section
set_option tactic.hygienic false
namespace L2
open PySem PySem.Spec PyProof.Rows
noncomputable def Zte:List Int->Int->Int
 | [],d=>d
 | x::r,_=>r.foldl (fun m y=>if y > m then y else m) x
end L2
end
section
namespace L2
open PySem PySem.Spec PyProof PyProof.Rows PySem.AutoSeq1
set_option maxRecDepth 8000 in
theorem Zjj(l:Addr)(items:Array Value)(n:Nat)(b:Addr)(items2:Array Value)(n2:Nat)(od:Option Addr)(sl:Array (Option Value))(hs0:¬(!items.isEmpty&&Builtin.List.listTooLong (items.size+items2.size))=true)(hs1:items.size<=sizeLine)(hs2:items.size+items2.size<=sizeLine+1) :
   Meets (Builtin.«list.extend» ⟨[.ref l,.ref b],[]⟩) (fun _ R s=>s.heap.get? l=some {cls:=.type "list",dict:=none,data:=.seq items n,slots:=#[]}/\s.heap.get? b=some {cls:=.type "tuple",dict:=od,data:=.seq items2 n2,slots:=sl}/\R (.ok (.ret Value.none)) {s with heap:=s.heap.update l (Obj.mapSeq fun x=>x++items2),toks:=s.toks}) :=
 .of_wp fun prog w A R s h=>by
   obtain ⟨hp,g,d,tk,os⟩:=s;obtain ⟨hl,hb,h⟩:=h;have f1:=idx_int;have f2:=AutoSeq1.sub_tuple_tuple;have f3:=AutoSeq1.sub_list_list;have f4:=AutoSeq1.sub_tuple_list;have f5:=AutoSeq1.sub_list_tuple;have hz':(items++items2).size<=sizeLine+1:=by rw [Array.size_append];exact hs2
   wp_walk using (wpAny_updateSeq hl rfl (hz:=hs1) (_hz':=hz')),wpAny_loadPart' hl,wpAny_loadPart' hb;exact ⟨_,rfl,h⟩
section
variable {X:Cx}
noncomputable def Zl6(K:PySem.W.Frag):V->List V->Hp->VK->Prop:=fun x vs H Q=>∃ l b xs zs,x=.ref l/\vs=[.ref b]/\H l=some (.lst xs)/\SqT K H b zs/\xs.length+zs.length<=sizeLine/\Q .non (upd H l (.lst (xs++zs)))
theorem Zja:MtM X "list.extend" (Zl6 X.K):=by
 intro pins s Z H x vs v us Q I rx rv h;obtain ⟨l,b,xs,zs,rfl,rfl,hH,hB,hz,q⟩:=h;cases rx;obtain ⟨u,rfl,ru⟩:=rv.one;cases ru;obtain ⟨z,its,n,r,hl,e⟩:=I.lstM hH;obtain ⟨its2,r2,⟨o,e2,oc,n2,od⟩,z2⟩:=I.tuple hB;obtain ⟨cls,dc,dat,sl⟩:=o;simp only at oc od;subst oc;subst od;have hl2:=r2.length;have hsz:its.toArray.size+its2.toArray.size<=sizeLine:=by rw [Of,Of];lia
 have hlong:¬ (!its.toArray.isEmpty&&Builtin.List.listTooLong (its.toArray.size+its2.toArray.size))=true:=by
   rw [ZhV hsz,Bool.and_false];exact Ow
 refine call_meets F.slot_list_extend ⟨_,e,rfl⟩ F.entry_list_extend (F.args_list_extend_2 _ _)
   (Zjj l its.toArray n b its2.toArray n2 dc sl hlong (by rw [Of];lia) (by lia)) ⟨e,e2,?_⟩
 refine ⟨.non,_,I.lset (its':=its++its2) hH e (by simp) (r.append r2) ?_,rfl,q⟩;rw [OA]
 lia
end
end L2
end
section
namespace L2
open PySem PySem.Spec PyProof.Rows
noncomputable def Zr5(K:PySem.W.Frag)(a:Addr)(n:Nat):It :=
 ⟨fun i H=>∃ xs x,SqL K H a xs/\xs.length=n/\xs.reverse[i]? = some x,fun i H x H'=>H'=H/\∀ xs,SqL K H a xs->xs.reverse[i]? = some x,fun i H=>∃ xs,SqL K H a xs/\xs.length=n/\n=i⟩
theorem ZkF{P:Program}{w:World}{K:PySem.W.Frag}{tg:Expr}(a it:Addr)(n:Nat):Turn P w K tg (Zr5 K a n) [it] it (fun i h=>i<=n/\h.IsRevIter it a ((n:Int) - 1 - i)) where
 mem:=by simp
 obj:=fun i h st b hb=>by
   have e:b=it:=by simpa using hb
   subst e;obtain ⟨_,o,e,c,d⟩:=st;exact ⟨o,e,fun v z=>by rw [d] at z;cases z⟩
 keep:=fun i h h' st k=>⟨st.1,st.2.at fun o e=>k it (by simp) o e⟩
 item:=by
   intro X hP hw hK hc i pins s Z H E I hf st hg;subst hP hw hK;obtain ⟨hin,st⟩:=st;obtain ⟨xs,x,hq,hxn,hx⟩:=hg;obtain ⟨its,rv,p,hz⟩:=I.list hq;have hl:=rv.length;have hi:i<xs.length:=by
     have:=(Ob.mp hx).1;simpa using this
   have hx':xs[n - 1 - i]? = some x:=by
     rw [List.getElem?_reverse hi] at hx;rw [<- hxn];exact hx
   obtain ⟨u,hu,ru⟩:=rv.get hx';obtain ⟨f0,f1,f2,f3,f4,f5⟩:=hf it (by simp);have e1:(n:Int) - 1 - (i:Nat)=((n - 1 - i:Nat):Int):=by lia
   rw [e1] at st;refine wpAny_pyNext_rev_item st p.isList (x:=u) (by simpa using hu) fun h' st' sb=>?_;have I1:Inv X pins Z H {s with heap:=h'}:=I.turned (t':=s.toks) (fun b o hb e=>(sb.2 b hb).trans e) f0 f1 f3 f4 f5;obtain ⟨o,e,c,d⟩:=id st';have e2:((n - 1 - i:Nat):Int) - 1=(n:Int) - 1 - ((i+1:Nat):Int):=by lia
   exact ⟨u,rfl,Zie (s:={s with heap:=h'}) e c d (by decide) ⟨x,H,I1,ru,⟨rfl,fun ys hy=>by rw [I.list_inj hy hq];exact hx⟩,⟨by lia,by rw [<- e2];exact st'⟩,fun b hb=>(hf b hb).1⟩⟩
 done:=by
   intro X hP hw hK hc i pins s Z H E I hf st hg;subst hP hw hK;obtain ⟨xs,hq,hxn,hx⟩:=hg;obtain ⟨f0,f1,f2,f3,f4,f5⟩:=hf it (by simp);have st1:=st.2;rw [show (n:Int) - 1 - (i:Nat)=-1 by lia] at st1;exact wpAny_pyNext_rev_end (I.ok.hd hc) st1 fun h' eb=>⟨rfl,I.turned (t':=s.toks) (fun b o hb e=>eb b o hb e) f0 f1 f3 f4 f5⟩
 self:=fun _ _ _ _ _ st h=>wpAny_pyIter_revIter st.2 h
noncomputable def Ztv(K:PySem.W.Frag)(ta:TA):TI:=fun Z H R=>ta Z H fun vs H1=>∃ a xs,vs=[.ref a]/\((SqT K H1 a xs/\R (Itv K a xs.length) H1)\/(SqL K H1 a xs/\R (Zr5 K a xs.length) H1))
theorem Zoe {X:Cx}{tg l:Expr}{ta:TA}{p pos:Pos} (hg:Gl X "reversed") (hm:X.mg "reversed" = none) (ha:PA X [l] ta) (hs:starEach [l] X.env=[(false,eval l X.env)]:=by rfl) :
   PI X tg (.Call (.Name "reversed" p) [l] [] pos) (Ztv X.K ta):=by
 intro pins s Z H R I h;refine Call_ (Zc8 I hg hm boot_reversed (PyProof.Rows.callWith_type1 (thn (ha pos pins s Z H _ I h) fun us s1 ⟨vs,H1,I1,r1,q1⟩=>?_) hs rfl));obtain ⟨a,xs,rfl,q⟩:=q1;obtain ⟨u,rfl,ru⟩:=vals1 r1;obtain rfl:u=Value.ref a:=ru;rcases q with ⟨hq,q⟩|⟨hq,q⟩
 . obtain ⟨its,rv,pl,hz⟩:=I1.tuple hq;have hl:=rv.length;refine Rv.call pl (by simp;lia) ?_;have e1:((its.toArray.size:Nat):Int) - 1=(xs.length:Int) - 1 - ((0:Nat):Int):=by simp;lia
   have st:Rv.Is (s1.heap.push (Rv.obj a (((its.toArray.size:Nat):Int) - 1))) s1.heap.objs.size a ((xs.length:Int) - 1 - ((0:Nat):Int)):=⟨_,Oj _ rfl,rfl,by rw [<- e1];rfl⟩
   refine Rv.ZgK st ?_;refine ⟨s1.heap.objs.size,[s1.heap.objs.size],_,_,H1,rfl,I1.kept (t':=s1.toks+1+1) fun b o e=>Od _ e,ZlE a _ xs.length,⟨Nat.zero_le _,st⟩,fun b hb=>?_,q⟩;have e:b=s1.heap.objs.size:=by simpa using hb
   subst e;exact I1.fpOk (Oq _) (I1.hok.fresh (Oq _))
 . obtain ⟨its,rv,pl,hz⟩:=I1.list hq;have hl:=rv.length;refine call_reversed_list pl.isList ?_;have e1:((its.toArray.size:Nat):Int) - 1=(xs.length:Int) - 1 - ((0:Nat):Int):=by simp;lia
   have st:(s1.heap.push (revObj a (((its.toArray.size:Nat):Int) - 1))).IsRevIter s1.heap.objs.size a ((xs.length:Int) - 1 - ((0:Nat):Int)):=⟨_,Oj _ rfl,rfl,by rw [<- e1];rfl⟩
   refine wpAny_pyIter_revIter st ?_;refine ⟨s1.heap.objs.size,[s1.heap.objs.size],_,_,H1,rfl,I1.kept (t':=s1.toks) fun b o e=>Od _ e,ZkF a _ xs.length,⟨Nat.zero_le _,st⟩,fun b hb=>?_,q⟩;have e:b=s1.heap.objs.size:=by simpa using hb
   subst e;exact I1.fpOk (Oq _) (I1.hok.fresh (Oq _))
end L2
end
section
namespace L2
open PySem PySem.Spec PyProof.Rows
namespace Tx
noncomputable def place(x:Str):List Str->Option Nat
 | []=>none
 | y::r=>if y=x then some 0 else (place x r).map (·+1)
end Tx
end L2
namespace L2
open PySem PySem.Spec PyProof.Rows
noncomputable def Zfl (K:PySem.W.Frag):Bool:=K.all fun p=>!decide (p.2.cls=.type "tuple") || p.2.dict.isNone
end L2
end
section
namespace L2
open PySem PySem.Spec PyProof.Rows
open PySem.AutoSeq1 (wpAny_loadPart')
namespace En1
section
variable {prog:Program}{w:World}{A:Around}{E:Value->Shared->Prop}{s:Shared}
theorem ZjD(st:s.heap.IsTupleIter J T k)(tt:s.heap.IsTuple T us)(hy:us[k]? = some y)
   (q:∀ h1,h1.IsTupleIter J T (k+1)->Heap.SameBut J s.heap h1->Q y {s with heap:=h1}):wpAny (model prog w) A (Builtin.SmallTypes.nextOf (.ref J)) Q E s:=by
 obtain ⟨ob,g1,g2,g3⟩:=id st;obtain ⟨ot,g4,_,m,g5⟩:=tt;unfold Builtin.SmallTypes.nextOf;refine wpAny_bind (wpAny_callSpecial?_slot (name:=O "__next__") st.typeIs F.slot_tuple_iterator_next (wpAny_call_entry F.slot_tuple_iterator_next st.typeIs F.entry_tuple_iterator_next ?g (F.args_tuple_iterator_next_1 _)))
 case g =>
   show wpAny _ _ (field (.ref J) 0 >>= _) _ _ s;refine wpAny_bind (wpAny_field g1 g3 (x:=.ref T) rfl ?_);show wpAny _ _ (if (Value.ref T==Value.none)=true then _ else _) _ _ s;rw [if_neg (show ¬ ((Value.ref T==Value.none)=true) from Ow)];show wpAny _ _ (field (.ref J) 1 >>= _) _ _ s;refine wpAny_bind (wpAny_field g1 g3 (x:=.int k 0) rfl ?_);show wpAny _ _ (seqItems? (.ref T) >>= _) _ _ s;refine wpAny_bind (wpAny_seqItems g4 g5 ?_);simp only [Int.toNat_natCast,hy];refine wpAny_bind (wpAny_setField g1 g3 (by simp) (wpAny_pure ⟨y,rfl,wpAny_pure (q _ ?_ (Heap.SameBut.update ..))⟩));exact ⟨_,Heap.get?_update_self _ g1 (Obj.isFreed_of_fields (Obj.data_mapFields g3 _)),(Obj.cls_mapFields ..).trans g2,by rw [Obj.data_mapFields g3];simp [rawInt]⟩
theorem Zqr(calm:A.handled=none)(st:s.heap.IsTupleIter J T k)(tt:s.heap.IsTuple T us)(hy:us[k]? = none)
   (q:∀ h1 x,Heap.ExtBut J s.heap h1->(∃ ob,h1.get? x=some ob/\ob.cls=.type "StopIteration")->E (.ref x) {s with heap:=h1}):wpAny (model prog w) A (Builtin.SmallTypes.nextOf (.ref J)) Q E s:=by
 obtain ⟨ob,g1,g2,g3⟩:=id st;obtain ⟨ot,g4,_,m,g5⟩:=tt;unfold Builtin.SmallTypes.nextOf;refine wpAny_bind (wpAny_callSpecial?_slot (name:=O "__next__") st.typeIs F.slot_tuple_iterator_next (wpAny_call_entry F.slot_tuple_iterator_next st.typeIs F.entry_tuple_iterator_next ?g (F.args_tuple_iterator_next_1 _)))
 case g =>
   show wpAny _ _ (field (.ref J) 0 >>= _) _ _ s;refine wpAny_bind (wpAny_field g1 g3 (x:=.ref T) rfl ?_);show wpAny _ _ (if (Value.ref T==Value.none)=true then _ else _) _ _ s;rw [if_neg (show ¬ ((Value.ref T==Value.none)=true) from Ow)];show wpAny _ _ (field (.ref J) 1 >>= _) _ _ s;refine wpAny_bind (wpAny_field g1 g3 (x:=.int k 0) rfl ?_);show wpAny _ _ (seqItems? (.ref T) >>= _) _ _ s;refine wpAny_bind (wpAny_seqItems g4 g5 ?_);simp only [Int.toNat_natCast,hy];refine wpAny_bind (wpAny_rule (wpAny_bind (wpAny_setField g1 g3 (by simp) ?_)));show wpAny _ _ (newExc (.type "StopIteration") [] >>= _) _ _ _;refine wpAny_bind ?_;simp only [newExc,newTuple];refine wpAny_bind (wpAny_newObj_type ?_ (by size_fits));refine wpAny_bind (m:=firstArgMember _ _) (wpAny_of_eq (a:=Value.none) (by first|rfl|(simp only [firstArgMember];rfl)) ?_);refine wpAny_newObj_type ?_ (by size_fits);simp only [raiseNew];refine wpAny_bind (wpAny_handled ?_)
   first|rw [show A.in1.handled=none from calm]|rw [calm]
   exact wpAny_bind (wpAny_pure (wpAny_throw (q _ _ (((Heap.SameBut.update ..).extBut.push _).push _) ⟨_,Oj _ rfl,rfl⟩)))
end
end En1
end L2
end
section
namespace L2
open PySem PySem.Spec PyProof.Rows
noncomputable def Zuv(d:PyData):Bool:=isDisplay d&&(PyData.showable d&&(PyData.intsShort 13 d&&(decide (PyData.weight d<=2 ^ 20)&&decide (PyData.depth d<=1000))))
end L2
end
section
namespace L2
open PySem PySem.Spec PyProof.Rows
structure XAs(K:PySem.W.Frag)(a b:Addr):Prop extends ExcN K a where
 sub:PySem.W.subIn K (.ref b) (.ref a)=some true
 at':ExcA K b
 one:PySem.W.kitOne K (.ref b) (.ref b)=some true
end L2
end
section
namespace L2
open PySem PySem.Spec PyProof.Rows
namespace Zp
structure ZS(n a b i:Nat)(f0:Value)(h:Heap):Prop where
 zip:IsZip h (n+4) (n+2) (n+3) f0
 ti:IsPair h (n+2) (.ref n) (.ref (n+1))
 to:∃ c d,IsPair h (n+3) c d
 i1:h.IsTupleIter n a i
 i2:h.IsTupleIter (n+1) b i
noncomputable abbrev Kps(n:Nat)(h h':Heap):Prop:=∀ c o,c≠n+4->c≠n+3->c≠n->c≠n+1->h.get? c=some o->h'.get? c=some o
section
variable {prog:Program}{w:World}{A:Around}{E:Value->Shared->Prop}{s:Shared}{n a b i:Nat}{us vs:Array Value}{x y:Value}{Q:Value->Shared->Prop}
theorem IsPair.sb{h h':Heap}{c t:Addr}{p q:Value}(e:IsPair h t p q)(sb:Heap.SameBut c h h')(ne:t≠c):IsPair h' t p q:=sb.extBut _ _ ne e
theorem body(ha:a<n)(hb:b<n)(z:ZS n a b i .none s.heap)(ta:s.heap.IsTuple a us)(tb:s.heap.IsTuple b vs)(hx:us[i]? = some x)(hy:vs[i]? = some y)
   (q:∀ h',ZS n a b (i+1) (rawInt s.heap.objs.size) h'->IsPair h' s.heap.objs.size x y->Kps n s.heap h'->Q (.ref s.heap.objs.size) {s with heap:=h'}) :
   wpAny (model prog w) A (Builtin.«zip.__next__» ⟨[.ref (n+4)],[]⟩) (fun f s'=>∃ v,f=.done (.ret v)/\Q v s') E s:=by
 obtain ⟨z0,z1,⟨c,d,z2⟩,z3,z4⟩:=z;have na:a≠n/\a≠n+1/\a≠n+3/\a≠n+4:=by lia
 have nb:b≠n/\b≠n+1/\b≠n+3/\b≠n+4:=by lia
 have ne:∀ {j k:Nat},j≠k->n+j≠n+k:=fun e z=>e (by lia);have n0:∀ {k:Nat},0<k->n≠n+k:=fun e z=>by lia
 have n0':∀ {k:Nat},0<k->n+k≠n:=fun e z=>by lia
 show wpAny _ _ (field (.ref (n+4)) 2 >>= _) _ _ _;refine wpAny_bind (wpAny_field z0 rfl (x:=.bool false) rfl ?_);show wpAny _ _ (field (.ref (n+4)) 3 >>= _) _ _ _;refine wpAny_bind (wpAny_field z0 rfl (x:=.ref (n+2)) rfl (wpAny_bind (wpAny_seqItems z1 rfl ?_)));show wpAny _ _ (Builtin.SmallTypes.ownedTupleIsFree (.ref (n+4)) >>= _) _ _ _;refine wpAny_bind ?_;unfold Builtin.SmallTypes.ownedTupleIsFree;refine wpAny_bind (wpAny_field z0 rfl (x:=.none) rfl (wpAny_pure ?_));simp only [if_true];refine wpAny_bind (wpAny_rule (wpAny_bind (wpAny_field z0 rfl (x:=.ref (n+3)) rfl (wpAny_bind (wpAny_setField_rec z0 (by simp) fun h1 y0 s1=>?_)))))
 replace y0:IsZip h1 (n+4) (n+2) (n+3) .ellipsis:=y0
 refine wpAny_bind ?_;simp only [List.zipIdx_cons,List.zipIdx_nil,List.forIn_cons,List.forIn_nil];refine wpAny_bind (wpAny_bind (wpAny_onRaise ?_));show wpAny _ _ (Builtin.SmallTypes.nextOf (.ref n) >>= _) _ _ _;refine wpAny_bind (En1.ZjD (z3.at fun o e=>s1.extBut _ _ (n0 (by decide)) e) (ta.extBut s1.extBut na.2.2.2) hx fun h2 k1 s2=>wpAny_pure ?_);have p2:IsPair h2 (n+3) c d:=IsPair.sb (IsPair.sb z2 s1 (ne (by decide))) s2 (n0' (by decide));refine wpAny_bind (wpAny_seqItems p2 rfl (wpAny_bind (wpAny_updateSeq_pair p2 fun h3 p3 s3=>?_)))
 replace p3:IsPair h3 (n+3) x d:=p3
 refine wpAny_bind (wpAny_letGo (wpAny_pure (wpAny_bind (wpAny_bind (wpAny_onRaise ?_)))));show wpAny _ _ (Builtin.SmallTypes.nextOf (.ref (n+1)) >>= _) _ _ _;have u3:∀ c o,c≠n+4->c≠n->c≠n+3->s.heap.get? c=some o->h3.get? c=some o:=fun c o c1 c2 c3 e=>s3.extBut _ _ c3 (s2.extBut _ _ c2 (s1.extBut _ _ c1 e));refine wpAny_bind (En1.ZjD (z4.at fun o e=>u3 _ o (ne (by decide)) (n0' (by decide)) (ne (by decide)) e) (tb.at fun o e=>u3 _ o nb.2.2.2 nb.1 nb.2.2.1 e) hy fun h4 k2 s4=>wpAny_pure ?_);have p4:IsPair h4 (n+3) x d:=IsPair.sb p3 s4 (ne (by decide));refine wpAny_bind (wpAny_seqItems p4 rfl (wpAny_bind (wpAny_updateSeq_pair p4 fun h5 p5 s5=>?_)))
 replace p5:IsPair h5 (n+3) x y:=p5
 refine wpAny_bind (wpAny_letGo (wpAny_pure (wpAny_pure (wpAny_bind (wpAny_seqItems p5 rfl (wpAny_bind (wpAny_newTuple ?_)))))));have sz:h5.objs.size=s.heap.objs.size:=by rw [s5.1,s4.1,s3.1,s2.1,s1.1]
 have u5:Kps n s.heap h5:=fun c o c1 c2 c3 c4 e=>s5.extBut _ _ c2 (s4.extBut _ _ c4 (u3 c o c1 c3 c2 e));have y5:IsZip h5 (n+4) (n+2) (n+3) .ellipsis:=s5.extBut _ _ (ne (by decide)) (s4.extBut _ _ (ne (by decide)) (s3.extBut _ _ (ne (by decide)) (s2.extBut _ _ (n0' (by decide)) y0)));have l5:n+4<h5.objs.size:=Heap.lt_size y5;show wpAny _ _ (Builtin.SmallTypes.ownedTupleHandOut (.ref (n+4)) (.ref h5.objs.size) >>= _) _ _ _;refine wpAny_bind ?_;unfold Builtin.SmallTypes.ownedTupleHandOut;have y6:IsZip (h5.push {cls:=.type "tuple",data:=.seq #[x,y]}) (n+4) (n+2) (n+3) .ellipsis:=Od _ y5;refine wpAny_bind (wpAny_setField_rec y6 (by simp) fun h7 y7 s7=>?_)
 replace y7:IsZip h7 (n+4) (n+2) (n+3) (rawInt h5.objs.size):=y7
 refine wpAny_setField_rec y7 (by simp) fun h8 y8 s8=>wpAny_pure ⟨_,rfl,?_⟩
 replace y8:IsZip h8 (n+4) (n+2) (n+3) (rawInt h5.objs.size):=y8
 have up:∀ c o,c≠n+4->h5.get? c=some o->h8.get? c=some o:=fun c o c1 e=>s8.extBut _ _ c1 (s7.extBut _ _ c1 (Od _ e));have t8:IsPair h8 h5.objs.size x y:=s8.extBut _ _ (Nat.ne_of_gt l5) (s7.extBut _ _ (Nat.ne_of_gt l5) (Oj _ rfl));show Q (.ref h5.objs.size) _;rw [sz] at y8 t8 ⊢;refine q h8 ⟨y8,up _ _ (ne (by decide)) (u5 _ _ (ne (by decide)) (ne (by decide)) (n0' (by decide)) (ne (by decide)) z1),⟨x,y,up _ _ (ne (by decide)) p5⟩,k1.at fun o e=>up _ o (n0 (by decide)) (s5.extBut _ _ (n0 (by decide)) (s4.extBut _ _ (n0 (by decide)) (s3.extBut _ _ (n0 (by decide)) e))),k2.at fun o e=>up _ o (ne (by decide)) (s5.extBut _ _ (ne (by decide)) e)⟩ t8 fun c o c1 c2 c3 c4 e=>up c o c1 (u5 c o c1 c2 c3 c4 e)
theorem fin(hh:A.handled=none)(ha:a<n)(z:ZS n a b i .none s.heap)(ta:s.heap.IsTuple a us)(hx:us[i]? = none){Q:Fin->Shared->Prop}
   (q:∀ h' e,Kps n s.heap h'->(∃ o,h'.get? e=some o/\o.cls=.type "StopIteration")->E (.ref e) {s with heap:=h'}) :
   wpAny (model prog w) A (Builtin.«zip.__next__» ⟨[.ref (n+4)],[]⟩) Q E s:=by
 obtain ⟨z0,z1,⟨c,d,z2⟩,z3,z4⟩:=z;show wpAny _ _ (field (.ref (n+4)) 2 >>= _) _ _ _;refine wpAny_bind (wpAny_field z0 rfl (x:=.bool false) rfl ?_);show wpAny _ _ (field (.ref (n+4)) 3 >>= _) _ _ _;refine wpAny_bind (wpAny_field z0 rfl (x:=.ref (n+2)) rfl (wpAny_bind (wpAny_seqItems z1 rfl ?_)));show wpAny _ _ (Builtin.SmallTypes.ownedTupleIsFree (.ref (n+4)) >>= _) _ _ _;refine wpAny_bind ?_;unfold Builtin.SmallTypes.ownedTupleIsFree;refine wpAny_bind (wpAny_field z0 rfl (x:=.none) rfl (wpAny_pure ?_));simp only [if_true];refine wpAny_bind (wpAny_rule (wpAny_bind (wpAny_field z0 rfl (x:=.ref (n+3)) rfl (wpAny_bind (wpAny_setField_rec z0 (by simp) fun h1 y0 s1=>?_)))))
 replace y0:IsZip h1 (n+4) (n+2) (n+3) .ellipsis:=y0
 refine wpAny_bind ?_;simp only [List.zipIdx_cons,List.zipIdx_nil,List.forIn_cons,List.forIn_nil];refine wpAny_bind (wpAny_bind (wpAny_onRaise ?_));show wpAny _ _ (Builtin.SmallTypes.nextOf (.ref n) >>= _) _ _ _;refine wpAny_bind (En1.Zqr hh (z3.at fun o e=>s1.extBut _ _ (by lia) e) (ta.extBut s1.extBut (by lia)) hx fun h2 e s2 he=>?_);obtain ⟨oe,e1,e2⟩:=he;have y2:IsZip h2 (n+4) (n+2) (n+3) .ellipsis:=s2 _ _ (by lia) y0;have ne:e≠n+4:=fun x=>by subst x;rw [y2] at e1;cases e1;simp at e2
 exact wpAny_setField_rec y2 (by simp) fun h3 _ s3=>q h3 e (fun c o c1 _ c3 _ x=>s3.extBut _ _ c1 (s2 _ _ c3 (s1.extBut _ _ c1 x))) ⟨oe,s3.extBut _ _ ne e1,e2⟩
theorem next{Q:Option Value->Shared->Prop}(ha:a<n)(hb:b<n)(z:ZS n a b i .none s.heap)(ta:s.heap.IsTuple a us)(tb:s.heap.IsTuple b vs)(hx:us[i]? = some x)(hy:vs[i]? = some y)
   (q:∀ h',ZS n a b (i+1) (rawInt s.heap.objs.size) h'->IsPair h' s.heap.objs.size x y->Kps n s.heap h'->Q (some (.ref s.heap.objs.size)) {s with heap:=h'}):wpAny (model prog w) A (pyNext (.ref (n+4))) Q E s:=by
 have ty:s.TypeIs (.ref (n+4)) "zip" := ⟨_,z.zip,rfl⟩
 unfold pyNext;exact wpAny_bind (wpAny_attempt (wpAny_callSpecial?_slot (name:=O "__next__") ty F.slot_zip_next (wpAny_call_entry F.slot_zip_next ty F.entry_zip_next (body ha hb z ta tb hx hy fun h' a1 a2 a3=>wpAny_pure (q h' a1 a2 a3)) (F.args_zip_next_1 _))))
theorem stop{Q:Option Value->Shared->Prop}(hh:A.handled=none)(ha:a<n)(z:ZS n a b i .none s.heap)(ta:s.heap.IsTuple a us)(hx:us[i]? = none)(q:∀ h',Kps n s.heap h'->Q none {s with heap:=h'}):wpAny (model prog w) A (pyNext (.ref (n+4))) Q E s:=by
 have ty:s.TypeIs (.ref (n+4)) "zip" := ⟨_,z.zip,rfl⟩
 unfold pyNext;refine wpAny_bind (wpAny_attempt (wpAny_callSpecial?_slot (name:=O "__next__") ty F.slot_zip_next (wpAny_call_entry F.slot_zip_next ty F.entry_zip_next (fin (show A.in1.handled=none from hh) ha z ta hx fun h' e hk he=>?_) (F.args_zip_next_1 _))));obtain ⟨o,h1,h2⟩:=he;exact wpAny_bind (wpAny_isInstance (T := "StopIteration") (b:=true) ⟨o,h1,h2⟩ isSubtype_stop (wpAny_pure (q _ hk)))
noncomputable abbrev ob (T:Addr):Obj:={cls:=.type "tuple_iterator",data:=.fields #[.ref T,.int 0 0]}
noncomputable abbrev tp (x y:Value):Obj:={cls:=.type "tuple",data:=.seq #[x,y]}
noncomputable abbrev hN(h:Heap)(a b:Addr):Heap:=((((h.push (ob a)).push (ob b)).push (tp (.ref h.objs.size) (.ref (h.push (ob a)).objs.size))).push (tp .none .none))
noncomputable abbrev zo (h:Heap) (a b:Addr):Obj:={cls:=.type "zip",data:=.fields #[.none,.bool false,.bool false,.ref ((h.push (ob a)).push (ob b)).objs.size,.ref (((h.push (ob a)).push (ob b)).push (tp (.ref h.objs.size) (.ref (h.push (ob a)).objs.size))).objs.size]}
theorem nw (a b:Addr) (us vs:Array Value):Meets (Builtin.«zip.__new__» ⟨[.type "zip",.ref a,.ref b],[]⟩) (fun _ R s=>s.heap.IsTuple a us/\s.heap.IsTuple b vs/\R (.ok (.ret (.ref (hN s.heap a b).objs.size))) {s with heap:=(hN s.heap a b).push (zo s.heap a b)}) :=
 .of_wp fun prog w A R s h=>by
   obtain ⟨hp,g,d,tk,os⟩:=s;obtain ⟨ta,tb,h⟩:=h;have hsub:=sub_zip;have t1:Heap.IsTuple (Shared.heap ⟨hp,g,d,tk,os⟩) a us:=ta;have t2:Heap.IsTuple (Shared.heap ⟨hp.push (ob a),g,d,tk,os⟩) b vs:=tb.at fun o e=>Od _ e
   wp_walk using wpAny_pyIter_tuple t1,wpAny_pyIter_tuple t2
   exact ⟨_,rfl,h⟩
theorem mk(ta:s.heap.IsTuple a us)(tb:s.heap.IsTuple b vs)(q:∀ h',ZS s.heap.objs.size a b 0 .none h'->(∀ c o,s.heap.get? c=some o->h'.get? c=some o)->Q (.ref (s.heap.objs.size+4)) {s with heap:=h'}) :
   wpAny (model prog w) A (call (.type "zip") [.ref a,.ref b]) Q E s:=by
 refine callType_new F.called_zip (by decide) (F.typeCall_zip_2 _ _) (F.newCall_zip_2 _ _) (fun obj=>F.args_object_init_3 obj _ _) F.entry_zip_new (nw a b us vs) ⟨ta,tb,?_⟩;have e1:(s.heap.push (ob a)).objs.size=s.heap.objs.size+1:=Heap.size_push ..;have e2:((s.heap.push (ob a)).push (ob b)).objs.size=s.heap.objs.size+2:=by rw [Heap.size_push,e1]
 have e3:(((s.heap.push (ob a)).push (ob b)).push (tp (.ref s.heap.objs.size) (.ref (s.heap.push (ob a)).objs.size))).objs.size=s.heap.objs.size+3:=by rw [Heap.size_push,e2]
 have e4:(hN s.heap a b).objs.size=s.heap.objs.size+4:=by rw [Heap.size_push,e3]
 have up:∀ {h:Heap}{o o':Obj}{c:Addr},h.get? c=some o->(h.push o').get? c=some o:=fun e=>Od _ e;have g5:((hN s.heap a b).push (zo s.heap a b)).get? (hN s.heap a b).objs.size=some (zo s.heap a b):=Oj _ rfl;have g4:((hN s.heap a b).push (zo s.heap a b)).get? _=some (tp .none .none):=up (Oj (((s.heap.push (ob a)).push (ob b)).push (tp (.ref s.heap.objs.size) (.ref (s.heap.push (ob a)).objs.size))) rfl);have g3:((hN s.heap a b).push (zo s.heap a b)).get? _=some (tp (.ref s.heap.objs.size) (.ref (s.heap.push (ob a)).objs.size)):=up (up (Oj ((s.heap.push (ob a)).push (ob b)) rfl));have g2:((hN s.heap a b).push (zo s.heap a b)).get? _=some (ob b):=up (up (up (Oj (s.heap.push (ob a)) rfl)));have g1:((hN s.heap a b).push (zo s.heap a b)).get? s.heap.objs.size=some (ob a):=up (up (up (up (Oj s.heap rfl))));have kp:∀ c o,s.heap.get? c=some o->((hN s.heap a b).push (zo s.heap a b)).get? c=some o:=fun c o e=>up (up (up (up (up e))));generalize (hN s.heap a b).push (zo s.heap a b)=hh at *;show _/\_;rw [zo,e2,e3,e4] at g5;rw [e3] at g4;rw [e1,e2] at g3;rw [e1] at g2;rw [e4];exact ⟨⟨_,g5,rfl⟩,q _ ⟨g5,g3,⟨_,_,g4⟩,⟨_,g1,rfl,rfl⟩,⟨_,g2,rfl,rfl⟩⟩ kp⟩
end
end Zp
noncomputable def Itz(K:PySem.W.Frag)(a b:Addr):It :=
 ⟨fun i H=>∃ xs ys x y,SqT K H a xs/\SqT K H b ys/\xs[i]? = some x/\ys[i]? = some y,fun i H v H'=>∃ p x y,v=.ref p/\H p=none/\(∀ xs,SqT K H a xs->xs[i]? = some x)/\(∀ ys,SqT K H b ys->ys[i]? = some y)/\H'=upd H p (.tup [x,y]),fun i H=>∃ xs,SqT K H a xs/\xs.length=i⟩
theorem ZlD{P:Program}{w:World}{K:PySem.W.Frag}{es:List Expr}{kk:Nat}{tp:Pos}{n a b:Addr}(ha:a<n)(hb:b<n):Turn P w K (.Tuple es kk tp) (Itz K a b) [n+4,n+3,n,n+1,n+2] (n+4) (fun i h=>Zp.ZS n a b i .none h) where
 mem:=by simp
 obj:=fun i h st c hc=>by
   obtain ⟨z0,z1,⟨_,_,z2⟩,⟨o3,z3,_,d3⟩,o4,z4,_,d4⟩:=st;simp only [O2,List.not_mem_nil,or_false] at hc;rcases hc with rfl|rfl|rfl|rfl|rfl
   . exact ⟨_,z0,nofun⟩
   . exact ⟨_,z2,nofun⟩
   . exact ⟨o3,z3,fun v z=>by rw [d3] at z;cases z⟩
   . exact ⟨o4,z4,fun v z=>by rw [d4] at z;cases z⟩
   . exact ⟨_,z1,nofun⟩
 keep:=fun i h h' st k=>by
   obtain ⟨z0,z1,⟨_,_,z2⟩,z3,z4⟩:=st;exact ⟨k _ (by simp) _ z0,k _ (by simp) _ z1,⟨_,_,k _ (by simp) _ z2⟩,z3.at fun o e=>k _ (by simp) o e,z4.at fun o e=>k _ (by simp) o e⟩
 item:=by
   intro X hP hw hK hc i pins s Z H E I hf st hg;subst hP hw hK;obtain ⟨xs,ys,x,y,hq,hr,hx,hy⟩:=hg;obtain ⟨its,rv,p,hz⟩:=I.tuple hq;obtain ⟨jts,rv',p',hz'⟩:=I.tuple hr;obtain ⟨u,hu,ru⟩:=rv.get hx;obtain ⟨v,hv,rw'⟩:=rv'.get hy;have l4:n+4<s.heap.objs.size:=Heap.lt_size st.zip;refine Zp.next ha hb st p p' (by simpa using hu) (by simpa using hv) fun h1 z1 t1 k1=>⟨_,rfl,wpAny_letOwnedTupleGo_zip z1.zip fun h2 y2 s2=>?_⟩
   have nT:s.heap.objs.size ∉ [n+4,n+3,n,n+1,n+2]:=by simp only [O2,List.not_mem_nil,or_false];lia
   have tup2:Zax h2 s.heap.objs.size #[u,v]:=⟨_,s2.extBut _ _ (by lia) t1,rfl,rfl,_,rfl⟩
   have I2:Inv X pins Z (upd H s.heap.objs.size (.tup [x,y])) {s with heap:=h2,toks:=s.toks}:=I.turnT hf (fun c o hc e=>by
     simp only [O2,List.not_mem_nil,or_false,not_or] at hc;exact s2.extBut _ _ hc.1 (k1 c o hc.1 hc.2.1 hc.2.2.1 hc.2.2.2.1 e)) (Oq _) (us:=[u,v]) tup2 (.cons ru (.cons rw' .nil)) (by show 2<=sizeLine;decide)
   obtain ⟨w0,w1,⟨c,d,w2⟩,w3,w4⟩:=z1;refine ⟨.ref s.heap.objs.size,_,I2,rfl,⟨_,x,y,rfl,I.hok.fresh (Oq _),fun zs hz=>by rw [I.tuple_inj hz hq];exact hx,fun zs hz=>by rw [I.tuple_inj hz hr];exact hy,rfl⟩,⟨y2,s2.extBut _ _ (by lia) w1,⟨c,d,s2.extBut _ _ (by lia) w2⟩,w3.at fun o e=>s2.extBut _ _ (by lia) e,w4.at fun o e=>s2.extBut _ _ (by lia) e⟩,fun c hc=>?_⟩;rw [Zk (fun z=>nT (by rw [<- z];exact hc))];exact (hf c hc).1
 done:=by
   intro X hP hw hK hc i pins s Z H E I hf st hg;subst hP hw hK;obtain ⟨xs,hq,hx⟩:=hg;obtain ⟨its,rv,p,hz⟩:=I.tuple hq;have hl:=rv.length;exact Zp.stop (I.ok.hd hc) ha st p (by simp;lia) fun h1 k1=>⟨rfl,I.turnL (t':=s.toks) hf fun c o hc e=>by
     simp only [O2,List.not_mem_nil,or_false,not_or] at hc;exact k1 c o hc.1 hc.2.1 hc.2.2.1 hc.2.2.2.1 e⟩
 self:=fun A i s Q E st h=>wpAny_pyIter_zip st.zip h
noncomputable def ZuY(K:PySem.W.Frag)(ta:TA):TI:=fun Z H R=>ta Z H fun vs H1=>∃ a b,vs=[.ref a,.ref b]/\(∃ xs,SqT K H1 a xs)/\(∃ ys,SqT K H1 b ys)/\R (Itz K a b) H1
theorem ZqN {X:Cx}{es:List Expr}{kk:Nat}{tp:Pos}{l m:Expr}{ta:TA}{p pos:Pos} (hg:Gl X "zip") (hm:X.mg "zip" = none) (ha:PA X [l,m] ta) (hs:starEach [l,m] X.env=[(false,eval l X.env),(false,eval m X.env)]) (hs2:starEach [m] X.env=[(false,eval m X.env)]) :
   PI X (.Tuple es kk tp) (.Call (.Name "zip" p) [l,m] [] pos) (ZuY X.K ta):=by
 intro pins s Z H R I h;refine Call_ (Zc8 I hg hm boot_zip (PyProof.Rows.callWith_type1 (thn (ha pos pins s Z H _ I h) fun us s1 ⟨vs,H1,I1,r1,q1⟩=>?_) (by rw [hs,hs2]) (by rw [hs2];rfl)));obtain ⟨a,b,rfl,⟨xs,hq⟩,⟨ys,hr⟩,q⟩:=q1;obtain ⟨u,v,rfl,ru,rv⟩:=vals2 r1;obtain rfl:u=Value.ref a:=ru;obtain rfl:v=Value.ref b:=rv;obtain ⟨its,_,pt,_⟩:=I1.tuple hq;obtain ⟨jts,_,pt',_⟩:=I1.tuple hr;have la:a<s1.heap.objs.size:=by obtain ⟨_,z,_⟩:=pt;exact Heap.lt_size z
 have lb:b<s1.heap.objs.size:=by obtain ⟨_,z,_⟩:=pt';exact Heap.lt_size z
 refine Zp.mk pt pt' fun h1 z kp=>wpAny_pyIter_zip z.zip ⟨s1.heap.objs.size+4,_,_,_,H1,rfl,I1.kept (t':=s1.toks) kp,ZlD la lb,z,fun c hc=>?_,q⟩;have le:s1.heap.objs.size<=c:=by simp only [O2,List.not_mem_nil,or_false] at hc;lia
 exact I1.fpOk le (I1.hok.fresh le)
end L2
end
section
namespace L2
open PySem PySem.Spec PyProof.Rows
noncomputable def Zf0:List Nat->List (List Nat)
 | []=>[[]]
 | c::r=>if c=32 then []::Zf0 r else match Zf0 r with
   | []=>[[c]]
   | w::ws=>(c::w)::ws
noncomputable def ZeT:List (List Nat)->List Nat
 | []=>[]
 | w::r=>match r with
   | []=>w
   | _::_=>w++32::ZeT r
theorem ZjH:∀ {w:List Nat},32 ∉ w->Zf0 w=[w]
 | [],_=>rfl
 | c::r,h=>by
   have hc:c≠32:=fun e=>h (e ▸ Oi);rw [Zf0,if_neg hc,ZjH fun q=>h (Oh _ q)]
theorem ZjI:∀ {w:List Nat} (r:List Nat),32 ∉ w->Zf0 (w++32::r)=w::Zf0 r
 | [],r,_=>rfl
 | c::w,r,h=>by
   have hc:c≠32:=fun e=>h (e ▸ Oi);rw [List.cons_append,Zf0,if_neg hc,ZjI r fun q=>h (Oh _ q)]
theorem Zg1:∀ {A:List (List Nat)},A≠[]->(∀ w∈A,32 ∉ w)->Zf0 (ZeT A)=A
 | [w],_,h=>ZjH (h w (.head _))
 | w::v::r,_,h=>by
   show Zf0 (w++32::ZeT (v::r))=_;rw [ZjI _ (h w (.head _)),Zg1 (by simp) fun x hx=>h x (.tail _ hx)]
noncomputable def tx(l:List Nat):Str:=⟨l.toArray⟩
noncomputable def ZdV(x:Str):List Str:=(Zf0 x.cps.toList).map tx
noncomputable def blk:Str:=O " "
theorem Zjr:blk=⟨#[32]⟩:=by decide +kernel
noncomputable def ZK(ss:List Str):Str:=tx (ZeT (ss.map (·.cps.toList)))
theorem ZiM(x:Str):tx x.cps.toList=x:=by show (⟨x.cps.toList.toArray⟩:Str)=x;simp
theorem Zjo(l:List Nat):(tx l).cps.toList=l:=by simp [tx]
theorem Zhe:∀ ss:List Str,(Str.join blk ss).cps.toList=ZeT (ss.map (·.cps.toList))
 | []=>by rfl
 | [x]=>by rfl
 | x::y::r=>by
   show (x++blk++Str.join blk (y::r)).cps.toList=x.cps.toList++32::ZeT ((y::r).map (·.cps.toList));rw [<- Zhe (y::r),Zjr];show ((x.cps++#[32])++(Str.join ⟨#[32]⟩ (y::r)).cps).toList=_;simp
theorem ZoU(ss:List Str):Txt.join blk ss=ZK ss:=by
 show Builtin.Str.glued blk ss=_;rw [StrLaws.glued_eq_join,<- ZiM (Str.join blk ss),Zhe];rfl
open Builtin Builtin.Str in
theorem Zg9(x:Str)(c:Nat):∀ (n a:Nat) (st:Array Nat×Nat),st.fst.size<=a->st.snd<=a->a+n=x.length+1 ->
   (∀ i∈st.fst.toList,i∈(forIn (List.range' a n) st (StrLaws.occBody x ⟨#[c]⟩ x.length (x.length+1))).run.fst.toList) /\
   ∀ i,a<=i->x.cps.toList[i]? = some c->i∈(forIn (List.range' a n) st (StrLaws.occBody x ⟨#[c]⟩ x.length (x.length+1))).run.fst.toList
 | 0,a,st,_,_,hn=>⟨fun i h=>h,fun i ha hi=>by
   have:=(Ob.mp hi).1;have e:x.cps.toList.length=x.length:=by simp [Str.length]
   lia⟩
 | n+1,a,st,h1,h2,hn=>by
   have e:x.cps.toList.length=x.length:=by simp [Str.length]
   rw [List.range'_succ,List.forIn_cons];unfold StrLaws.occBody;split
   . obtain ⟨ih1,ih2⟩:=Zg9 x c n (a+1) (st.fst.push a,a+(⟨#[c]⟩:Str).length) (by rw [Array.size_push];lia) (by show a+1<=a+1;lia) (by lia);refine ⟨fun i h=>ih1 i (by rw [Array.toList_push];exact List.mem_append_left _ h),fun i ha hi=>?_⟩;rcases Nat.lt_or_ge a i with q|q
     . exact ih2 i q hi
     . have:i=a:=by lia
       rw [this];exact ih1 a (by rw [Array.toList_push];simp)
   . rename_i hc;obtain ⟨ih1,ih2⟩:=Zg9 x c n (a+1) (st.fst,st.snd) (by show st.fst.size<=_;lia) (by show st.snd<=_;lia) (by lia);refine ⟨ih1,fun i ha hi=>?_⟩;rcases Nat.lt_or_ge a i with q|q
     . exact ih2 i q hi
     . have ia:i=a:=by lia
       subst ia;have hl:=(Ob.mp hi).1;refine absurd ⟨⟨⟨by lia,h2⟩,by show i+1<=_;lia⟩,?_⟩ hc;rw [StrLaws.subAt_eq];show ((x.cps.toList.drop i).take 1==[c])=true;have:x.cps.toList.drop i=c::x.cps.toList.drop (i+1):=by
         rw [List.drop_eq_getElem_cons hl];rw [Og hl] at hi;cases hi;rfl
       rw [this];simp
open Builtin Builtin.Str in
theorem ZoD(x:Str)(c i:Nat)(hi:x.cps.toList[i]? = some c):i∈occurrences x ⟨#[c]⟩ 0 x.length (x.length+1):=by
 rw [StrLaws.occ_eq];exact (Zg9 x c (x.length+1 - 0) 0 (#[],0) (Oq _) (Oq _) (by lia)).2 i (Nat.zero_le _) hi
open Builtin Builtin.Str in
theorem Ziq{x y:Str}{hi:Nat}:∀ {cuts:List Nat}{a f:Nat},StrLaws.ChainTo x y hi a cuts f->∀ c∈cuts,a<=c
 | d::r,a,f,h,c,hc=>by
   rcases O2.mp hc with rfl|hc
   . exact h.1
   . have:=Ziq h.2.2 c hc;have:=h.1
     lia
open Builtin Builtin.Str in
theorem parts_free(x:Str)(c:Nat):∀ (cuts:List Nat) (a f:Nat),StrLaws.ChainTo x ⟨#[c]⟩ x.length a cuts f->(∀ i,a<=i->x.cps.toList[i]? = some c->i∈cuts)->∀ p∈StrLaws.partsFrom x 1 a cuts,c ∉ p.cps.toList
 | [],a,f,_,hm,p,hp=>by
   rw [Ox.mp hp,StrLaws.strSub_toList];intro q;obtain ⟨j,hj,ej⟩:=List.getElem_of_mem q;have:=hm (a+j) (by lia) (by
     have:=Og hj;rw [ej,List.getElem?_take_of_lt (by simp at hj;lia),List.getElem?_drop] at this;exact this)
   cases this
 | d::r,a,f,h,hm,p,hp=>by
   rcases O2.mp hp with rfl|hp
   . rw [StrLaws.strSub_toList];intro q;obtain ⟨j,hj,ej⟩:=List.getElem_of_mem q;have hj':j<d - a:=by simp at hj;lia
     have:=hm (a+j) (by lia) (by
       have:=Og hj;rw [ej,List.getElem?_take_of_lt hj',List.getElem?_drop] at this;exact this)
     rcases O2.mp this with e|e
     . lia
     . have:=Ziq h.2.2 _ e;have e1:(⟨#[c]⟩:Str).length=1:=rfl
       lia
   . refine parts_free x c r (d+1) f h.2.2 (fun i hi ei=>?_) p hp;have:=h.1;rcases O2.mp (hm i (by lia) ei) with e|e
     . lia
     . exact e
open Builtin Builtin.Str in
theorem ZlO(x:Str):Txt.split x blk=ZdV x:=by
 have key:∀ A:List Str,A≠[]->(∀ p∈A,32 ∉ p.cps.toList)->Str.join blk A=x->A=ZdV x:=fun A ne hf hj=>by
   have e:=Zhe A;rw [hj] at e;unfold ZdV;rw [e,Zg1 (by simpa using ne) (fun w hw=>by
     obtain ⟨p,hp,rfl⟩:=List.mem_map.mp hw;exact hf p hp),List.map_map]
   symm;refine Eq.trans (List.map_congr_left (g:=fun p=>p) fun p _=>ZiM p) ?_;simp
 have hall:=ZoD x 32;rw [<- Zjr] at hall;have no:(∀ i,x.cps.toList[i]?≠some 32)->32 ∉ x.cps.toList:=fun h q=>by
   obtain ⟨j,hj,ej⟩:=List.getElem_of_mem q;exact h j (by rw [Og hj,ej])
 unfold Txt.split;split
 . rename_i h1;refine key [x] (by simp) (fun p hp=>?_) rfl;rw [Ox.mp hp];rw [Bool.or_eq_true,decide_eq_true_eq,decide_eq_true_eq] at h1;rcases h1 with h1|h1
   . have e:x.cps.toList.length=x.length:=by simp [Str.length]
     have:blk.length=1:=by decide +kernel
     have:x.cps.toList=[]:=List.eq_nil_of_length_eq_zero (by lia);rw [this];simp
   . have k1:Builtin.Str.strKind blk=1:=by decide +kernel
     rw [k1] at h1;unfold Builtin.Str.strKind at h1;split at h1
     . lia
     . split at h1<;>lia
 . split
   . rename_i h2;refine key [x] (by simp) (fun p hp=>?_) rfl;rw [Ox.mp hp];refine no fun i hi=>?_;have:=hall i hi;rw [List.isEmpty_iff.mp h2] at this;cases this
   . obtain ⟨f,h⟩:=StrLaws.occ_chain x blk (x.length+1);have l1:blk.length=1:=by decide +kernel
     rw [StrLaws.partsBetween_eq];obtain ⟨p,q,e⟩:=StrLaws.partsFrom_ne x blk.length 0 (occurrences x blk 0 x.length (x.length+1));refine key _ (by rw [e];simp) (fun p hp=>?_) (by rw [StrLaws.join_partsFrom x blk _ 0 f h,StrLaws.sub_whole]);rw [l1] at hp;rw [Zjr] at h hp hall;exact parts_free x 32 _ 0 f h (fun i _ hi=>hall i hi) p hp
section
variable {X:Cx}
theorem Zis:Z6 X (.type "str") (fun xs H Q=>(∃ i,xs=[.int i]/\i.natAbs.log2<1920/\Q (.str (Str.ofString (toString i))) H)\/∃ y,xs=[.str y]/\Q (.str y) H):=by
 intro pins s Z H xs us Q I r h;rcases h with ⟨i,rfl,hi,q⟩|⟨y,rfl,q⟩
 . obtain ⟨u,rfl,t,rfl⟩:=vals1 r;exact P.str_of_int hi ⟨.str _,H,I.tok _,⟨_,rfl⟩,q⟩
 . obtain ⟨u,rfl,t,rfl⟩:=vals1 r;exact P.str_of_str ⟨.str y,H,I,⟨t,rfl⟩,q⟩
theorem ZkJ{prog:Program}{w:World}{A:Around}{E:Value->Shared->Prop}{s:Shared}{x:Str}{t u:Tok}{Q:Value->Shared->Prop}(hz:x.length<=1000000)
   (hq:∀ (l:List (Str×Tok)) k,l.map (·.1)=ZdV x->Q (.ref s.heap.objs.size) {s with heap:=s.heap.push {cls:=.type "list",data:=.seq (strValues l).toArray},toks:=k}):wpAny (model prog w) A (call (.builtin "str.split") [.str x t,.str blk u]) Q E s:=by
 have hs:=ZlO x;have sz:x.length<=sizeLine:=by rw [sizeLine_eq];lia
 have l1:(blk.length==0)=false:=by decide +kernel
 unfold Txt.split at hs;by_cases c1:(decide (x.length<blk.length) || decide (Builtin.Str.strKind x<Builtin.Str.strKind blk))=true
 . rw [if_pos c1] at hs;exact call_meets F.slot_str_split (typeIs_str _ _ _) F.entry_str_split (F.args_str_split_2 _ _) (meets_str_split_cannot_occur x blk t u c1) (hq [(x,t)] s.toks hs)
 . rw [if_neg c1] at hs;have c1':=Bool.eq_false_iff.mpr c1;by_cases c2:(Builtin.Str.occurrences x blk 0 x.length (x.length+1)).isEmpty=true
   . rw [if_pos c2] at hs;exact call_meets F.slot_str_split (typeIs_str _ _ _) F.entry_str_split (F.args_str_split_2 _ _) (meets_str_split_not_found x blk t u c1' l1 c2) (hq [(x,t)] s.toks hs)
   . rw [if_neg c2] at hs;have c2':=Bool.eq_false_iff.mpr c2;refine call_meets F.slot_str_split (typeIs_str _ _ _) F.entry_str_split (F.args_str_split_2 _ _) (meets_str_split_sep x blk t u c1' l1 c2' sz ?_) ?_
     . rw [len_partsBetween];have:=StrLaws.occ_length_le x blk 0 x.length (x.length+1);rw [sizeLine_eq]
       lia
     . have e:=hq (numbered s.toks (Builtin.Str.partsBetween x (Builtin.Str.occurrences x blk 0 x.length (x.length+1)) blk.length)) (s.toks+(Builtin.Str.partsBetween x (Builtin.Str.occurrences x blk 0 x.length (x.length+1)) blk.length).length) ((numbered_texts _ _).trans hs);rw [<- strsFrom_eq] at e;exact e
noncomputable def ZqD:V->List V->Hp->VK->Prop:=fun x xs H Q=>∃ y,x=.str y/\xs=[.str blk]/\y.length<=1000000/\(ZdV y).length<=1000002/\∀ p,H p=none->Q (.ref p) (upd H p (.lst ((ZdV y).map V.str)))
theorem Zdm:∀ (l:List (Str×Tok)),Zi (l.map fun p=>V.str p.1) (strValues l)
 | []=>.nil
 | p::l=>.cons ⟨p.2,rfl⟩ (Zdm l)
theorem Zmy:MtR X "str.split" ZqD:=by
 intro pins s Z H x xs v us Q I rx rv h;obtain ⟨y,rfl,rfl,hz,hl,q⟩:=h;obtain ⟨t,rfl⟩:=rx;obtain ⟨u,rfl,t',rfl⟩:=vals1 rv;refine ZkJ hz fun l k hk=>?_;have hv:Zi ((ZdV y).map V.str) (strValues l):=by
   rw [<- hk,List.map_map];exact Zdm l
 exact ⟨.ref s.heap.objs.size,_,I.laid (a:=s.heap.objs.size) (o:=.lst ((ZdV y).map V.str)) (t':=k) (fun b o e=>Od _ e) (Oq _) ⟨by rw [List.length_map,sizeLine_eq];lia,strValues l,_,hv,Oj _ rfl⟩,rfl,q _ (I.hok.fresh (Oq _))⟩
noncomputable def rJoin(K:PySem.W.Frag):V->List V->Hp->VK->Prop:=fun x xs H Q=>∃ a,∃ ss:List Str,x=.str blk/\xs=[.ref a]/\SqL K H a (ss.map V.str)/\JoinOk blk ss=true/\Q (.str (ZK ss)) H
theorem Zdn:∀ {ss:List Str}{vs:List Value},Zi (ss.map V.str) vs->∃ l:List (Str×Tok),vs=strValues l/\l.map (·.1)=ss
 | [],vs,h=>by cases h;exact ⟨[],rfl,rfl⟩
 | x::ss,vs,h=>by
   rw [Op] at h;cases h with
   | cons h1 h2 =>
     obtain ⟨t,rfl⟩:=h1;obtain ⟨l,rfl,rfl⟩:=Zdn h2;exact ⟨(x,t)::l,rfl,rfl⟩
theorem ZoI:MtR X "str.join" (rJoin X.K):=by
 intro pins s Z H x xs v us Q I rx rv h;obtain ⟨a,ss,rfl,rfl,hl,ok,q⟩:=h;obtain ⟨t,rfl⟩:=rx;obtain ⟨u,rfl,ru⟩:=vals1 rv;cases ru;obtain ⟨its,hv,pl,_⟩:=I.list hl;obtain ⟨l,rfl,rfl⟩:=Zdn hv;refine SC.join pl.isList rfl ok fun t' k=>?_;rw [ZoU];exact ⟨.str _,H,I.tok _,⟨_,rfl⟩,q⟩
end
end L2
end
section
set_option tactic.hygienic false
namespace IV
open PySem PySem.Spec PyProof.Rows L2
inductive D where
 | non|bl (b:Bool)|int (i:Int)|str (x:Str)|tup (xs:List D)|ref (i:Nat)|ty (n:String)
 | ro (xs:List D)|kd (x:Str)
inductive DO where
 | lst (xs:List D)|dic (kvs:List (Key×D))|ins (C:Str) (fs:List (Str×D))
 | fdic (kvs:List (Key×D))
noncomputable abbrev Hd:=List DO
inductive R(α:Type) where
 | bad|ok (a:α) (h:Hd)|exc (c:Str) (h:Hd)
noncomputable def R.bind(r:R α)(k:α->Hd->R β):R β:=match r with
 | .bad=>.bad
 | .ok a h=>k a h
 | .exc c h=>.exc c h
theorem R.bind_ok:(R.ok a h).bind k=k a h:=rfl
theorem R.bind_bad:(R.bad:R α).bind k=.bad:=rfl
noncomputable def R.ofO(o:Option α)(h:Hd):R α:=match o with
 | some a=>.ok a h
 | none=>.bad
theorem R.ofO_some:R.ofO (some a) h=.ok a h:=rfl
noncomputable abbrev Ev:=List (Option D)
inductive Bf where
 | len|isi|int|tup|lst|sum|all|srt|mx|sri|lnd|dct|ldk|sto|itx
 deriving DecidableEq
inductive Mf where
 | app|ext|pop|rev|clr
 deriving DecidableEq
inductive Tf where
 | spl|joi
 deriving DecidableEq
mutual
inductive Ex where
 | var (i:Nat)|cst (d:D)|glo (x:Str)
 | bin (op:Operator) (a b:Ex)|cmp (op:CmpOp) (a b:Ex)|cmp2 (op op':CmpOp) (a b c:Ex)
 | neg (a:Ex)|nt (a:Ex)|ands (es:Exs)|ors (es:Exs)|ite (c:Tx) (a b:Ex)
 | tupl (es:Exs)|lstl (es:Exs)|ix (a i:Ex)|sl (a:Ex) (lo hi:Option Ex)
 | blt (f:Bf) (es:Exs)|call (f:Str) (es:Exs)|meth (m:Mf) (o:Ex) (es:Exs)
 | comp (NC:List Str) (js:List (Option Nat)) (it:Ix) (g:Tg) (c:Option Tx) (e:Ex)
 | sorts (e:Ex)|dictl (ps:Exs)|maxd (e d:Ex)
 | att (Cs:List Str) (o:Ex) (f:Str)|mk (C:Str) (es:Exs)|mcl (C m:Str) (o:Ex) (es:Exs)|any
 | trev (e:Ex)|tix (o e:Ex)|lrv (e:Ex)|lix (o e:Ex)|lin (a b:Ex)
 | rpn (a b:Ex)
 | dne (a b:Ex)
 | tmt (m:Tf) (o e:Ex)|sin (a b:Ex)
inductive Exs where
 | nil|cons (e:Ex) (es:Exs)
inductive Ix where
 | pl (e:Ex)|rng (e:Ex)|rng2 (a b:Ex)|enu (e:Ex)|rev (e:Ex)
 | en1 (e:Ex)|en0 (e:Ex)|dk (e:Ex)
 | zp (a b:Ex)
 | zl (a b:Ex)
 | tw (e:Ex)
inductive Tg where
 | nm (i:Nat)|two (i j:Nat)|many (is:List Nat)
inductive Tx where
 | ex (e:Ex)|ands (ts:Txs)|ors (ts:Txs)|nt (a:Tx)
inductive Txs where
 | one (t:Tx)|cons (t:Tx) (ts:Txs)
end
mutual
inductive Sx where
 | ret (e:Ex)|set (g:Tg) (e:Ex)|put (o i e:Ex)|aug (i:Nat) (op:Operator) (e:Ex)|drp (e:Ex)
 | iff (c:Tx) (a b:Sxs)|whl (c:Tx) (b:Sxs)|forr (g:Tg) (it:Ix) (b:Sxs)|pas|brk|cnt
 | seta (Cs:List Str) (o:Ex) (f:Str) (e:Ex)|auga (Cs:List Str) (o:Ex) (f:Str) (e:Ex)|any
 | rai (C:Str) (e:Ex)|trs (i:Nat) (f:Str) (es:Exs) (C:Str)
 | unl (i j:Nat) (e:Ex)
 | trw (i n:Nat) (f:Str) (es:Exs) (C W w:Str)
inductive Sxs where
 | nil|cons (s:Sx) (r:Sxs)
end
noncomputable instance:DecidableEq D:=fun a b=>Classical.propDecidable (a=b)
noncomputable instance:DecidableEq DO:=fun a b=>Classical.propDecidable (a=b)
mutual
noncomputable def D.py(rd:Nat->Option PyData):D->Option PyData
 | .non=>some .none
 | .bl b=>some (.bool b)
 | .int i=>some (.int i)
 | .str x=>some (.str x)
 | .tup xs=>(D.pys rd xs).map .tuple
 | .ro xs=>(D.pys rd xs).map .list
 | .ref i=>rd i
 | _=>none
noncomputable def D.pys(rd:Nat->Option PyData):List D->Option (List PyData)
 | []=>some []
 | x::xs=>(D.py rd x).bind fun d=>(D.pys rd xs).map fun ds=>d::ds
end
noncomputable def ZnT(h:Hd):Nat->Nat->Option PyData
 | 0,_=>none
 | n+1,i=>match h[i]? with
   | some (.lst xs)=>(D.pys (ZnT h n) xs).map .list
   | _=>none
noncomputable def ZiX(h:Hd)(d:D):Option PyData:=D.py (ZnT h 4) d
noncomputable def Za3(o:DO)(h:Hd):R D:=.ok (.ref h.length) (h++[o])
noncomputable def lstOf(d:D)(h:Hd):Option (List D):=match d with
 | .ref i=>match h[i]? with
   | some (.lst xs)=>some xs
   | _=>none
 | .ro xs=>some xs
 | _=>none
noncomputable def dicOf(GD:Str->Option (List (Key×D)))(d:D)(h:Hd):Option (List (Key×D)):=match d with
 | .ref i=>match h[i]? with
   | some (.dic kvs)=>some kvs
   | some (.fdic kvs)=>some kvs
   | _=>none
 | .kd x=>GD x
 | _=>none
noncomputable def keyOf:D->Option Key
 | .int i=>some (.inl i)
 | .str x=>some (.inr x)
 | _=>none
noncomputable def Zad(kvs:List (Key×D))(k:Key):Option D:=(kvs.find? fun p=>decide (p.1=k)).map (·.2)
noncomputable def putD(kvs:List (Key×D))(k:Key)(v:D):List (Key×D) :=
 if (kvs.any fun kv=>decide (kv.1=k))=true then kvs.map (fun kv=>if kv.1=k then (kv.1,v) else kv) else kvs++[(k,v)]
noncomputable def cutD(xs:List D)(lo hi:Option Int):List D:=(xs.drop (HT.sIx xs.length 0 lo)).take (HT.sIx xs.length xs.length hi - HT.sIx xs.length 0 lo)
noncomputable def D.flat:D->Bool
 | .int _|.str _|.bl _|.non=>true
 | _=>false
noncomputable def eqF:D->D->Bool
 | .int i,.int j=>i==j
 | .str i,.str j=>i==j
 | .non,.non=>true
 | .bl i,.bl j=>i==j
 | .int i,.bl j=>i==(if j then 1 else 0)
 | .bl i,.int j=>(if i then 1 else 0)==j
 | _,_=>false
noncomputable def Zc6(GD:Str->Option (List (Key×D)))(d:D)(h:Hd):Option Bool:=match d with
 | .non=>some false
 | .bl b=>some b
 | .int i=>some (i != 0)
 | .str x=>if x.length<=sizeLine then some (!(x.length==0)) else none
 | .tup xs=>some (!xs.isEmpty)
 | .ref i=>match h[i]? with
   | some (.lst xs)=>some (!xs.isEmpty)
   | some (.dic xs)=>some (!xs.isEmpty)
   | _=>none
 | .ro xs=>some (!xs.isEmpty)
 | _=>none
noncomputable def int2(x y:D)(k:Int->Int->R D):R D:=match x with
 | .int i=>match y with
   | .int j=>k i j
   | _=>.bad
 | _=>.bad
noncomputable def Znt(x y:D)(h:Hd):R D:=match x with
 | .int i=>match y with
   | .int j=>.ok (.int (i+j)) h
   | _=>.bad
 | .str i=>match y with
   | .str j=>if i.length+j.length<=sizeLine then .ok (.str (i++j)) h else .bad
   | _=>.bad
 | .tup xs=>match y with
   | .tup ys=>if xs.length+ys.length<=sizeLine then .ok (.tup (xs++ys)) h else .bad
   | _=>.bad
 | .ref i=>match y with
   | .ref j=>match h[i]? with
     | some (.lst xs)=>match h[j]? with
       | some (.lst ys)=>if xs.length+ys.length<=sizeLine then Za3 (.lst (xs++ys)) h else .bad
       | _=>.bad
     | _=>.bad
   | _=>.bad
 | _=>.bad
noncomputable def Ztb(x y:D)(h:Hd):R D:=match x with
 | .str z=>match y with
   | .int n=>if 0<=n/\n<=1000/\z.length<=1000 then .ok (.str (ZdX z n.toNat)) h else .bad
   | _=>.bad
 | x=>int2 x y fun i j=>if i.natAbs<2 ^ 2000/\j.natAbs<2 ^ 2000 then .ok (.int (i * j)) h else .bad
noncomputable def opB(op:Operator)(x y:D)(h:Hd):R D:=match op with
 | .Add=>Znt x y h
 | .Sub=>int2 x y fun i j=>.ok (.int (i - j)) h
 | .Mult=>Ztb x y h
 | .Mod=>int2 x y fun i j=>if 0<j then .ok (.int (i % j)) h else .bad
 | .FloorDiv=>int2 x y fun i j=>if 0<j/\j<1073741824 then .ok (.int (i / j)) h else .bad
 | .Pow=>int2 x y fun i j=>if 0<=j/\j<=1000000/\i.natAbs<2 ^ 64 then .ok (.int (i ^ j.toNat)) h else .bad
 | _=>.bad
noncomputable def Zdt(neg:Bool)(x y:D)(h:Hd):R D:=match ZiX h x,ZiX h y with
 | some a,some b=>if min a.depth b.depth<=1100 then .ok (.bl (if neg then !PyData.eqv a b else PyData.eqv a b)) h else .bad
 | _,_=>.bad
noncomputable def seqOf(d:D)(h:Hd):Option (List D):=match d with
 | .tup xs=>some xs
 | d=>lstOf d h
noncomputable def Za5(GD:Str->Option (List (Key×D)))(neg:Bool)(x y:D)(h:Hd):R D:=match seqOf y h with
 | some xs=>if x.flat&&xs.all D.flat then .ok (.bl (if neg then !xs.any (fun z=>eqF z x) else xs.any fun z=>eqF z x)) h else .bad
 | none=>match dicOf GD y h,keyOf x with
   | some kvs,some k=>.ok (.bl (if neg then !(Zad kvs k).isSome else (Zad kvs k).isSome)) h
   | _,_=>.bad
noncomputable def Zg6(f:Int->Int->Bool)(x y:D)(h:Hd):R D:=match x,y with
 | .int i,.int j=>.ok (.bl (f i j)) h
 | _,_=>.bad
noncomputable def opN(neg:Bool)(x y:D)(h:Hd):R D:=match y with
 | .non=>.ok (.bl (if neg then !decide (x=.non) else decide (x=.non))) h
 | _=>.bad
noncomputable def opC(GD:Str->Option (List (Key×D)))(op:CmpOp)(x y:D)(h:Hd):R D:=match op with
 | .Eq=>Zdt false x y h
 | .NotEq=>Zdt true x y h
 | .Lt=>Zg6 (fun i j=>decide (i<j)) x y h
 | .LtE=>Zg6 (fun i j=>decide (i<=j)) x y h
 | .Gt=>Zg6 (fun i j=>decide (j<i)) x y h
 | .GtE=>Zg6 (fun i j=>decide (j<=i)) x y h
 | .In=>Za5 GD false x y h
 | .NotIn=>Za5 GD true x y h
 | .Is=>opN false x y h
 | .IsNot=>opN true x y h
noncomputable def Zdr(GD:Str->Option (List (Key×D)))(x y:D)(h:Hd):R D:=match y with
 | .int i=>match seqOf x h with
   | some xs=>R.ofO (atI xs i) h
   | none=>match x with
     | .str z=>if z.length<=sizeLine then R.ofO ((atI z.cps.toList i).map fun c=>.str ⟨#[c]⟩) h else .bad
     | _=>match dicOf GD x h with
       | some kvs=>R.ofO (Zad kvs (.inl i)) h
       | none=>.bad
 | .str z=>match dicOf GD x h with
   | some kvs=>R.ofO (Zad kvs (.inr z)) h
   | none=>.bad
 | _=>.bad
noncomputable def Zk0(x:D)(l u:Option Int)(h:Hd):R D:=match x with
 | .tup xs=>.ok (.tup (cutD xs l u)) h
 | .str y=>if y.length<=sizeLine then .ok (.str (StrLaws.sliceText y l u)) h else .bad
 | d=>match lstOf d h with
   | some xs=>Za3 (.lst (cutD xs l u)) h
   | none=>.bad
noncomputable def Zsl(d:D)(h:Hd):Option String:=match d with
 | .int _=>some "int"
 | .str _=>some "str"
 | .bl _=>some "bool"
 | .non=>some "NoneType"
 | .tup _=>some "tuple"
 | d=>(lstOf d h).map fun _ => "list"
noncomputable def Zjg (t T:String):Option Bool:=if T∈["int", "str", "bool", "tuple", "list"]/\t∈["int", "str", "bool", "tuple", "list", "NoneType"] then some (t==T || (t == "bool" && T == "int")) else none
noncomputable def intsOf:List D->Option (List Int)
 | []=>some []
 | .int i::r=>(intsOf r).map fun z=>i::z
 | _=>none
noncomputable def ZeJ:List D->Option (List Bool)
 | []=>some []
 | .bl i::r=>(ZeJ r).map fun z=>i::z
 | _=>none
noncomputable def strsOf:List D->Option (List Str)
 | []=>some []
 | .str i::r=>(strsOf r).map fun z=>i::z
 | _=>none
noncomputable def ZbB:List (Key×D)->Option (List Str)
 | []=>some []
 | (.inr x,_)::r=>(ZbB r).map fun z=>x::z
 | _=>none
noncomputable def Zka:List (Key×D)->Option (List Int)
 | []=>some []
 | (.inl x,_)::r=>(Zka r).map fun z=>x::z
 | _=>none
noncomputable def ZsP(x:Int):List Int->List Int
 | []=>[x]
 | y::r=>if y<x then y::ZsP x r else x::y::r
noncomputable def ZpN:List Int->List Int
 | []=>[]
 | x::r=>ZsP x (ZpN r)
noncomputable def ZkP(x:Str):List Str->List Str
 | []=>[x]
 | y::r=>if ltCps y.cps.toList x.cps.toList then y::ZkP x r else x::y::r
noncomputable def ZaH:List Str->List Str
 | []=>[]
 | x::r=>ZkP x (ZaH r)
noncomputable def ddS:List Str->List Str
 | []=>[]
 | x::r=>if x∈r then ddS r else x::ddS r
noncomputable def Zpv(xs:List D)(h:Hd):R D:=match xs with
 | [.str y]=>if y.length<=sizeLine then .ok (.int y.length) h else .bad
 | [d]=>R.ofO ((seqOf d h).map fun xs=>.int xs.length) h
 | _=>.bad
noncomputable def ZrX(xs:List D)(h:Hd):R D:=match xs with
 | [d,.ty T]=>R.ofO ((Zsl d h).bind fun t=>(Zjg t T).map .bl) h
 | _=>.bad
noncomputable def ZrY(xs:List D)(h:Hd):R D:=match xs with
 | [.int i]=>.ok (.int i) h
 | [.bl b]=>.ok (.int (if b then 1 else 0)) h
 | _=>.bad
noncomputable def Zpt(xs:List D)(h:Hd):R D:=match xs with
 | [.tup xs]=>.ok (.tup xs) h
 | [d]=>R.ofO ((lstOf d h).map .tup) h
 | _=>.bad
noncomputable def Zve(xs:List D)(h:Hd):R D:=match xs with
 | [d]=>match seqOf d h with
   | some xs=>Za3 (.lst xs) h
   | none=>.bad
 | _=>.bad
noncomputable def Zpu(xs:List D)(h:Hd):R D:=match xs with
 | [d]=>R.ofO (((lstOf d h).bind intsOf).map fun ns=>.int ns.sum) h
 | _=>.bad
noncomputable def Zjs(xs:List D)(h:Hd):R D:=match xs with
 | [d]=>R.ofO (((lstOf d h).bind ZeJ).map fun bs=>.bl (bs.all id)) h
 | _=>.bad
noncomputable def ZdR(GD:Str->Option (List (Key×D)))(xs:List D)(h:Hd):R D:=match xs with
 | [d]=>match (dicOf GD d h).bind ZbB with
   | some ss=>if ss.length<64/\ss.all PyData.strOk=true then Za3 (.lst ((ZaH ss).map .str)) h else .bad
   | none=>.bad
 | _=>.bad
noncomputable def Zvd(GD:Str->Option (List (Key×D)))(xs:List D)(h:Hd):R D:=match xs with
 | [d]=>match (dicOf GD d h).bind Zka with
   | some ns=>if ns.length<64 then Za3 (.lst ((ZpN ns).map .int)) h else .bad
   | none=>.bad
 | _=>.bad
noncomputable def Zvg(GD:Str->Option (List (Key×D)))(xs:List D)(h:Hd):R D:=match xs with
 | [d]=>R.ofO ((dicOf GD d h).map fun kvs=>.int kvs.length) h
 | _=>.bad
noncomputable def Zvk(xs:List D)(h:Hd):R D:=match xs with
 | [.ref i]=>match h[i]? with
   | some (.dic kvs)=>Za3 (.dic kvs) h
   | _=>.bad
 | _=>.bad
noncomputable def Zvj(GD:Str->Option (List (Key×D)))(xs:List D)(h:Hd):R D:=match xs with
 | [d]=>match (dicOf GD d h).bind ZbB with
   | some ss=>if ss.all PyData.strOk=true then Za3 (.lst (ss.map .str)) h else .bad
   | none=>.bad
 | _=>.bad
noncomputable def ZrW(xs:List D)(h:Hd):R D:=match xs with
 | [.int i]=>if i.natAbs.log2<1920/\PyData.strOk (Str.ofString (toString i))=true then .ok (.str (Str.ofString (toString i))) h else .bad
 | [.str y]=>.ok (.str y) h
 | _=>.bad
noncomputable def Zpw(xs:List D)(h:Hd):R D:=match xs with
 | [.str y]=>match PySem.intText? y with
   | some n=>if y.length<=640 then .ok (.int n) h else .bad
   | none=>.bad
 | _=>.bad
noncomputable def Zts:D->Bool
 | .str _=>true
 | _=>false
noncomputable def txm(m:Tf)(x y:D)(h:Hd):R D:=match m,x with
 | .spl,.str a=>match y with
   | .str b=>if b=L2.blk/\a.length<=1000000/\(L2.ZdV a).length<=1000002/\(L2.ZdV a).all PyData.strOk=true then Za3 (.lst ((L2.ZdV a).map .str)) h else .bad
   | _=>.bad
 | .joi,.str b=>match (lstOf y h).bind strsOf with
   | some ss=>if b=L2.blk/\JoinOk L2.blk ss=true/\PyData.strOk (L2.ZK ss)=true then .ok (.str (L2.ZK ss)) h else .bad
   | none=>.bad
 | _,_=>.bad
noncomputable def Znk(x y:D)(h:Hd):R D:=match x,y with
 | .str a,.str b=>.ok (.bl (!(Builtin.Str.occurrences b a 0 b.length 1).isEmpty)) h
 | _,_=>.bad
noncomputable def Zuy(h:Hd)(o:Option D)(d:D):Bool:=decide (o=some d)&&match ZiX h d with
 | some p=>decide (p.depth<=60)&&PyData.eqv p p
 | none=>false
noncomputable def ZtU(GD:Str->Option (List (Key×D)))(x y:D)(h:Hd):R D:=match dicOf GD x h with
 | some k1=>match dicOf GD y h with
   | some k2=>if k1.length=k2.length/\(k1.all fun p=>Zuy h (Zad k2 p.1) p.2)=true then .ok (.bl false) h else .bad
   | none=>.bad
 | none=>.bad
noncomputable def Zqb(x d:D)(h:Hd):R D:=match d with
 | .int d=>R.ofO (((lstOf x h).bind intsOf).map fun ns=>.int (Zte ns d)) h
 | _=>.bad
noncomputable def bMx(xs:List D)(h:Hd):R D:=match xs with
 | [.int i,.int j]=>.ok (.int (if j > i then j else i)) h
 | [d]=>match (lstOf d h).bind intsOf with
   | some ns=>if ns≠[] then .ok (.int (Zte ns 0)) h else .bad
   | none=>.bad
 | _=>.bad
noncomputable def Zcq(GD:Str->Option (List (Key×D))):Bf->List D->Hd->R D
 | .len=>Zpv
 | .isi=>ZrX
 | .int=>ZrY
 | .tup=>Zpt
 | .lst=>Zve
 | .sum=>Zpu
 | .all=>Zjs
 | .srt=>ZdR GD
 | .mx=>bMx
 | .sri=>Zvd GD
 | .lnd=>Zvg GD
 | .dct=>Zvk
 | .ldk=>Zvj GD
 | .sto=>ZrW
 | .itx=>Zpw
noncomputable def Zqa(x:D)(h:Hd):R D:=match x with
 | .tup (y::ys)=>.ok (.tup (y::ys).reverse) h
 | _=>.bad
noncomputable def Zvf(x:D)(h:Hd):R D:=match x with
 | .tup ys=>Za3 (.lst ys.reverse) h
 | _=>.bad
noncomputable def Ztr:D->Bool
 | .tup _=>true
 | _=>false
noncomputable def ZtT(x y:D)(h:Hd):R D:=match x,y with
 | .tup xs,.str z=>match strsOf xs with
   | some ss=>R.ofO ((Tx.place z ss).map fun (j:Nat)=>.int (j:Int)) h
   | none=>.bad
 | _,_=>.bad
noncomputable def Zvh(x y:D)(h:Hd):R D:=match lstOf x h,y with
 | some xs,.str z=>match strsOf xs with
   | some ss=>R.ofO ((Tx.place z ss).map fun (j:Nat)=>.int (j:Int)) h
   | none=>.bad
 | _,_=>.bad
noncomputable def Zvi(x y:D)(h:Hd):R D:=match ZiX h x,ZiX h y with
 | some a,some (.list bs)=>if min (PyData.depthAll bs) a.depth<=1000 then .ok (.bl (bs.any fun b=>PyData.eqv b a)) h else .bad
 | _,_=>.bad
noncomputable def Zc7:List D->Option (List (Key×D))
 | []=>some []
 | k::v::r=>match keyOf k,Zc7 r with
   | some k,some r=>some ((k,v)::r)
   | _,_=>none
 | _=>none
noncomputable def Zd1(kvs more:List (Key×D)):List (Key×D):=more.foldl (fun acc kv=>putD acc kv.1 kv.2) kvs
noncomputable def ZmC(i:Nat)(ys xs:List D)(h:Hd):R D:=match xs with
 | [d]=>if ys.length<sizeLine then .ok .non (h.set i (.lst (ys++[d]))) else .bad
 | _=>.bad
noncomputable def ZoN(i:Nat)(ys xs:List D)(h:Hd):R D:=match xs with
 | [.ref j]=>match h[j]? with
   | some (.lst zs)=>if ys.length+zs.length<=sizeLine then .ok .non (h.set i (.lst (ys++zs))) else .bad
   | _=>.bad
 | [.tup zs]=>if ys.length+zs.length<=sizeLine then .ok .non (h.set i (.lst (ys++zs))) else .bad
 | _=>.bad
noncomputable def Zrf(i:Nat)(ys xs:List D)(h:Hd):R D:=match xs with
 | []=>match ys[ys.length - 1]? with
   | some y=>.ok y (h.set i (.lst ys.dropLast))
   | none=>.bad
 | _=>.bad
noncomputable def Ztf(i:Nat)(ys xs:List D)(h:Hd):R D:=match xs with
 | []=>.ok .non (h.set i (.lst ys.reverse))
 | _=>.bad
noncomputable def Ztg(i:Nat)(ys xs:List D)(h:Hd):R D:=match xs with
 | []=>.ok .non (h.set i (.lst []))
 | _=>.bad
noncomputable def shD(x:D)(h:Hd):R Str:=match ZiX h x with
 | some d=>if L2.Zuv d=true then .ok d.shown h else .bad
 | none=>.bad
noncomputable def ZfA:Mf->Nat->List D->List D->Hd->R D
 | .app=>ZmC
 | .ext=>ZoN
 | .pop=>Zrf
 | .rev=>Ztf
 | .clr=>Ztg
noncomputable def Zbp(m:Mf)(o:D)(xs:List D)(h:Hd):R D:=match o with
 | .ref i=>match h[i]? with
   | some (.lst ys)=>ZfA m i ys xs h
   | _=>.bad
 | _=>.bad
noncomputable def ZdB(o:D)(h:Hd):Bool:=match o with
 | .ref i=>match h[i]? with
   | some (.lst _)=>true
   | _=>false
 | _=>false
noncomputable def ZbU(o i v:D)(h:Hd):R Unit:=match o with
 | .ref a=>match h[a]? with
   | some (.lst xs)=>match i with
     | .int k=>match ixN xs.length k with
       | some j=>.ok () (h.set a (.lst (xs.set j v)))
       | none=>.bad
     | _=>.bad
   | some (.dic kvs)=>match keyOf i with
     | some k=>if kvs.length<sizeLine then .ok () (h.set a (.dic (putD kvs k v))) else .bad
     | none=>.bad
   | _=>.bad
 | _=>.bad
structure Wk where
 src:List (Nat×List D)
 xs:List D
noncomputable def Wk.stays:List (Nat×List D)->Hd->Bool
 | [],_=>true
 | (i,xs)::r,h=>decide (h[i]? = some (.lst xs))&&Wk.stays r h
noncomputable def Zfk(d:D)(h:Hd):Option Wk:=match d with
 | .tup xs=>some ⟨[],xs⟩
 | .ro xs=>some ⟨[],xs⟩
 | .ref i=>match h[i]? with
   | some (.lst xs)=>some ⟨[(i,xs)],xs⟩
   | _=>none
 | _=>none
noncomputable def ZhF(d:D)(h:Hd):Option Wk:=match d with
 | .ro xs=>some ⟨[],xs⟩
 | .ref i=>match h[i]? with
   | some (.lst xs)=>some ⟨[(i,xs)],xs⟩
   | _=>none
 | _=>none
noncomputable def Zlx(d:D)(h:Hd):Option Wk:=match d with
 | .tup xs=>some ⟨[],xs⟩
 | .ref i=>match h[i]? with
   | some (.lst xs)=>some ⟨[(i,xs)],xs⟩
   | _=>none
 | _=>none
noncomputable def ZJ(lo:Int)(n:Nat):List D:=(List.range n).map fun (k:Nat)=>.int (lo+(k:Int))
noncomputable def Zb1(xs:List D):List D:=xs.mapIdx fun k x=>.tup [.int (k:Int),x]
noncomputable def ZrO(xs:List D):List D:=xs.mapIdx fun k x=>.tup [.int ((k+1:Nat):Int),x]
noncomputable def Zfh(xs ys:List D):List D:=List.zipWith (fun x y=>.tup [x,y]) xs ys
noncomputable def Zto:Key->D
 | .inl i=>.int i
 | .inr x=>.str x
noncomputable def zpD(x y:D)(h:Hd):R Wk:=match x with
 | .tup xs=>match y with
   | .tup ys=>if xs.length=ys.length then .ok ⟨[],Zfh xs ys⟩ h else .bad
   | _=>.bad
 | _=>.bad
noncomputable def zlD(x y:D)(h:Hd):R Wk:=match x with
 | .ref i=>match y with
   | .ref j=>match h[i]? with
     | some (.lst xs)=>match h[j]? with
       | some (.lst ys)=>if xs.length=ys.length then .ok ⟨[(i,xs),(j,ys)],Zfh xs ys⟩ h else .bad
       | _=>.bad
     | _=>.bad
   | _=>.bad
 | _=>.bad
noncomputable def Zu1(x:D)(h:Hd):R Wk:=match x with
 | .ref i=>match h[i]? with
   | some (.dic kvs)=>.ok ⟨[],kvs.map fun p=>Zto p.1⟩ (h.set i (.fdic kvs))
   | some (.fdic kvs)=>.ok ⟨[],kvs.map fun p=>Zto p.1⟩ h
   | _=>.bad
 | _=>.bad
noncomputable def Zaj(i:Int):Bool:=decide (-(2 ^ 62)<=i)&&decide (i<2 ^ 62)
noncomputable def ZiT:List Nat->List D->Ev->Ev
 | i::is,x::xs,S=>ZiT is xs (S.set i (some x))
 | _,_,S=>S
noncomputable def Zbt(g:Tg)(d:D)(S:Ev):Option Ev:=match g with
 | .nm i=>some (S.set i (some d))
 | .two i j=>match d with
   | .tup [a,b]=>some ((S.set i (some a)).set j (some b))
   | _=>none
 | .many is=>match d with
   | .tup xs=>if xs.length=is.length then some (ZiT is xs S) else none
   | _=>none
noncomputable def ZeI(js:List (Option Nat))(S:Ev):Ev:=js.map fun o=>o.bind fun j=>(S[j]?).join
inductive Fl where
 | nx|bk|ct|rt (d:D)
noncomputable def ZN(src:List (Nat×List D))(g:Tg)(body:Ev->Hd->R (Fl×Ev)):List D->Ev->Hd->R (Fl×Ev)
 | [],S,h=>if Wk.stays src h then .ok (.nx,S) h else .bad
 | d::ds,S,h=>if Wk.stays src h then match Zbt g d S with
     | none=>.bad
     | some ρ1=>(body ρ1 h).bind fun p h2=>match p with
       | (.nx,ρ2)=>ZN src g body ds ρ2 h2
       | (.ct,ρ2)=>ZN src g body ds ρ2 h2
       | (.bk,ρ2)=>.ok (.nx,ρ2) h2
       | (.rt d,ρ2)=>.ok (.rt d,ρ2) h2
   else .bad
noncomputable def Z7(test:Ev->Hd->R Bool)(body:Ev->Hd->R (Fl×Ev)):Nat->Ev->Hd->R (Fl×Ev)
 | 0,_,_=>.bad
 | n+1,S,h=>(test S h).bind fun b h1=>if b then (body S h1).bind fun p h2=>match p with
     | (.nx,ρ2)=>Z7 test body n ρ2 h2
     | (.ct,ρ2)=>Z7 test body n ρ2 h2
     | (.bk,ρ2)=>.ok (.nx,ρ2) h2
     | (.rt d,ρ2)=>.ok (.rt d,ρ2) h2
   else .ok (.nx,S) h1
@[reducible] def R.plain:R α->R α
 | .exc _ _=>.bad
 | r=>r
noncomputable def Zu(src:List (Nat×List D))(g:Tg)(test:Ev->Hd->R Bool)(elt:Ev->Hd->R D):List D->Ev->List D->Hd->R (List D)
 | [],_,acc,h=>if Wk.stays src h then .ok acc h else .bad
 | d::ds,S,acc,h=>if Wk.stays src h/\acc.length<sizeLine then match Zbt g d S with
     | none=>.bad
     | some ρ1=>(test ρ1 h).plain.bind fun b h1=>if b then (elt ρ1 h1).plain.bind fun x h2=>Zu src g test elt ds S (acc++[x]) h2 else Zu src g test elt ds S acc h1
   else .bad
noncomputable def ZrS(C:Str)(i:Nat)(S:Ev)(r:R D):R (Fl×Ev):=match r with
 | .bad=>.bad
 | .ok v h=>.ok (.nx,S.set i (some v)) h
 | .exc c h=>if c=C then .ok (.nx,S.set i (some .non)) h else .bad
noncomputable def ZrR(W w:Str)(i n:Nat)(S:Ev)(r:R D):R (Fl×Ev):=match r with
 | .bad=>.bad
 | .ok v h=>.ok (.nx,S.set i (some v)) h
 | .exc c h=>if c=W then .ok (.nx,((S.set n none).set i (some (.ref h.length))).set n none) (h++[.lst [.str w,.bl true]]) else .bad
noncomputable def mnm (C m:Str):Str:=C++(O "." ++ m)
noncomputable def ZL(d:D)(h:Hd):Option (Str×List (Str×D)):=match d with
 | .ref i=>match h[i]? with
   | some (.ins C fs)=>some (C,fs)
   | _=>none
 | _=>none
noncomputable def Zd6(Cs:List Str)(f:Str)(x:D)(h:Hd):R D:=match ZL x h with
 | some (C,fs)=>if C∈Cs then R.ofO (fs.lookup f) h else .bad
 | none=>.bad
noncomputable def ZkQ(f:Str)(v:D):List (Str×D)->List (Str×D)
 | []=>[(f,v)]
 | (g,x)::r=>if g=f then (g,v)::r else (g,x)::ZkQ f v r
noncomputable def Zfs(Cs:List Str)(f:Str)(x d:D)(h:Hd):R D:=match x with
 | .ref i=>match h[i]? with
   | some (.ins C fs)=>if C∈Cs/\fs.length<1000 then .ok .non (h.set i (.ins C (ZkQ f d fs))) else .bad
   | _=>.bad
 | _=>.bad
noncomputable def Zmx (Cf:Str->List D->Hd->R D) (C:Str) (xs:List D) (h:Hd):R D:=(Cf (mnm C (O "__init__")) (.ref h.length::xs) (h++[.ins C []])).bind fun d h2=>match d with
 | .non=>.ok (.ref h.length) h2
 | _=>.bad
structure Tb where
 G:Str->Option D
 GD:Str->Option (List (Key×D))
 C:Str->List D->Hd->R D
 L:Nat
mutual
noncomputable def ev(T:Tb):Ex->Ev->Hd->R D
 | .var i,S,h=>R.ofO (S[i]?).join h
 | .cst d,_,h=>.ok d h
 | .glo x,_,h=>R.ofO (T.G x) h
 | .bin op a b,S,h=>(ev T a S h).bind fun x h1=>(ev T b S h1).bind fun y h2=>opB op x y h2
 | .cmp op a b,S,h=>(ev T a S h).bind fun x h1=>(ev T b S h1).bind fun y h2=>opC T.GD op x y h2
 | .cmp2 op op' a b c,S,h=>(ev T a S h).bind fun x h1=>(ev T b S h1).bind fun y h2=>(opC T.GD op x y h2).bind fun r h3=>match r with
   | .bl true=>(ev T c S h3).bind fun z h4=>opC T.GD op' y z h4
   | .bl false=>.ok (.bl false) h3
   | _=>.bad
 | .neg a,S,h=>(ev T a S h).bind fun x h1=>match x with
   | .int i=>.ok (.int (-i)) h1
   | _=>.bad
 | .nt a,S,h=>(ev T a S h).bind fun x h1=>match x with
   | .bl b=>.ok (.bl (!b)) h1
   | _=>.bad
 | .ands es,S,h=>evAnd T es S h
 | .ors es,S,h=>evOr T es S h
 | .ite c a b,S,h=>(tst T c S h).bind fun c h1=>if c then ev T a S h1 else ev T b S h1
 | .tupl es,S,h=>(evs T es S h).bind fun xs h1=>if xs.length<=sizeLine then .ok (.tup xs) h1 else .bad
 | .lstl es,S,h=>(evs T es S h).bind fun xs h1=>if xs.length<=sizeLine then Za3 (.lst xs) h1 else .bad
 | .ix a i,S,h=>(ev T a S h).bind fun x h1=>(ev T i S h1).bind fun y h2=>Zdr T.GD x y h2
 | .sl a lo hi,S,h=>(ev T a S h).bind fun x h1=>(evo T lo S h1).bind fun l h2=>(evo T hi S h2).bind fun u h3=>Zk0 x l u h3
 | .blt f es,S,h=>(evs T es S h).bind fun xs h1=>Zcq T.GD f xs h1
 | .call f es,S,h=>(evs T es S h).bind fun xs h1=>T.C f xs h1
 | .meth m o es,S,h=>(ev T o S h).bind fun x h1=>if ZdB x h1 then (evs T es S h1).bind fun xs h2=>Zbp m x xs h2 else .bad
 | .comp _ js it g c e,S,h=>(evi T it S h).bind fun w h1=>(Zu w.src g (tsto T c) (ev T e) w.xs (ZeI js S) [] h1).bind fun xs h2=>Za3 (.lst xs) h2
 | .sorts e,S,h=>(ev T e S h).bind fun x h1=>match (lstOf x h1).bind strsOf with
   | some ss=>if ss.length<4000/\(ddS ss).length<64/\ss.all PyData.strOk=true then Za3 (.lst ((ZaH (ddS ss)).map .str)) h1 else .bad
   | none=>.bad
 | .maxd e d,S,h=>(ev T e S h).bind fun x h1=>(ev T d S h1).bind fun y h2=>Zqb x y h2
 | .dictl ps,S,h=>(evs T ps S h).bind fun xs h1=>match Zc7 xs with
   | some kvs=>if kvs.length<=15 then Za3 (.dic (Zd1 [] kvs)) h1 else .bad
   | none=>.bad
 | .att Cs o f,S,h=>(ev T o S h).bind fun x h1=>Zd6 Cs f x h1
 | .mk C es,S,h=>(evs T es S h).bind fun xs h1=>Zmx T.C C xs h1
 | .mcl C m o es,S,h=>(ev T o S h).bind fun x h1=>match ZL x h1 with
   | some (C',fs)=>if C'=C/\fs.lookup m=none then (evs T es S h1).bind fun xs h2=>T.C (mnm C m) (x::xs) h2 else .bad
   | none=>.bad
 | .any,_,_=>.bad
 | .trev e,S,h=>(ev T e S h).bind fun x h1=>Zqa x h1
 | .lrv e,S,h=>(ev T e S h).bind fun x h1=>Zvf x h1
 | .tix o e,S,h=>(ev T o S h).bind fun x h1=>if Ztr x then (ev T e S h1).bind fun y h2=>ZtT x y h2 else .bad
 | .lix o e,S,h=>(ev T o S h).bind fun x h1=>if ZdB x h1 then (ev T e S h1).bind fun y h2=>Zvh x y h2 else .bad
 | .lin a b,S,h=>(ev T a S h).bind fun x h1=>(ev T b S h1).bind fun y h2=>Zvi x y h2
 | .tmt m o e,S,h=>(ev T o S h).bind fun x h1=>if Zts x then (ev T e S h1).bind fun y h2=>txm m x y h2 else .bad
 | .sin a b,S,h=>(ev T a S h).bind fun x h1=>(ev T b S h1).bind fun y h2=>Znk x y h2
 | .dne a b,S,h=>(ev T a S h).bind fun x h1=>(ev T b S h1).bind fun y h2=>ZtU T.GD x y h2
 | .rpn a b,S,h=>(ev T a S h).bind fun x h1=>(shD x h1).bind fun p h1=>(ev T b S h1).bind fun y h2=>(shD y h2).bind fun q h3=>.ok (.bl (!decide (p=q))) h3
noncomputable def evs(T:Tb):Exs->Ev->Hd->R (List D)
 | .nil,_,h=>.ok [] h
 | .cons e es,S,h=>(ev T e S h).bind fun x h1=>(evs T es S h1).bind fun xs h2=>.ok (x::xs) h2
noncomputable def evAnd(T:Tb):Exs->Ev->Hd->R D
 | .nil,_,_=>.bad
 | .cons e es,S,h=>match es with
   | .nil=>ev T e S h
   | .cons _ _=>(ev T e S h).bind fun x h1=>match x with
     | .bl true=>evAnd T es S h1
     | .bl false=>.ok (.bl false) h1
     | _=>.bad
noncomputable def evOr(T:Tb):Exs->Ev->Hd->R D
 | .nil,_,_=>.bad
 | .cons e es,S,h=>match es with
   | .nil=>ev T e S h
   | .cons _ _=>(ev T e S h).bind fun x h1=>match x with
     | .bl true=>.ok (.bl true) h1
     | .bl false=>evOr T es S h1
     | _=>.bad
noncomputable def evo(T:Tb):Option Ex->Ev->Hd->R (Option Int)
 | none,_,h=>.ok none h
 | some e,S,h=>(ev T e S h).bind fun x h1=>match x with
   | .int i=>.ok (some i) h1
   | _=>.bad
noncomputable def tst(T:Tb):Tx->Ev->Hd->R Bool
 | .ex e,S,h=>(ev T e S h).bind fun x h1=>R.ofO (Zc6 T.GD x h1) h1
 | .ands ts,S,h=>tstAnd T ts S h
 | .ors ts,S,h=>tstOr T ts S h
 | .nt a,S,h=>(tst T a S h).bind fun c h1=>.ok (!c) h1
noncomputable def tstAnd(T:Tb):Txs->Ev->Hd->R Bool
 | .one t,S,h=>tst T t S h
 | .cons t ts,S,h=>(tst T t S h).bind fun c h1=>if c then tstAnd T ts S h1 else .ok false h1
noncomputable def tstOr(T:Tb):Txs->Ev->Hd->R Bool
 | .one t,S,h=>tst T t S h
 | .cons t ts,S,h=>(tst T t S h).bind fun c h1=>if c then .ok true h1 else tstOr T ts S h1
noncomputable def tsto(T:Tb):Option Tx->Ev->Hd->R Bool
 | none,_,h=>.ok true h
 | some e,S,h=>tst T e S h
noncomputable def evi(T:Tb):Ix->Ev->Hd->R Wk
 | .pl e,S,h=>(ev T e S h).bind fun x h1=>R.ofO (Zfk x h1) h1
 | .rng e,S,h=>(ev T e S h).bind fun x h1=>match x with
   | .int j=>if Zaj j then .ok ⟨[],ZJ 0 j.toNat⟩ h1 else .bad
   | _=>.bad
 | .rng2 a b,S,h=>(ev T a S h).bind fun x h1=>(ev T b S h1).bind fun y h2=>match x,y with
   | .int i,.int j=>if Zaj i&&Zaj j then .ok ⟨[],ZJ i (j - i).toNat⟩ h2 else .bad
   | _,_=>.bad
 | .enu e,S,h=>(ev T e S h).bind fun x h1=>R.ofO ((ZhF x h1).map fun w=>⟨w.src,Zb1 w.xs⟩) h1
 | .rev e,S,h=>(ev T e S h).bind fun x h1=>R.ofO ((Zlx x h1).map fun w=>⟨w.src,w.xs.reverse⟩) h1
 | .en1 e,S,h=>(ev T e S h).bind fun x h1=>match x with
   | .tup xs=>.ok ⟨[],ZrO xs⟩ h1
   | _=>.bad
 | .en0 e,S,h=>(ev T e S h).bind fun x h1=>match x with
   | .tup xs=>.ok ⟨[],Zb1 xs⟩ h1
   | _=>.bad
 | .dk e,S,h=>(ev T e S h).bind fun x h1=>Zu1 x h1
 | .zp a b,S,h=>(ev T a S h).bind fun x h1=>(ev T b S h1).bind fun y h2=>zpD x y h2
 | .tw e,S,h=>(ev T e S h).bind fun x h1=>match x with
   | .str y=>.ok ⟨[],y.cps.toList.map fun c=>.str ⟨#[c]⟩⟩ h1
   | _=>.bad
 | .zl a b,S,h=>(ev T a S h).bind fun x h1=>(ev T b S h1).bind fun y h2=>zlD x y h2
end
noncomputable def Zuf(i j:Nat)(S:Ev)(x:D)(h:Hd):R (Fl×Ev):=match lstOf x h with
 | some [a,b]=>.ok (.nx,(S.set i (some a)).set j (some b)) h
 | _=>.bad
mutual
noncomputable def xs1(T:Tb):Sx->Ev->Hd->R (Fl×Ev)
 | .ret e,S,h=>(ev T e S h).bind fun x h1=>.ok (.rt x,S) h1
 | .set g e,S,h=>(ev T e S h).bind fun x h1=>(R.ofO (Zbt g x S) h1).bind fun ρ1 h2=>.ok (.nx,ρ1) h2
 | .put o i e,S,h=>(ev T e S h).bind fun x h1=>(ev T o S h1).bind fun y h2=>(ev T i S h2).bind fun z h3=>(ZbU y z x h3).bind fun _ h4=>.ok (.nx,S) h4
 | .aug i op e,S,h=>(R.ofO (S[i]?).join h).bind fun x h1=>(ev T e S h1).bind fun y h2=>match op,x,y with
   | .Add,.int a,.int b=>.ok (.nx,S.set i (some (.int (a+b)))) h2
   | _,_,_=>.bad
 | .drp e,S,h=>(ev T e S h).bind fun _ h1=>.ok (.nx,S) h1
 | .iff c a b,S,h=>(tst T c S h).bind fun t h1=>if t then xs2 T a S h1 else xs2 T b S h1
 | .whl c b,S,h=>Z7 (tst T c) (xs2 T b) T.L S h
 | .forr g it b,S,h=>(evi T it S h).bind fun w h1=>ZN w.src g (xs2 T b) w.xs S h1
 | .pas,S,h=>.ok (.nx,S) h
 | .brk,S,h=>.ok (.bk,S) h
 | .cnt,S,h=>.ok (.ct,S) h
 | .seta Cs o f e,S,h=>(ev T e S h).bind fun d h1=>(ev T o S h1).bind fun x h2=>(Zfs Cs f x d h2).bind fun _ h3=>.ok (.nx,S) h3
 | .auga Cs o f e,S,h=>(ev T o S h).bind fun x h1=>(Zd6 Cs f x h1).bind fun v h2=>(ev T e S h2).bind fun y h3=>match v,y with
   | .int a,.int b=>if (ZL x h1).map (·.1)=(ZL x h3).map (·.1) then (Zfs Cs f x (.int (a+b)) h3).bind fun _ h4=>.ok (.nx,S) h4 else .bad
   | _,_=>.bad
 | .any,_,_=>.bad
 | .rai C e,S,h=>(ev T e S h).bind fun _ h1=>.exc C h1
 | .trs i f es C,S,h=>(evs T es S h).plain.bind fun xs h1=>ZrS C i S (T.C f xs h1)
 | .unl i j e,S,h=>(ev T e S h).bind fun x h1=>Zuf i j S x h1
 | .trw i n f es _ W w,S,h=>(evs T es S h).plain.bind fun xs h1=>ZrR W w i n S (T.C f xs h1)
noncomputable def xs2(T:Tb):Sxs->Ev->Hd->R (Fl×Ev)
 | .nil,S,h=>.ok (.nx,S) h
 | .cons s r,S,h=>(xs1 T s S h).bind fun p h1=>match p with
   | (.nx,ρ1)=>xs2 T r ρ1 h1
   | p=>.ok p h1
end
structure Fd where
 ps:List Str
 N:List Str
 body:Sxs
structure Pg where
 tb:List (Str×Fd)
 G:Str->Option D
 GD:Str->Option (List (Key×D))
 L:Nat
 ms:List (Str×Fd):=[]
noncomputable def Pg.look(P:Pg)(f:Str):Option Fd:=match P.tb.lookup f with
 | some fd=>some fd
 | none=>P.ms.lookup f
noncomputable def ZaG(N:List Str)(ds:List D):Ev:=ds.map some++List.replicate (N.length - ds.length) none
noncomputable def Ze:R (Fl×Ev)->R D
 | .ok (.rt d,_) h=>.ok d h
 | .ok (.nx,_) h=>.ok .non h
 | .exc c h=>.exc c h
 | _=>.bad
noncomputable def run(P:Pg):Nat->Str->List D->Hd->R D
 | 0,_,_,_=>.bad
 | n+1,f,ds,h=>match P.look f with
   | none=>.bad
   | some fd=>if ds.length=fd.ps.length then Ze (xs2 ⟨P.G,P.GD,run P n,P.L⟩ fd.body (ZaG fd.N ds) h) else .bad
noncomputable def Pg.tbl(P:Pg)(n:Nat):Tb:=⟨P.G,P.GD,run P n,P.L⟩
end IV
end
section
set_option tactic.hygienic false
namespace IV
open PySem PySem.Spec PyProof.Rows L2
noncomputable def FzL(K:PySem.W.Frag)(H:Hp)(a:Addr)(xs:List V):Prop :=
 (∃ o,H a=some (.frz o (.lst xs)))\/∃ (o:Obj) (its:Array Value) (n:Nat),K.lookup a=some o/\o.cls=.type "list" /\ o.dict=none/\o.data=.seq its n/\its.size<=sizeLine/\Zi xs its.toList
theorem FzL.sq{K:PySem.W.Frag}(h:FzL K H a xs):SqL K H a xs:=h.elim (fun ⟨o,h⟩=>.inl (.inr ⟨o,h⟩)) .inr
structure Yx where
 K:PySem.W.Frag
 mg:Str->Option Value
mutual
inductive RD(Y:Yx)(H:Hp)(B:List Addr):D->V->Prop
 | non:RD Y H B .non .non
 | bl (b:Bool):RD Y H B (.bl b) (.bl b)
 | int (i:Int):RD Y H B (.int i) (.int i)
 | str (x:Str) (ok:PyData.strOk x=true):RD Y H B (.str x) (.str x)
 | tup {a:Addr}{vs:List V}{ds:List D}:SqT Y.K H a vs->RDs Y H B ds vs->RD Y H B (.tup ds) (.ref a)
 | ref {i:Nat}{a:Addr}:B[i]? = some a->RD Y H B (.ref i) (.ref a)
 | ty (n:String):RD Y H B (.ty n) (.ty n)
 | ro {a:Addr}{vs:List V}{ds:List D}:FzL Y.K H a vs->RDs Y H B ds vs->RD Y H B (.ro ds) (.ref a)
 | kd {x:Str}{a:Addr}:Y.mg x=some (.ref a)->RD Y H B (.kd x) (.ref a)
inductive RDs(Y:Yx)(H:Hp)(B:List Addr):List D->List V->Prop
 | nil:RDs Y H B [] []
 | cons {d:D}{v:V}{ds:List D}{vs:List V}:RD Y H B d v->RDs Y H B ds vs->RDs Y H B (d::ds) (v::vs)
end
inductive RKs(Y:Yx)(H:Hp)(B:List Addr){κ:Type}:List (κ×D)->List (κ×V)->Prop
 | nil:RKs Y H B [] []
 | cons {k:κ}{d:D}{v:V}{ds:List (κ×D)}{vs:List (κ×V)}:RD Y H B d v->RKs Y H B ds vs->RKs Y H B ((k,d)::ds) ((k,v)::vs)
noncomputable def RO(Y:Yx)(H:Hp)(B:List Addr)(a:Addr):DO->Prop
 | .lst ds=>∃ vs,H a=some (.lst vs)/\RDs Y H B ds vs
 | .dic kvs=>∃ kvs',H a=some (.dK kvs')/\RKs Y H B kvs kvs'
 | .ins C fs=>∃ Ca dx fs',H a=some (.ins Ca dx fs')/\Y.mg C=some (.ref Ca)/\RKs Y H B fs fs'
 | .fdic kvs=>∃ o kvs',H a=some (.frz o (.dK kvs'))/\RKs Y H B kvs kvs'
noncomputable def ZbF(kvs:List (Key×D)):Prop:=∀ p∈kvs,∀ x,p.1=.inr x->PyData.strOk x=true
noncomputable def DOk:DO->Prop
 | .dic kvs=>ZbF kvs
 | .fdic kvs=>ZbF kvs
 | _=>True
structure RH(Y:Yx)(H:Hp)(B:List Addr)(h:Hd):Prop where
 len:h.length=B.length
 nd:B.Nodup
 ob:∀ (i:Nat) (o:DO) (a:Addr),h[i]? = some o->B[i]? = some a->RO Y H B a o
 ks:∀ (i:Nat) (o:DO),h[i]? = some o->DOk o
structure Gr(H:Hp)(B:List Addr)(H':Hp)(μ':List Addr):Prop where
 pre:∀ (i:Nat) (a:Addr),B[i]? = some a->μ'[i]? = some a
 new:∀ a∈μ',a∈B\/H a=none
 keep:∀ b o,b ∉ B->H b=some o->H' b=some o
 fz:∀ b o u,H b=some (.frz o u)->H' b=some (.frz o u)
theorem Gr.refl:Gr H B H B:=⟨fun _ _ h=>h,fun _ h=>.inl h,fun _ _ _ h=>h,fun _ _ _ h=>h⟩
theorem Gr.trans(a:Gr H B H1 μ1)(b:Gr H1 μ1 H2 μ2):Gr H B H2 μ2:=by
 refine ⟨fun i x h=>b.pre i x (a.pre i x h),fun x hx=>?_,fun x o hx h=>?_,fun x o u h=>b.fz x o u (a.fz x o u h)⟩
 . rcases b.new x hx with h|h
   . exact a.new x h
   . by_cases hm:x∈B
     . exact .inl hm
     . cases q:H x with
       | none=>exact .inr rfl
       | some o=>rw [a.keep x o hm q] at h;cases h
 . refine b.keep x o (fun hm=>?_) (a.keep x o hx h);rcases a.new x hm with z|z
   . exact hx z
   . rw [h] at z;cases z
noncomputable def Mu:Option HO->Prop
 | some (.lst _)|some (.dK _)|some (.ins _ _ _)|some (.frz _ (.dK _))=>True
 | _=>False
theorem RO.mut(h:RO Y H B a o):Mu (H a):=by
 cases o with
 | lst ds=>obtain ⟨vs,e,_⟩:=h;rw [e];trivial
 | dic ds=>obtain ⟨vs,e,_⟩:=h;rw [e];trivial
 | ins C ds=>obtain ⟨_,_,_,e,_⟩:=h;rw [e];trivial
 | fdic ds=>obtain ⟨_,_,e,_⟩:=h;rw [e];trivial
theorem RH.mem(r:RH Y H B h)(ha:a∈B):∃ (i:Nat) (o:DO),B[i]? = some a/\h[i]? = some o/\RO Y H B a o:=by
 obtain ⟨i,hi⟩:=List.mem_iff_getElem?.mp ha;have hl:i<h.length:=by
   rw [r.len];exact (Ob.mp hi).1
 exact ⟨i,h[i],hi,Og hl,r.ob i _ a (Og hl) hi⟩
theorem RH.mut(r:RH Y H B h)(ha:a∈B):Mu (H a):=let ⟨_,_,_,_,q⟩:=r.mem ha;q.mut
theorem Gr.rdT(r:RH Y H B h)(g:Gr H B H' μ')(t:SqT Y.K H a xs):SqT Y.K H' a xs:=by
 rcases t with t|t
 . rcases t with t|⟨o,t⟩
   . exact .inl (.inl (g.keep a _ (fun hm=>by have:=r.mut hm;rw [t] at this;exact this) t))
   . exact .inl (.inr ⟨o,g.fz a _ _ t⟩)
 . exact .inr t
theorem Gr.rdF(r:RH Y H B h)(g:Gr H B H' μ')(t:FzL Y.K H a xs):FzL Y.K H' a xs:=by
 rcases t with ⟨o,t⟩|t
 . exact .inl ⟨o,g.fz a _ _ t⟩
 . exact .inr t
section
variable {Y:Yx}{H H':Hp}{B μ':List Addr}{h:Hd}
structure Tr(Y:Yx)(H:Hp)(B:List Addr)(H':Hp)(μ':List Addr):Prop where
 t:∀ {a xs},SqT Y.K H a xs->SqT Y.K H' a xs
 f:∀ {a xs},FzL Y.K H a xs->FzL Y.K H' a xs
 m:∀ {i:Nat}{a},B[i]? = some a->μ'[i]? = some a
mutual
theorem RD.tr(T:Tr Y H B H' μ'):∀ {d:D}{v:V},RD Y H B d v->RD Y H' μ' d v
 | _,_,.non=>.non
 | _,_,.bl b=>.bl b
 | _,_,.int i=>.int i
 | _,_,.str x ok=>.str x ok
 | _,_,.tup t s=>.tup (T.t t) (RDs.tr T s)
 | _,_,.ref e=>.ref (T.m e)
 | _,_,.ty n=>.ty n
 | _,_,.ro t s=>.ro (T.f t) (RDs.tr T s)
 | _,_,.kd e=>.kd e
theorem RDs.tr(T:Tr Y H B H' μ'):∀ {d:List D}{v:List V},RDs Y H B d v->RDs Y H' μ' d v
 | _,_,.nil=>.nil
 | _,_,.cons a s=>.cons (RD.tr T a) (RDs.tr T s)
end
theorem RKs.tr(T:Tr Y H B H' μ'):∀ {d:List (κ×D)}{v:List (κ×V)},RKs Y H B d v->RKs Y H' μ' d v
 | _,_,.nil=>.nil
 | _,_,.cons a s=>.cons (a.tr T) (RKs.tr T s)
theorem RO.tr(T:Tr Y H B H' μ')(q:RO Y H B a o)(e:H' a=H a):RO Y H' μ' a o:=by
 cases o with
 | lst ds=>obtain ⟨vs,z,s⟩:=q;exact ⟨vs,e.trans z,s.tr T⟩
 | dic ds=>obtain ⟨vs,z,s⟩:=q;exact ⟨vs,e.trans z,s.tr T⟩
 | ins C ds=>obtain ⟨a1,a2,a3,z,m,s⟩:=q;exact ⟨a1,a2,a3,e.trans z,m,s.tr T⟩
 | fdic ds=>obtain ⟨o,vs,z,s⟩:=q;exact ⟨o,vs,e.trans z,s.tr T⟩
theorem Gr.tr(r:RH Y H B h)(g:Gr H B H' μ'):Tr Y H B H' μ':=⟨g.rdT r,g.rdF r,g.pre _ _⟩
theorem RD.mono(r:RH Y H B h)(g:Gr H B H' μ')(q:RD Y H B d v):RD Y H' μ' d v:=q.tr (g.tr r)
theorem RDs.mono(r:RH Y H B h)(g:Gr H B H' μ')(q:RDs Y H B d v):RDs Y H' μ' d v:=q.tr (g.tr r)
theorem RKs.mono{d:List (κ×D)}(r:RH Y H B h)(g:Gr H B H' μ')(q:RKs Y H B d v):RKs Y H' μ' d v:=q.tr (g.tr r)
theorem RDs.length:∀ {d:List D}{v:List V},RDs Y H B d v->d.length=v.length
 | _,_,.nil=>rfl
 | _,_,.cons a s=>by rw [Os,Os,s.length]
theorem RKs.length:∀ {d:List (κ×D)}{v:List (κ×V)},RKs Y H B d v->d.length=v.length
 | _,_,.nil=>rfl
 | _,_,.cons a s=>by rw [Os,Os,s.length]
theorem RDs.get:∀ {ds:List D}{vs:List V},RDs Y H B ds vs->∀ {i:Nat}{d:D},ds[i]? = some d->∃ v,vs[i]? = some v/\RD Y H B d v
 | _,_,.nil,i,d,e=>by simp at e
 | _,_,.cons a s,0,d,e=>by cases e;exact ⟨_,rfl,a⟩
 | _,_,.cons a s,i+1,d,e=>by
   obtain ⟨v,h1,h2⟩:=RDs.get s (i:=i) (d:=d) (by simpa using e);exact ⟨v,by simpa using h1,h2⟩
theorem RDs.append:∀ {ds es:List D}{vs ws:List V},RDs Y H B ds vs->RDs Y H B es ws->RDs Y H B (ds++es) (vs++ws)
 | _,_,_,_,.nil,s=>s
 | _,_,_,_,.cons a r,s=>.cons a (r.append s)
theorem RDs.take:∀ {ds:List D}{vs:List V} (n:Nat),RDs Y H B ds vs->RDs Y H B (ds.take n) (vs.take n)
 | _,_,0,_=>.nil
 | _,_,_+1,.nil=>.nil
 | _,_,n+1,.cons a s=>.cons a (s.take n)
theorem RDs.drop:∀ {ds:List D}{vs:List V} (n:Nat),RDs Y H B ds vs->RDs Y H B (ds.drop n) (vs.drop n)
 | _,_,0,s=>s
 | _,_,_+1,.nil=>.nil
 | _,_,n+1,.cons a s=>s.drop n
theorem RDs.reverse(s:RDs Y H B ds vs):RDs Y H B ds.reverse vs.reverse:=by
 have gen:∀ {ds es:List D}{vs ws:List V},RDs Y H B ds vs->RDs Y H B es ws->RDs Y H B (ds.reverseAux es) (vs.reverseAux ws):=by
   intro ds;induction ds with
   | nil=>intro es vs ws a b;cases a;exact b
   | cons d ds ih =>
     intro es vs ws a b;cases a with
     | cons a s =>
       have z:=ih s (RDs.cons a b);exact z
 exact gen s .nil
theorem RDs.dropLast(s:RDs Y H B ds vs):RDs Y H B ds.dropLast vs.dropLast:=by
 rw [List.dropLast_eq_take,List.dropLast_eq_take,s.length];exact s.take _
theorem RDs.set(r:RD Y H B d v):∀ {ds:List D}{vs:List V} (i:Nat),RDs Y H B ds vs->RDs Y H B (ds.set i d) (vs.set i v)
 | _,_,_,.nil=>.nil
 | _,_,0,.cons _ s=>.cons r s
 | _,_,i+1,.cons a s=>.cons a (RDs.set r i s)
theorem RDs.cut(s:RDs Y H B ds vs)(lo hi:Option Int):RDs Y H B (cutD ds lo hi) (Zij vs lo hi):=by
 unfold cutD Zij;rw [s.length];exact (s.drop _).take _
theorem RDs.isEmpty(s:RDs Y H B ds vs):ds.isEmpty=vs.isEmpty:=by cases s<;>rfl
theorem RDs.atI(s:RDs Y H B ds vs)(e:L2.atI ds i=some d):∃ v,L2.atI vs i=some v/\RD Y H B d v:=by
 unfold L2.atI at e ⊢;rw [s.length] at e;cases q:ixN vs.length i with
 | none=>rw [q] at e;cases e
 | some j =>
   rw [q] at e;exact s.get (i:=j) e
theorem RKs.val[DecidableEq κ]:∀ {ds:List (κ×D)}{vs:List (κ×V)},RKs Y H B ds vs->∀ (k:κ),((ds.find? fun p=>decide (p.1=k))=none/\(vs.find? fun p=>decide (p.1=k))=none)\/∃ d v,(ds.find? fun p=>decide (p.1=k))=some (k,d)/\(vs.find? fun p=>decide (p.1=k))=some (k,v)/\RD Y H B d v
 | _,_,.nil,k=>.inl ⟨rfl,rfl⟩
 | _,_,.cons (k:=k') (d:=d) (v:=v) a s,k=>by
   by_cases e:k'=k
   . subst e;exact .inr ⟨d,v,by simp,by simp,a⟩
   . rcases s.val k with ⟨h1,h2⟩|⟨d,v,h1,h2,h3⟩
     . exact .inl ⟨by simp [e,h1],by simp [e,h2]⟩
     . exact .inr ⟨d,v,by simp [e,h1],by simp [e,h2],h3⟩
end
theorem Zrx{α:Type}{l:List α}(hl:l.Nodup){i j:Nat}{x:α}(a:l[i]? = some x)(b:l[j]? = some x):i=j:=by
 obtain ⟨h1,e1⟩:=Ob.mp a;obtain ⟨h2,e2⟩:=Ob.mp b;exact (List.getElem_inj hl).mp (e1.trans e2.symm)
section
variable {Y:Yx}{H:Hp}{B:List Addr}{h:Hd}
theorem Gr.add(g:Gr H0 μ0 H B)(hp:H0 p=none):Gr H0 μ0 H (B++[p]) :=
 ⟨fun i a e=>by have e:=g.pre i a e;rw [Oe (Ob.mp e).1];exact e,fun a ha=>(OD.mp ha).elim (g.new a) fun z=>by rw [Ox.mp z];exact .inr hp,g.keep,g.fz⟩
theorem ZlA{H0 H:Hp}(hp:H0 p=none)(e:H0 b=some u):upd H p o b=H b:=Zk fun z=>by rw [z,hp] at e;cases e
theorem Gr.put(g:Gr H0 μ0 H B)(hp:H0 p=none):Gr H0 μ0 (upd H p o) B:=⟨g.pre,g.new,fun b u hb e=>(ZlA hp e).trans (g.keep b u hb e),fun b u v e=>(ZlA hp e).trans (g.fz b u v e)⟩
theorem Gr.lay0(hp:H p=none):Gr H B (upd H p o) B:=Gr.refl.put hp
theorem Gr.lay(hp:H p=none):Gr H B (upd H p o) (B++[p]):=(Gr.lay0 hp).add hp
noncomputable def NF:Option HO->Prop
 | some (.frz _ _)=>False
 | _=>True
theorem Gr.write(hp:p∈B)(nf:NF (H p)):Gr H B (upd H p o) B :=
 ⟨fun _ _ e=>e,fun a ha=>.inl ha,fun b u hb e=>by rw [Zk (show b≠p from fun z=>hb (by rw [z];exact hp))];exact e,fun b u v e=>by rw [Zk (fun z=>by rw [z] at e;rw [e] at nf;exact nf)];exact e⟩
theorem RO.mono(r:RH Y H B h)(g:Gr H B H' μ')(q:RO Y H B a o)(e:H' a=H a):RO Y H' μ' a o:=q.tr (g.tr r) e
theorem RH.tr(r:RH Y H B h)(T:Tr Y H B H' B)(k:∀ a∈B,H' a=H a):RH Y H' B h :=
 ⟨r.len,r.nd,fun i o a e1 e2=>(r.ob i o a e1 e2).tr T (k a (O1 e2)),r.ks⟩
theorem RH.keep(r:RH Y H B h)(g:Gr H B H' B)(k:∀ a∈B,H' a=H a):RH Y H' B h:=r.tr (g.tr r) k
theorem Tr.more:Tr Y H B H (B++[p]):=⟨id,id,fun e=>by rw [Oe (Ob.mp e).1];exact e⟩
theorem Zrp(k:∀ (i:Nat) (o:DO),h[i]? = some o->DOk o)(dk:DOk o):∀ (i:Nat) (o':DO),(h++[o])[i]? = some o'->DOk o':=by
 intro i o' e1;by_cases hi:i<h.length
 . rw [Oe hi] at e1;exact k i o' e1
 . have hi':i=h.length:=by
     have:=(Ob.mp e1).1;simp at this
     lia
   subst hi';rw [Om (Oq _)] at e1;simp at e1;subst e1;exact dk
theorem RH.add(r:RH Y H B h)(np:p ∉ B)(n:RO Y H (B++[p]) p o)(dk:DOk o:=by trivial):RH Y H (B++[p]) (h++[o]):=by
 refine ⟨by simp [r.len],?_,fun i o' a e1 e2=>?_,Zrp r.ks dk⟩
 . rw [List.nodup_append];refine ⟨r.nd,by simp,fun a ha b hb=>?_⟩;rw [Ox.mp hb];intro z;exact np (z ▸ ha)
 . by_cases hi:i<h.length
   . rw [Oe hi] at e1;rw [Oe (by rw [<- r.len];exact hi)] at e2;exact (r.ob i o' a e1 e2).tr .more rfl
   . have hi':i=h.length:=by
       have:=(Ob.mp e1).1;simp at this
       lia
     subst hi';rw [Om (Oq _)] at e1;rw [Om (by rw [r.len];exact Oq _)] at e2;simp [r.len] at e1 e2;subst e1;subst e2;exact n
theorem RH.fr(r:RH Y H B h)(hp:H p=none):p ∉ B:=fun z=>by have:=r.mut z;rw [hp] at this;exact this
theorem RH.lay0(r:RH Y H B h)(hp:H p=none):RH Y (upd H p u) B h:=r.keep (Gr.lay0 hp) fun a ha=>Zk fun z=>r.fr hp (z ▸ ha)
theorem RH.lay(r:RH Y H B h)(hp:H p=none)(n:RO Y (upd H p u) (B++[p]) p o)(dk:DOk o:=by trivial):RH Y (upd H p u) (B++[p]) (h++[o]):=(r.lay0 hp).add (r.fr hp) n dk
theorem RH.write{p:Addr}{i:Nat}{u:HO}{o:DO}(r:RH Y H B h)(hp:B[i]? = some p)(n:RO Y (upd H p u) B p o)(nf:NF (H p))(dk:DOk o:=by trivial):RH Y (upd H p u) B (h.set i o):=by
 have hm:p∈B:=O1 hp;refine ⟨by simp [r.len],r.nd,fun j o' a e1 e2=>?_,fun j o' e1=>?_⟩
 rotate_right
 . by_cases hj:j=i
   . subst hj;have hl:j<h.length:=by rw [r.len];exact (Ob.mp hp).1
     rw [Ol hl] at e1;cases e1;exact dk
   . rw [Oc (Ne.symm hj)] at e1;exact r.ks j o' e1
 by_cases hj:j=i
 . subst hj;rw [hp] at e2;cases e2;have hl:j<h.length:=by rw [r.len];exact (Ob.mp hp).1
   rw [Ol hl] at e1;cases e1;exact n
 . rw [Oc (Ne.symm hj)] at e1;refine (r.ob j o' a e1 e2).mono r (Gr.write hm nf) (Zk fun z=>hj ?_);subst z;exact Zrx r.nd e2 hp
end
end IV
end
section
set_option tactic.hygienic false
namespace IV
open PySem PySem.Spec PyProof.Rows L2
noncomputable def Fin(Y:Yx)(rel:Hp->List Addr->α->β->Prop)(H:Hp)(B:List Addr)(r:R α)(Q:β->Hp->Prop)(E:XK):Prop:=match r with
 | .bad=>False
 | .ok a h'=>∀ b H' μ',Gr H B H' μ'->RH Y H' μ' h'->rel H' μ' a b->Q b H'
 | .exc c h'=>∀ H' μ' C,Gr H B H' μ'->RH Y H' μ' h'->Y.mg c=some (.ref C)->E (.ref C) none H'
section
variable {Y:Yx}{α β α' β':Type}{rel:Hp->List Addr->α->β->Prop}{rel':Hp->List Addr->α'->β'->Prop}{H H1:Hp}{B μ1:List Addr}{E:XK}
theorem Fin.mono(g:Gr H B H1 μ1)(f:Fin Y rel H B r Q E):Fin Y rel H1 μ1 r Q E:=by
 cases r with
 | bad=>exact f
 | ok a h=>exact fun b H' μ' g'=>f b H' μ' (g.trans g')
 | exc c h=>exact fun H' μ' C g'=>f H' μ' C (g.trans g')
theorem Fin.bind(f:Fin Y rel' H B (r.bind k) Q E)
   (hk:∀ a h1 b H1 μ1,r=.ok a h1->Gr H B H1 μ1->RH Y H1 μ1 h1->rel H1 μ1 a b->Fin Y rel' H1 μ1 (k a h1) Q E->Q1 b H1):Fin Y rel H B r Q1 E:=by
 cases r with
 | bad=>exact f
 | ok a h=>exact fun b H' μ' g' rh rl=>hk a h b H' μ' rfl g' rh rl (Fin.mono g' f)
 | exc c h=>exact f
theorem Fin.ok(f:Fin Y rel H B (.ok a h) Q E)(rh:RH Y H B h)(r:rel H B a b):Q b H:=f b H B Gr.refl rh r
theorem Fin.at(f:Fin Y rel H B (.ok a h) Q E)(g:Gr H B H1 μ1)(rh:RH Y H1 μ1 h)(r:rel H1 μ1 a b):Q b H1:=f b H1 μ1 g rh r
theorem Fin.ofO(f:Fin Y rel H B (R.ofO o h) Q E):∃ a,o=some a/\Fin Y rel H B (.ok a h) Q E:=by
 cases o with
 | none=>exact f.elim
 | some a=>exact ⟨a,rfl,f⟩
theorem Fin.iff[Decidable c](f:Fin Y rel H B (if c then r else .bad) Q E):c/\Fin Y rel H B r Q E:=by
 by_cases h:c
 . rw [if_pos h] at f;exact ⟨h,f⟩
 . rw [if_neg h] at f;exact f.elim
theorem Fin.new(f:Fin Y (RD Y) H B (Za3 o h) Q E)(rh:RH Y H B h)(hp:H p=none)(n:RO Y (upd H p u) (B++[p]) p o)(dk:DOk o:=by trivial):Q (.ref p) (upd H p u) :=
 f.at (Gr.lay hp) (rh.lay hp n dk) (.ref (by rw [rh.len];simp))
theorem Fin.tup(f:Fin Y (RD Y) H B (.ok (.tup ds) h) Q E)(rh:RH Y H B h)(hp:H p=none)(r:RDs Y H B ds vs):Q (.ref p) (upd H p (.tup vs)) :=
 f.at (Gr.lay0 hp) (rh.lay0 hp) (.tup (.inl (.inl Zg)) (r.mono rh (Gr.lay0 hp)))
theorem Fin.wrote(f:Fin Y rel H B (.ok a (h.set i o)) Q E)(rh:RH Y H B h)(hp:B[i]? = some p)(n:RO Y (upd H p u) B p o)(r:rel (upd H p u) B a b)(nf:NF (H p))(dk:DOk o:=by trivial):Q b (upd H p u) :=
 f.at (Gr.write (O1 hp) nf) (rh.write hp n nf dk) r
end
section
variable {Y:Yx}{H:Hp}{B:List Addr}{h:Hd}
theorem RD.lst(rh:RH Y H B h)(r:RD Y H B (.ref i) v)(e:h[i]? = some (.lst xs)):∃ a vs,v=.ref a/\B[i]? = some a/\H a=some (.lst vs)/\RDs Y H B xs vs:=by
 cases r with
 | ref q =>
   obtain ⟨vs,h1,h2⟩:=rh.ob i _ _ e q;exact ⟨_,vs,rfl,q,h1,h2⟩
theorem RD.dic(rh:RH Y H B h)(r:RD Y H B (.ref i) v)(e:h[i]? = some (.dic xs)):∃ a vs,v=.ref a/\B[i]? = some a/\H a=some (.dK vs)/\RKs Y H B xs vs:=by
 cases r with
 | ref q =>
   obtain ⟨vs,h1,h2⟩:=rh.ob i _ _ e q;exact ⟨_,vs,rfl,q,h1,h2⟩
theorem RD.lstOf(rh:RH Y H B h)(r:RD Y H B d v)(e:lstOf d h=some xs):∃ a vs,v=.ref a/\SqL Y.K H a vs/\RDs Y H B xs vs:=by
 cases d with
 | ref i =>
   unfold IV.lstOf at e;simp only at e;split at e
   . cases e;rename_i q;obtain ⟨a,vs,h1,h2,h3,h4⟩:=r.lst rh q;exact ⟨a,vs,h1,.of h3,h4⟩
   . cases e
 | ro ys =>
   cases e;cases r with
   | ro q s=>exact ⟨_,_,rfl,q.sq,s⟩
 | _=>cases e
theorem RD.seqOf(rh:RH Y H B h)(r:RD Y H B d v)(e:seqOf d h=some xs):∃ a vs,v=.ref a/\(SqL Y.K H a vs\/SqT Y.K H a vs)/\RDs Y H B xs vs:=by
 by_cases ht:∃ ys,d=.tup ys
 . obtain ⟨ys,rfl⟩:=ht;cases e;cases r with
   | tup q s=>exact ⟨_,_,rfl,.inr q,s⟩
 . have e':IV.lstOf d h=some xs:=by
     cases d with
     | tup ys=>exact absurd ⟨ys,rfl⟩ ht
     | _=>exact e
   obtain ⟨a,vs,h1,h2,h3⟩:=r.lstOf rh e';exact ⟨a,vs,h1,.inl h2,h3⟩
theorem RD.int_inv(r:RD Y H B (.int i) v):v=.int i:=by cases r;rfl
theorem RD.str_inv(r:RD Y H B (.str i) v):v=.str i/\PyData.strOk i=true:=by cases r with|str x ok=>exact ⟨rfl,ok⟩
theorem RD.tup_inv(r:RD Y H B (.tup ds) v):∃ a vs,v=.ref a/\SqT Y.K H a vs/\RDs Y H B ds vs:=by cases r with|tup q s=>exact ⟨_,_,rfl,q,s⟩
theorem ZgD(hx:PyData.strOk x=true)(hy:PyData.strOk y=true):PyData.strOk (x++y)=true:=by
 show (x.cps++y.cps).all _=true;rw [Array.all_append];unfold PyData.strOk at hx hy;rw [hx,hy];rfl
theorem Zmv(hx:PyData.strOk x=true)(n:Nat):PyData.strOk (ZdX x n)=true:=by
 have gen:∀ (n:Nat) (a:Array Nat),a.all (·<0x110000)=true->((List.replicate n x.cps).foldl (·++·) a).all (·<0x110000)=true:=by
   intro n;induction n with
   | zero=>intro a h;exact h
   | succ n ih =>
     intro a h;rw [List.replicate_succ,List.foldl_cons];refine ih _ ?_;rw [Array.all_append,h];exact hx
 exact gen n #[] (by simp)
theorem Zi6(hx:PyData.strOk x=true)(h:c∈x.cps.toList):PyData.strOk ⟨#[c]⟩=true:=by
 unfold PyData.strOk at hx ⊢;rw [Array.all_eq_true'] at hx;have:=hx c (by simpa using h);simpa using this
theorem ZoL(h:atI xs i=some x):x∈xs:=by
 unfold atI at h;cases q:ixN xs.length i with
 | none=>rw [q] at h;cases h
 | some j =>
   rw [q] at h;exact O1 (i:=j) h
end
section
variable {X:Cx}{Y:Yx}{E:XK}
noncomputable def rB(Y:Yx)(E:XK)(f:D->D->Hd->R D):R2:=fun x y H Q=>∃ dx dy h B,RH Y H B h/\RD Y H B dx x/\RD Y H B dy y/\Fin Y (RD Y) H B (f dx dy h) Q E
theorem Fin.int2(f:Fin Y (RD Y) H B (int2 x y k) Q E):∃ i j,x=.int i/\y=.int j/\Fin Y (RD Y) H B (k i j) Q E:=by
 cases x with
 | int i =>
   cases y with
   | int j=>exact ⟨i,j,rfl,rfl,f⟩
   | _=>exact f.elim
 | _=>exact f.elim
theorem Zq9(hY:Y.K=X.K)(op:Operator):OpR X (binaryOp op) (rB Y E (opB op)):=by
 intro pins s Z H x y v u Q I rx ry hh;obtain ⟨dx,dy,h,B,rh,r1,r2,f⟩:=hh;cases op with
 | Add =>
   have f:Fin Y (RD Y) H B (Znt dx dy h) Q E:=f;cases dx with
   | int i =>
     cases dy with
     | int j =>
       cases r1;cases r2;exact Zq8 pins s Z H _ _ v u Q I rx ry ⟨_,_,rfl,rfl,f.ok rh (.int _)⟩
     | _=>exact f.elim
   | str i =>
     cases dy with
     | str j =>
       obtain ⟨hz,f⟩:=Fin.iff f;cases r1 with|str _ o1 =>
       cases r2 with|str _ o2 =>
       exact Zi3 pins s Z H _ _ v u Q I rx ry ⟨_,_,rfl,rfl,hz,f.ok rh (.str _ (ZgD o1 o2))⟩
     | _=>exact f.elim
   | tup xs =>
     cases dy with
     | tup ys =>
       obtain ⟨hz,f⟩:=Fin.iff f;obtain ⟨a,vs,rfl,t1,s1⟩:=r1.tup_inv;obtain ⟨b,ws,rfl,t2,s2⟩:=r2.tup_inv;rw [s1.length,s2.length] at hz;by_cases h0:vs=[]
       . subst h0;cases s1;exact Zos pins s Z H _ _ v u Q I rx ry ⟨a,b,ws,rfl,rfl,hY ▸ t1,hY ▸ t2,f.ok rh (.tup t2 s2)⟩
       . refine Zor pins s Z H _ _ v u Q I rx ry ⟨a,b,vs,ws,rfl,rfl,hY ▸ t1,hY ▸ t2,h0,hz,fun e=>?_,fun e p hp=>f.tup rh hp (s1.append s2)⟩;subst e;cases s2;rw [List.append_nil] at f;exact f.ok rh (.tup t1 s1)
     | _=>exact f.elim
   | ref i =>
     cases dy with
     | ref j =>
       unfold Znt at f;simp only at f;split at f
       . rename_i e1;split at f
         . rename_i e2;obtain ⟨hz,f⟩:=f.iff;obtain ⟨a,vs,rfl,_,h1,s1⟩:=r1.lst rh e1;obtain ⟨b,ws,rfl,_,h2,s2⟩:=r2.lst rh e2;rw [s1.length,s2.length] at hz;exact Zq7 pins s Z H _ _ v u Q I rx ry ⟨a,b,vs,ws,rfl,rfl,h1,h2,hz,fun p hp=>f.new rh hp ⟨_,Zg,(s1.append s2).mono rh (Gr.lay hp)⟩⟩
         . exact f.elim
       . exact f.elim
     | _=>exact f.elim
   | _=>exact f.elim
 | Sub =>
   obtain ⟨i,j,rfl,rfl,f⟩:=Fin.int2 f;cases r1;cases r2;exact Zq2 pins s Z H _ _ v u Q I rx ry ⟨_,_,rfl,rfl,f.ok rh (.int _)⟩
 | Mult =>
   have f:Fin Y (RD Y) H B (Ztb dx dy h) Q E:=f;cases dx with
   | str z =>
     cases dy with
     | int n =>
       obtain ⟨hz,f⟩:=Fin.iff f;cases r1 with|str _ o1 =>
       cases r2;exact Zop pins s Z H _ _ v u Q I rx ry ⟨_,_,rfl,rfl,hz.1,hz.2.1,hz.2.2,f.ok rh (.str _ (Zmv o1 _))⟩
     | _=>exact f.elim
   | int i =>
     obtain ⟨i,j,e1,rfl,f⟩:=Fin.int2 (show Fin Y (RD Y) H B (IV.int2 (.int i) dy fun i j=>if i.natAbs<2 ^ 2000/\j.natAbs<2 ^ 2000 then .ok (.int (i * j)) h else .bad) Q E from f);cases e1;obtain ⟨hz,f⟩:=f.iff;cases r1;cases r2;exact ZkX pins s Z H _ _ v u Q I rx ry ⟨_,_,rfl,rfl,hz,f.ok rh (.int _)⟩
   | _=>exact f.elim
 | Mod =>
   obtain ⟨i,j,rfl,rfl,f⟩:=Fin.int2 f;obtain ⟨hz,f⟩:=f.iff;cases r1;cases r2;exact Zq4 pins s Z H _ _ v u Q I rx ry ⟨_,_,rfl,rfl,hz,f.ok rh (.int _)⟩
 | FloorDiv =>
   obtain ⟨i,j,rfl,rfl,f⟩:=Fin.int2 f;obtain ⟨hz,f⟩:=f.iff;cases r1;cases r2;exact Zoq pins s Z H _ _ v u Q I rx ry ⟨_,_,rfl,rfl,hz,f.ok rh (.int _)⟩
 | Pow =>
   obtain ⟨i,j,rfl,rfl,f⟩:=Fin.int2 f;obtain ⟨hz,f⟩:=f.iff;cases r1;cases r2;exact Zq3 pins s Z H _ _ v u Q I rx ry ⟨_,_,rfl,rfl,hz,f.ok rh (.int _)⟩
 | _=>exact f.elim
end
end IV
end
section
namespace IV
open PySem PySem.Spec PyProof.Rows L2
structure Gk(X:Cx)(Y:Yx)(T:Tb):Prop where
 K:Y.K=X.K
 mg:Y.mg=X.mg
 gd:∀ x kvs,T.GD x=some kvs->∃ a kvs',X.mg x=some (.ref a)/\DkK X.prog X.w X.K a kvs'/\∀ H B,RKs Y H B kvs kvs'
 g:∀ x d,T.G x=some d->∃ v u,X.mg x=some u/\RelV v u/\∀ H B,RD Y H B d v
 bare:Zfl X.K=true
section
variable {X:Cx}{Y:Yx}{E:XK}{T:Tb}{H:Hp}{B:List Addr}{h:Hd}
theorem RD.dicOf(G:Gk X Y T)(rh:RH Y H B h)(r:RD Y H B d v)(e:dicOf T.GD d h=some kvs):∃ a kvs',v=.ref a/\Dk X.prog X.w X.K H a kvs'/\RKs Y H B kvs kvs':=by
 cases d with
 | ref i =>
   unfold IV.dicOf at e;simp only at e;split at e
   . cases e;rename_i q;obtain ⟨a,vs,h1,_,h3,h4⟩:=r.dic rh q;exact ⟨a,vs,h1,.inl (.inl h3),h4⟩
   . cases e;rename_i q;cases r with
     | ref qm =>
       obtain ⟨o,vs,h1,h2⟩:=rh.ob i _ _ q qm;exact ⟨_,vs,rfl,.inl (.inr ⟨o,h1⟩),h2⟩
   . cases e
 | kd x =>
   obtain ⟨a,kvs',h1,h2,h3⟩:=G.gd x kvs e;cases r with
   | kd q =>
     rw [G.mg,h1] at q;cases q;exact ⟨a,kvs',rfl,.inr h2,h3 H B⟩
 | _=>cases e
theorem ZmH(r:RD Y H B d v)(e:keyOf d=some k):∀ x,k=.inr x->PyData.strOk x=true:=by
 cases d with
 | int i=>cases e;intro x z;cases z
 | str i =>
   cases e;intro x z;cases z;cases r with
   | str _ ok=>exact ok
 | _=>cases e
theorem ZfC(h:ZbF kvs)(hk:∀ x,k=.inr x->PyData.strOk x=true):ZbF (putD kvs k c):=by
 intro p hp x e;unfold putD at hp;split at hp
 . obtain ⟨q,hq,rfl⟩:=List.mem_map.mp hp;refine h q hq x ?_;split at e<;>exact e
 . rcases OD.mp hp with hp|hp
   . exact h p hp x e
   . rw [Ox.mp hp] at e;exact hk x e
theorem Zcj(r:RD Y H B d v)(e:keyOf d=some k):v=kV k:=by
 cases d with
 | int i=>cases e;cases r;rfl
 | str i=>cases e;cases r;rfl
 | _=>cases e
theorem RKs.valV_rel(s:RKs Y H B ds vs)(k:Key):(Zad ds k=none/\Zdk vs k=none)\/∃ d v,Zad ds k=some d/\Zdk vs k=some v/\RD Y H B d v:=by
 unfold Zad Zdk;rcases s.val k with ⟨h1,h2⟩|⟨d,v,h1,h2,h3⟩
 . exact .inl ⟨by rw [h1];rfl,by rw [h2];rfl⟩
 . exact .inr ⟨d,v,by rw [h1];rfl,by rw [h2];rfl,h3⟩
theorem RKs.any_rel(k:Key):∀ {ds:List (Key×D)}{vs:List (Key×V)},RKs Y H B ds vs->(ds.any fun kv=>decide (kv.1=k))=(vs.any fun kv=>decide (kv.1=k))
 | _,_,.nil=>rfl
 | _,_,.cons a s=>by rw [List.any_cons,List.any_cons,s.any_rel k]
theorem RKs.map_rel(k:Key)(r:RD Y H B d v):∀ {ds:List (Key×D)}{vs:List (Key×V)},RKs Y H B ds vs->RKs Y H B (ds.map fun kv=>if kv.1=k then (kv.1,d) else kv) (vs.map fun kv=>if kv.1=k then (kv.1,v) else kv)
 | _,_,.nil=>.nil
 | _,_,.cons (k:=k') a s=>by
   rw [Op,Op];by_cases e:k'=k
   . rw [if_pos e,if_pos e];exact .cons r (s.map_rel k r)
   . rw [if_neg e,if_neg e];exact .cons a (s.map_rel k r)
theorem RKs.append:∀ {ds es:List (κ×D)}{vs ws:List (κ×V)},RKs Y H B ds vs->RKs Y H B es ws->RKs Y H B (ds++es) (vs++ws)
 | _,_,_,_,.nil,s=>s
 | _,_,_,_,.cons a r,s=>.cons a (r.append s)
theorem RKs.put(s:RKs Y H B ds vs)(k:Key)(r:RD Y H B d v):RKs Y H B (putD ds k d) (putK vs k v):=by
 unfold putD putK;rw [s.any_rel k];split
 . exact s.map_rel k r
 . exact s.append (.cons r .nil)
mutual
theorem RD.dp(rh:RH Y H B h)(rd:Nat->Option PyData)(hr:∀ i p a,rd i=some p->B[i]? = some a->Dp Y.K H (.ref a) p):∀ {d:D}{v:V}{p:PyData},RD Y H B d v->D.py rd d=some p->Dp Y.K H v p
 | _,_,_,.non,e=>by cases e;exact .non
 | _,_,_,.bl b,e=>by cases e;exact .bl b
 | _,_,_,.int i,e=>by cases e;exact .int i
 | _,_,_,.str x ok,e=>by cases e;exact .str x ok
 | _,_,_,.tup t s,e=>by
   rw [D.py] at e;obtain ⟨ps,e1,rfl⟩:=Oo.mp e;exact .tup t (RDs.dps rh rd hr s e1)
 | _,_,_,.ref q,e=>hr _ _ _ e q
 | _,_,_,.ty n,e=>by cases e
 | _,_,_,.ro t s,e=>by
   rw [D.py] at e;obtain ⟨ps,e1,rfl⟩:=Oo.mp e;exact .lst t.sq (RDs.dps rh rd hr s e1)
 | _,_,_,.kd q,e=>by cases e
theorem RDs.dps(rh:RH Y H B h)(rd:Nat->Option PyData)(hr:∀ i p a,rd i=some p->B[i]? = some a->Dp Y.K H (.ref a) p):∀ {d:List D}{v:List V}{p:List PyData},RDs Y H B d v->D.pys rd d=some p->Dps Y.K H v p
 | _,_,_,.nil,e=>by cases e;exact .nil
 | _,_,_,.cons a s,e=>by
   rw [D.pys] at e;obtain ⟨q,e1,e2⟩:=Option.bind_eq_some_iff.mp e;obtain ⟨qs,e3,rfl⟩:=Oo.mp e2;exact .cons (RD.dp rh rd hr a e1) (RDs.dps rh rd hr s e3)
end
theorem ZjM(rh:RH Y H B h):∀ (n i:Nat) (p:PyData) (a:Addr),ZnT h n i=some p->B[i]? = some a->Dp Y.K H (.ref a) p
 | 0,i,p,a,e,q=>by cases e
 | n+1,i,p,a,e,q=>by
   rw [ZnT] at e;split at e
   . rename_i xs he;obtain ⟨ps,e1,rfl⟩:=Oo.mp e;obtain ⟨vs,z,s⟩:=rh.ob i _ a he q;exact .lst (.of z) (RDs.dps rh _ (ZjM rh n) s e1)
   . cases e
theorem Zfe(rh:RH Y H B h)(r:RD Y H B d v)(e:ZiX h d=some p):Dp Y.K H v p:=r.dp rh _ (ZjM rh 4) e
theorem ZfK(r:RD Y H B d v)(f:d.flat=true):ZcF v=true:=by cases r<;>first|rfl|cases f
theorem Zd8:∀ {ds:List D}{vs:List V},RDs Y H B ds vs->ds.all D.flat=true->vs.all ZcF=true
 | _,_,.nil,_=>rfl
 | _,_,.cons a s,f=>by
   rw [List.all_cons,Oa] at f;rw [List.all_cons,ZfK a f.1,Zd8 s f.2];rfl
theorem ZrM(r:RD Y H B d v)(q:RD Y H B e w)(f:d.flat=true)(g:e.flat=true):eqF d e=eqV v w:=by
 cases r<;>cases q<;>first|rfl|exact absurd f (by simp [D.flat])|exact absurd g (by simp [D.flat])
theorem any_rel(q:RD Y H B e w)(g:e.flat=true):∀ {ds:List D}{vs:List V},RDs Y H B ds vs->ds.all D.flat=true->(ds.any fun z=>eqF z e)=vs.any fun y=>eqV y w
 | _,_,.nil,_=>rfl
 | _,_,.cons a s,f=>by
   rw [List.all_cons,Oa] at f;rw [List.any_cons,List.any_cons,ZrM a q f.1 g,any_rel q g s f.2]
theorem Zoz(hr:Room k X.A)(h60:60<=k)(hY:Y.K=X.K):OpR X (compareOp .Eq) (rB Y E (Zdt false)):=by
 intro pins s Z H x y v u Q I rx ry hh;obtain ⟨dx,dy,h,B,rh,r1,r2,f⟩:=hh;unfold Zdt at f;split at f
 . rename_i e1 e2;obtain ⟨hz,f⟩:=f.iff;have d1:=Zfe rh r1 e1;have d2:=Zfe rh r2 e2;rw [hY] at d1 d2;obtain ⟨as,q1⟩:=I.reads d1 rx;obtain ⟨bs,q2⟩:=I.reads d2 ry;have:=hr.un;exact SeqAt.compareEq_reads q1 q2 d1.lay d2.lay (by lia) ⟨.bl _,H,I,rfl,f.ok rh (.bl _)⟩
 . exact f.elim
theorem Zou(hr:Room k X.A)(h60:60<=k)(hY:Y.K=X.K):OpR X (compareOp .NotEq) (rB Y E (Zdt true)):=by
 intro pins s Z H x y v u Q I rx ry hh;obtain ⟨dx,dy,h,B,rh,r1,r2,f⟩:=hh;unfold Zdt at f;split at f
 . rename_i e1 e2;obtain ⟨hz,f⟩:=f.iff;have d1:=Zfe rh r1 e1;have d2:=Zfe rh r2 e2;rw [hY] at d1 d2;obtain ⟨as,q1⟩:=I.reads d1 rx;obtain ⟨bs,q2⟩:=I.reads d2 ry;have:=hr.un;exact SeqAt.compareNe_reads q1 q2 d1.lay d2.lay (by lia) ⟨.bl _,H,I,rfl,f.ok rh (.bl _)⟩
 . exact f.elim
theorem Zms:OpR X (compareOp .In) (rB Y E Znk):=by
 intro pins s Z H x y v u Q I rx ry hh;obtain ⟨dx,dy,h,B,rh,r1,r2,f⟩:=hh;unfold Znk at f;split at f
 . cases r1;cases r2;exact ZkY pins s Z H _ _ v u Q I rx ry ⟨_,_,rfl,rfl,f.ok rh (.bl _)⟩
 . exact f.elim
theorem Zff(ho:OpR X (compareOp op) (rI0 fun i j=>.bl (g i j))):OpR X (compareOp op) (rB Y E (Zg6 g)):=by
 intro pins s Z H x y v u Q I rx ry hh;obtain ⟨dx,dy,h,B,rh,r1,r2,f⟩:=hh;unfold Zg6 at f;split at f
 . cases r1;cases r2;exact ho pins s Z H _ _ v u Q I rx ry ⟨_,_,rfl,rfl,f.ok rh (.bl _)⟩
 . exact f.elim
theorem ZjZ(r:RD Y H B d v):decide (d=.non)=decide (v=.non):=by
 cases r<;>simp
theorem Zox:OpR X (compareOp .Is) (rB Y E (opN false)):=by
 intro pins s Z H x y v u Q I rx ry hh;obtain ⟨dx,dy,h,B,rh,r1,r2,f⟩:=hh;unfold opN at f;split at f
 . cases r2;have z:=ZjZ r1;simp only [OG,if_false,z] at f;exact Zq5 pins s Z H _ _ v u Q I rx ry ⟨rfl,f.ok rh (.bl _)⟩
 . exact f.elim
theorem Zk1:OpR X (compareOp .IsNot) (rB Y E (opN true)):=by
 intro pins s Z H x y v u Q I rx ry hh;obtain ⟨dx,dy,h,B,rh,r1,r2,f⟩:=hh;unfold opN at f;split at f
 . cases r2;have z:=ZjZ r1;simp only [if_true,z] at f;exact Zoo pins s Z H _ _ v u Q I rx ry ⟨rfl,f.ok rh (.bl _)⟩
 . exact f.elim
theorem Zoy(G:Gk X Y T):OpR X (compareOp .In) (rB Y E (Za5 T.GD false)):=by
 intro pins s Z H x y v u Q I rx ry hh;obtain ⟨dx,dy,h,B,rh,r1,r2,f⟩:=hh;unfold Za5 at f;split at f
 . rename_i xs e1;obtain ⟨hz,f⟩:=f.iff;rw [Oa] at hz;obtain ⟨a,vs,rfl,hs,rs⟩:=r2.seqOf rh e1;have q:=f.ok rh (.bl _);simp only [OG,if_false,any_rel r1 hz.1 rs hz.2] at q;exact ZkZ pins s Z H _ _ v u Q I rx ry ⟨a,vs,rfl,G.K ▸ hs,ZfK r1 hz.1,Zd8 rs hz.2,q⟩
 . split at f
   . rename_i kvs k e1 e2;obtain ⟨a,kvs',rfl,hd,rk⟩:=r2.dicOf G rh e1;have q:=f.ok rh (.bl _);have z:(Zad kvs k).isSome=(Zdk kvs' k).isSome:=by
       rcases rk.valV_rel k with ⟨h1,h2⟩|⟨d,v,h1,h2,_⟩<;>rw [h1,h2]<;>rfl
     rw [z] at q;exact Zq6 pins s Z H _ _ v u Q I rx ry ⟨a,kvs',k,rfl,Zcj r1 e2,hd,q⟩
   . exact f.elim
theorem Zi4(G:Gk X Y T):OpR X (compareOp .NotIn) (rB Y E (Za5 T.GD true)):=by
 intro pins s Z H x y v u Q I rx ry hh;obtain ⟨dx,dy,h,B,rh,r1,r2,f⟩:=hh;unfold Za5 at f;split at f
 . rename_i xs e1;obtain ⟨hz,f⟩:=f.iff;rw [Oa] at hz;obtain ⟨a,vs,rfl,hs,rs⟩:=r2.seqOf rh e1;have q:=f.ok rh (.bl _);simp only [if_true,any_rel r1 hz.1 rs hz.2] at q;exact Zg5 pins s Z H _ _ v u Q I rx ry ⟨a,vs,rfl,G.K ▸ hs,ZfK r1 hz.1,Zd8 rs hz.2,q⟩
 . split at f
   . rename_i kvs k e1 e2;obtain ⟨a,kvs',rfl,hd,rk⟩:=r2.dicOf G rh e1;have q:=f.ok rh (.bl _);have z:(Zad kvs k).isSome=(Zdk kvs' k).isSome:=by
       rcases rk.valV_rel k with ⟨h1,h2⟩|⟨d,v,h1,h2,_⟩<;>rw [h1,h2]<;>rfl
     rw [z] at q;exact ZkW pins s Z H _ _ v u Q I rx ry ⟨a,kvs',k,rfl,Zcj r1 e2,hd,q⟩
   . exact f.elim
theorem ZdZ(hr:Room k X.A)(h60:60<=k)(G:Gk X Y T)(op:CmpOp):OpR X (compareOp op) (rB Y E (opC T.GD op)):=by
 cases op with
 | Eq=>exact Zoz hr h60 G.K
 | NotEq=>exact Zou hr h60 G.K
 | Lt=>exact Zff Zs1
 | LtE=>exact Zff Zs2
 | Gt=>exact Zff Zs3
 | GtE=>exact Zff Zs4
 | Is=>exact Zox
 | IsNot=>exact Zk1
 | In=>exact Zoy G
 | NotIn=>exact Zi4 G
theorem Zov(G:Gk X Y T):IxR X (rB Y E (Zdr T.GD)):=by
 intro value slice pins s Z H x y v u Q I rx ry hh hs;obtain ⟨dx,dy,h,B,rh,r1,r2,f⟩:=hh;have dict:∀ (kvs:List (Key×D)) (k:Key),dicOf T.GD dx h=some kvs->y=kV k->Fin Y (RD Y) H B (R.ofO (Zad kvs k) h) Q E->wpAny (model X.prog X.w) X.A (subscriptTail value slice v u) (EP X pins Z Q) X.xe s:=by
   intro kvs k e1 ey f;obtain ⟨d,e2,f⟩:=f.ofO;obtain ⟨a,kvs',rfl,hd,rk⟩:=r1.dicOf G rh e1;rcases rk.valV_rel k with ⟨h1,h2⟩|⟨d',w,h1,h2,h3⟩
   . rw [h1] at e2;cases e2
   . rw [h1] at e2;cases e2;exact ZoW value slice pins s Z H _ _ v u Q I rx ry ⟨a,kvs',k,w,rfl,ey,hd,h2,f.ok rh h3⟩ hs
 unfold Zdr at f;split at f
 . rename_i i;cases r2;split at f
   . rename_i xs e1;obtain ⟨d,e2,f⟩:=f.ofO;obtain ⟨a,vs,rfl,hq,rs⟩:=r1.seqOf rh e1;obtain ⟨w,e3,rw'⟩:=rs.atI e2;rcases hq with hq|hq
     . exact ZoV value slice pins s Z H _ _ v u Q I rx ry ⟨a,vs,i,w,rfl,rfl,G.K ▸ hq,e3,f.ok rh rw'⟩ hs
     . exact Zrv value slice pins s Z H _ _ v u Q I rx ry ⟨a,vs,i,w,rfl,rfl,G.K ▸ hq,e3,f.ok rh rw'⟩ hs
   . split at f
     . obtain ⟨hz,f⟩:=f.iff;obtain ⟨d,e2,f⟩:=f.ofO;obtain ⟨c,e3,rfl⟩:=Oo.mp e2;obtain ⟨rfl,ok⟩:=r1.str_inv;exact Zrw value slice pins s Z H _ _ v u Q I rx ry ⟨_,i,c,rfl,rfl,hz,e3,f.ok rh (.str _ (Zi6 ok (ZoL e3)))⟩ hs
     . split at f
       . rename_i kvs e1;exact dict kvs (.inl i) e1 rfl f
       . exact f.elim
 . rename_i z;obtain ⟨rfl,ok⟩:=r2.str_inv;split at f
   . rename_i kvs e1;exact dict kvs (.inr z) e1 rfl f
   . exact f.elim
 . exact f.elim
theorem Zra(hx:PyData.strOk x=true)(h:∀ c∈y.cps.toList,c∈x.cps.toList):PyData.strOk y=true:=by
 unfold PyData.strOk at hx ⊢;rw [Array.all_eq_true'] at hx ⊢;intro c hc;exact hx c (by simpa using h c (by simpa using hc))
theorem ZnE(hY:Y.K=X.K)(rh:RH Y H B h)(r:RD Y H B d v)(e:Zc6 T.GD d h=some b):Zr4 X.K v H b:=by
 cases d with
 | non=>cases r;cases e;rfl
 | bl c=>cases r;cases e;rfl
 | int c=>cases r;cases e;rfl
 | str c =>
   cases r;unfold Zc6 at e;simp only at e;split at e
   . rename_i hz;cases e;refine ⟨hz,?_⟩;by_cases h0:c.length=0
     . simp [h0]
     . have h1:((c.length:Int) != 0)=true:=by
         simp
         lia
       rw [h1];simp [h0]
   . cases e
 | tup xs =>
   obtain ⟨a,vs,rfl,t,s⟩:=r.tup_inv;cases e;exact .inr (.inl ⟨vs,hY ▸ t,by rw [s.isEmpty]⟩)
 | ref i =>
   unfold Zc6 at e;simp only at e;split at e
   . rename_i q;cases e;obtain ⟨a,vs,rfl,_,h3,s⟩:=r.lst rh q;exact .inl ⟨vs,.of h3,by rw [s.isEmpty]⟩
   . rename_i q;cases e;obtain ⟨a,vs,rfl,_,h3,s⟩:=r.dic rh q;exact .inr (.inr ⟨vs,h3,by cases s<;>rfl⟩)
   . cases e
 | ro xs =>
   cases e;cases r with
   | ro q s=>exact .inl ⟨_,hY ▸ q.sq,by rw [s.isEmpty]⟩
 | ty n=>cases e
 | kd x=>cases e
end
end IV
end
section
namespace IV
open PySem PySem.Spec PyProof.Rows L2
section
variable {X:Cx}{Y:Yx}{E:XK}{T:Tb}{H:Hp}{B:List Addr}{h:Hd}
noncomputable def rS(Y:Yx)(E:XK):V->Option Int->Option Int->Hp->VK->Prop:=fun x l u H Q=>∃ d h B,RH Y H B h/\RD Y H B d x/\Fin Y (RD Y) H B (Zk0 d l u h) Q E
theorem ZiR(y:Str)(l u:Option Int):∀ c∈(StrLaws.sliceText y l u).cps.toList,c∈y.cps.toList:=by
 intro c hc;unfold StrLaws.sliceText at hc;split at hc
 . exact hc
 . simp only [List.mem_filterMap] at hc;obtain ⟨i,_,hi⟩:=hc;have:=Array.mem_of_getElem? hi;simpa using this
theorem Zlk{xs:List D}{lo hi:Option Int}(h:HT.sIx xs.length 0 lo=0/\HT.sIx xs.length xs.length hi=xs.length):cutD xs lo hi=xs:=by
 unfold cutD;rw [h.1,h.2];simp
theorem Zot(hY:Y.K=X.K):SlR X (rS Y E):=by
 intro pins s Z H x v vl vu lo hi sl Q I rx hs pl pu hh;obtain ⟨d,h,B,rh,r,f⟩:=hh;unfold Zk0 at f;split at f
 . rename_i xs;obtain ⟨a,vs,rfl,t,rs⟩:=r.tup_inv;by_cases hw:HT.sIx vs.length 0 lo=0/\HT.sIx vs.length vs.length hi=vs.length
   . rw [Zlk (by rw [rs.length];exact hw)] at f;exact ZlS pins s Z H _ v vl vu lo hi sl Q I rx hs pl pu ⟨a,vs,rfl,hY ▸ t,hw,f.ok rh (.tup t rs)⟩
   . exact Zqv pins s Z H _ v vl vu lo hi sl Q I rx hs pl pu ⟨a,vs,rfl,hY ▸ t,hw,fun p hp=>f.tup rh hp (rs.cut lo hi)⟩
 . obtain ⟨hz,f⟩:=f.iff;obtain ⟨rfl,ok⟩:=r.str_inv;exact Zqw pins s Z H _ v vl vu lo hi sl Q I rx hs pl pu ⟨_,rfl,hz,f.ok rh (.str _ (Zra ok (ZiR _ _ _)))⟩
 . split at f
   . rename_i xs e1;obtain ⟨a,vs,rfl,hl,rs⟩:=r.lstOf rh e1;exact ZnK pins s Z H _ v vl vu lo hi sl Q I rx hs pl pu ⟨a,vs,rfl,hY ▸ hl,fun p hp=>f.new rh hp ⟨_,Zg,(rs.cut lo hi).mono rh (Gr.lay hp)⟩⟩
   . exact f.elim
noncomputable def rF(Y:Yx)(E:XK)(f:List D->Hd->R D):List V->Hp->VK->Prop:=fun xs H Q=>∃ ds h B,RH Y H B h/\RDs Y H B ds xs/\Fin Y (RD Y) H B (f ds h) Q E
theorem RDs.one(r:RDs Y H B [d] xs):∃ x,xs=[x]/\RD Y H B d x:=by
 cases r with
 | cons a s=>cases s;exact ⟨_,rfl,a⟩
theorem RDs.two(r:RDs Y H B [d,e] xs):∃ x y,xs=[x,y]/\RD Y H B d x/\RD Y H B e y:=by
 cases r with
 | cons a s=>obtain ⟨y,rfl,b⟩:=s.one;exact ⟨_,_,rfl,a,b⟩
theorem Zpn (hY:Y.K=X.K):Z6 X (.builtin "len") (rF Y E Zpv):=by
 intro pins s Z H xs us Q I r hh;obtain ⟨ds,h,B,rh,rs,f⟩:=hh;unfold Zpv at f;split at f
 . obtain ⟨hz,f⟩:=f.iff;obtain ⟨x,rfl,rd⟩:=rs.one;obtain ⟨rfl,ok⟩:=rd.str_inv;exact Zhq pins s Z H _ us Q I r ⟨_,rfl,hz,f.ok rh (.int _)⟩
 . obtain ⟨e,e1,f⟩:=f.ofO;obtain ⟨zs,e2,rfl⟩:=Oo.mp e1;obtain ⟨x,rfl,rd⟩:=rs.one;obtain ⟨a,vs,rfl,hq,rv⟩:=rd.seqOf rh e2;refine Zhr pins s Z H _ us Q I r ⟨a,vs,rfl,hY ▸ hq,?_⟩;rw [<- rv.length];exact f.ok rh (.int _)
 . exact f.elim
theorem ZoR{K:PySem.W.Frag}{t T:String}{b:Bool}(e:Zjg t T=some b):PySem.W.kitOne K (.type t) (.type T)=some b:=by
 have all:(["int", "str", "bool", "tuple", "list"].all fun T=>["int", "str", "bool", "tuple", "list", "NoneType"].all fun t=>decide (PySem.W.kitOne [] (.type t) (.type T)=some (t==T || (t == "bool" && T == "int"))))=true:=by decide +kernel
 unfold Zjg at e;split at e
 . rename_i hm;cases e;rw [OC] at all;have h1:=all T hm.1;rw [OC] at h1;exact Zla (of_decide_eq_true (h1 t hm.2))
 . cases e
theorem Zsk(hY:Y.K=X.K)(rh:RH Y H B h)(r:RD Y H B d v)(e:Zsl d h=some t):TyN X.K v H t:=by
 have lst:(IV.lstOf d h).map (fun _ => "list")=some t->TyN X.K v H t:=fun e=>by
   obtain ⟨xs,e1,rfl⟩:=Oo.mp e;obtain ⟨a,vs,rfl,hl,rs⟩:=r.lstOf rh e1;exact .inl ⟨rfl,vs,hY ▸ hl⟩
 cases d with
 | int i=>cases e;cases r;rfl
 | str i=>cases e;cases r;rfl
 | bl i=>cases e;cases r;rfl
 | non=>cases e;cases r;rfl
 | tup xs =>
   cases e;obtain ⟨a,vs,rfl,t,rs⟩:=r.tup_inv;exact .inr ⟨rfl,vs,hY ▸ t⟩
 | ref i=>exact lst e
 | ro xs=>exact lst e
 | ty n=>exact lst e
 | kd x=>exact lst e
theorem Zpp (hY:Y.K=X.K):Z6 X (.builtin "isinstance") (rF Y E ZrX):=by
 intro pins s Z H xs us Q I r hh;obtain ⟨ds,h,B,rh,rs,f⟩:=hh;unfold ZrX at f;split at f
 . obtain ⟨e,e1,f⟩:=f.ofO;obtain ⟨t,e2,e3⟩:=Option.bind_eq_some_iff.mp e1;obtain ⟨b,e4,rfl⟩:=Oo.mp e3;obtain ⟨x,y,rfl,r1,r2⟩:=rs.two;cases r2;exact Znc pins s Z H _ us Q I r ⟨x,t,_,b,rfl,Zsk hY rh r1 e2,ZoR e4,f.ok rh (.bl _)⟩
 . exact f.elim
theorem Zpq:Z6 X (.type "int") (rF Y E ZrY):=by
 intro pins s Z H xs us Q I r hh;obtain ⟨ds,h,B,rh,rs,f⟩:=hh;unfold ZrY at f;split at f
 . obtain ⟨x,rfl,r1⟩:=rs.one;cases r1;exact ZgP pins s Z H _ us Q I r (.inl ⟨_,rfl,f.ok rh (.int _)⟩)
 . obtain ⟨x,rfl,r1⟩:=rs.one;cases r1;exact ZgP pins s Z H _ us Q I r (.inr ⟨_,rfl,f.ok rh (.int _)⟩)
 . exact f.elim
theorem Zpl:Z6 X (.type "str") (rF Y E ZrW):=by
 intro pins s Z H xs us Q I r hh;obtain ⟨ds,h,B,rh,rs,f⟩:=hh;unfold ZrW at f;split at f
 . obtain ⟨hz,f⟩:=f.iff;obtain ⟨x,rfl,r1⟩:=rs.one;cases r1;exact Zis pins s Z H _ us Q I r (.inl ⟨_,rfl,hz.1,f.ok rh (.str _ hz.2)⟩)
 . obtain ⟨x,rfl,r1⟩:=rs.one;cases r1 with
   | str y ok=>exact Zis pins s Z H _ us Q I r (.inr ⟨_,rfl,f.ok rh (.str _ ok)⟩)
 . exact f.elim
theorem Zpo:Z6 X (.type "int") (rF Y E Zpw):=by
 intro pins s Z H xs us Q I r hh;obtain ⟨ds,h,B,rh,rs,f⟩:=hh;unfold Zpw at f;split at f
 . split at f
   . rename_i n e;obtain ⟨hz,f⟩:=f.iff;obtain ⟨x,rfl,r1⟩:=rs.one;cases r1;exact Zge pins s Z H _ us Q I r ⟨_,n,rfl,e,hz,f.ok rh (.int _)⟩
   . exact f.elim
 . exact f.elim
theorem Zpj (hY:Y.K=X.K):Z6 X (.type "tuple") (rF Y E Zpt):=by
 intro pins s Z H xs us Q I r hh;obtain ⟨ds,h,B,rh,rs,f⟩:=hh;unfold Zpt at f;split at f
 . obtain ⟨x,rfl,r1⟩:=rs.one;obtain ⟨a,vs,rfl,t,rv⟩:=r1.tup_inv;exact ZcJ pins s Z H _ us Q I r ⟨a,vs,rfl,.inr ⟨hY ▸ t,f.ok rh (.tup t rv)⟩⟩
 . obtain ⟨e,e1,f⟩:=f.ofO;obtain ⟨zs,e2,rfl⟩:=Oo.mp e1;obtain ⟨x,rfl,r1⟩:=rs.one;obtain ⟨a,vs,rfl,hl,rv⟩:=r1.lstOf rh e2;exact ZcJ pins s Z H _ us Q I r ⟨a,vs,rfl,.inl ⟨hY ▸ hl,fun p hp=>f.tup rh hp rv⟩⟩
 . exact f.elim
theorem Zid:∀ {ds:List D}{vs:List V}{ns:List Int},RDs Y H B ds vs->intsOf ds=some ns->vs=ns.map V.int
 | _,_,_,.nil,e=>by cases e;rfl
 | _,_,_,.cons (d:=d) a s,e=>by
   cases d with
   | int i =>
     rw [intsOf] at e;obtain ⟨z,e1,rfl⟩:=Oo.mp e;cases a;rw [Zid s e1];rfl
   | _=>cases e
theorem Zkv:∀ {ds:List D}{vs:List V}{ns:List Bool},RDs Y H B ds vs->ZeJ ds=some ns->vs=ns.map V.bl
 | _,_,_,.nil,e=>by cases e;rfl
 | _,_,_,.cons (d:=d) a s,e=>by
   cases d with
   | bl i =>
     rw [ZeJ] at e;obtain ⟨z,e1,rfl⟩:=Oo.mp e;cases a;rw [Zkv s e1];rfl
   | _=>cases e
theorem Zpk (hc:X.A.handled=none) (hY:Y.K=X.K):Z6 X (.builtin "sum") (rF Y E Zpu):=by
 intro pins s Z H xs us Q I r hh;obtain ⟨ds,h,B,rh,rs,f⟩:=hh;unfold Zpu at f;split at f
 . obtain ⟨e,e1,f⟩:=f.ofO;obtain ⟨ns,e2,rfl⟩:=Oo.mp e1;obtain ⟨zs,e3,e4⟩:=Option.bind_eq_some_iff.mp e2;obtain ⟨x,rfl,r1⟩:=rs.one;obtain ⟨a,vs,rfl,hl,rv⟩:=r1.lstOf rh e3;rw [Zid rv e4] at hl;exact Zlm hc pins s Z H _ us Q I r ⟨a,ns,rfl,hY ▸ hl,f.ok rh (.int _)⟩
 . exact f.elim
theorem Zpr (hc:X.calm=true) (hY:Y.K=X.K):Z6 X (.builtin "all") (rF Y E Zjs):=by
 intro pins s Z H xs us Q I r hh;obtain ⟨ds,h,B,rh,rs,f⟩:=hh;unfold Zjs at f;split at f
 . obtain ⟨e,e1,f⟩:=f.ofO;obtain ⟨ns,e2,rfl⟩:=Oo.mp e1;obtain ⟨zs,e3,e4⟩:=Option.bind_eq_some_iff.mp e2;obtain ⟨x,rfl,r1⟩:=rs.one;obtain ⟨a,vs,rfl,hl,rv⟩:=r1.lstOf rh e3;rw [Zkv rv e4] at hl;exact Znd hc pins s Z H _ us Q I r ⟨a,ns,rfl,hY ▸ hl,f.ok rh (.bl _)⟩
 . exact f.elim
noncomputable def rT(Y:Yx)(E:XK)(m:Tf):V->List V->Hp->VK->Prop:=fun x xs H Q=>∃ d e h B,RH Y H B h/\RD Y H B d x/\RDs Y H B [e] xs/\Fin Y (RD Y) H B (txm m d e h) Q E
noncomputable def tid:Tf->String
 | .spl => "str.split"
 | .joi => "str.join"
theorem ZhK:∀ (ss:List Str),(∀ x∈ss,PyData.strOk x=true)->RDs Y H B (ss.map D.str) (ss.map V.str)
 | [],_=>.nil
 | x::ss,h=>.cons (.str _ (h x (.head _))) (ZhK ss fun y hy=>h y (.tail _ hy))
theorem ZgA:∀ {ds:List D}{vs:List V}{ss:List Str},RDs Y H B ds vs->strsOf ds=some ss->vs=ss.map V.str
 | _,_,_,.nil,e=>by cases e;rfl
 | _,_,_,.cons (d:=d) a s,e=>by
   cases d with
   | str i =>
     rw [strsOf] at e;obtain ⟨z,e1,rfl⟩:=Oo.mp e;cases a;rw [ZgA s e1];rfl
   | _=>cases e
theorem Zqn(hY:Y.K=X.K)(m:Tf):MtR X (tid m) (rT Y E m):=by
 intro pins s Z H x xs v us Q I rx rs hh;obtain ⟨d,e,h,B,rh,r1,r2,f⟩:=hh;obtain ⟨y,rfl,ry⟩:=r2.one;cases m with
 | spl =>
   unfold txm at f;cases r1 with
   | str a ok =>
     cases ry with
     | str b okb =>
       obtain ⟨⟨rfl,z1,z2,z3⟩,f2⟩:=Fin.iff f;exact Zmy pins s Z H _ _ v us Q I rx rs ⟨a,rfl,rfl,z1,z2,fun p hp=>f2.new rh hp ⟨_,Zg,ZhK _ fun y hy=>OC.mp z3 y hy⟩⟩
     | _=>exact f.elim
   | _=>exact f.elim
 | joi =>
   unfold txm at f;cases r1 with
   | str b okb =>
     simp only at f;split at f
     . rename_i ss e2;obtain ⟨⟨rfl,z1,z2⟩,f2⟩:=f.iff;obtain ⟨zs,e3,e4⟩:=Option.bind_eq_some_iff.mp e2;obtain ⟨a,vs,rfl,hl,rv⟩:=ry.lstOf rh e3;rw [ZgA rv e4] at hl;exact ZoI pins s Z H _ _ v us Q I rx rs ⟨a,ss,rfl,rfl,hY ▸ hl,z1,f2.ok rh (.str _ z2)⟩
     . exact f.elim
   | _=>exact f.elim
noncomputable def rM(Y:Yx)(E:XK)(m:Mf):V->List V->Hp->VK->Prop:=fun x xs H Q=>∃ d ds h B,RH Y H B h/\RD Y H B d x/\RDs Y H B ds xs/\Fin Y (RD Y) H B (Zbp m d ds h) Q E
noncomputable def mid:Mf->String
 | .app => "list.append"
 | .ext => "list.extend"
 | .pop => "list.pop"
 | .rev => "list.reverse"
 | .clr => "list.clear"
theorem Zj4(hY:Y.K=X.K)(m:Mf):MtM X (mid m) (rM Y E m):=by
 intro pins s Z H x xs v us Q I rx rs hh;obtain ⟨d,ds,h,B,rh,r1,r2,f⟩:=hh;unfold Zbp at f;split at f
 . split at f
   . rename_i i ys e;obtain ⟨a,vs,rfl,hi,hl,rv⟩:=r1.lst rh e;cases m with
     | app =>
       unfold ZfA ZmC at f;simp only at f;split at f
       . obtain ⟨hz,f⟩:=f.iff;obtain ⟨y,rfl,ry⟩:=r2.one;have g:Gr H B (upd H a (.lst (vs++[y]))) B:=Gr.write (O1 hi) (by rw [hl];trivial);exact ZgE pins s Z H _ _ v us Q I rx rs ⟨a,vs,y,rfl,rfl,hl,by rw [<- rv.length];exact hz,f.wrote rh hi ⟨_,Zg,(rv.append (.cons ry .nil)).mono rh g⟩ .non (by rw [hl];trivial)⟩
       . exact f.elim
     | ext =>
       unfold ZfA ZoN at f;simp only at f;split at f
       . split at f
         . rename_i zs e2;obtain ⟨hz,f⟩:=f.iff;obtain ⟨y,rfl,ry⟩:=r2.one;obtain ⟨b,ws,rfl,hj,hl2,rw'⟩:=ry.lst rh e2;have g:Gr H B (upd H a (.lst (vs++ws))) B:=Gr.write (O1 hi) (by rw [hl];trivial);exact Zk4 pins s Z H _ _ v us Q I rx rs ⟨a,b,vs,ws,rfl,rfl,hl,hl2,by rw [<- rv.length,<- rw'.length];exact hz,f.wrote rh hi ⟨_,Zg,(rv.append rw').mono rh g⟩ .non (by rw [hl];trivial)⟩
         . exact f.elim
       . obtain ⟨hz,f⟩:=f.iff;obtain ⟨y,rfl,ry⟩:=r2.one;obtain ⟨b,ws,rfl,t,rw'⟩:=ry.tup_inv;have g:Gr H B (upd H a (.lst (vs++ws))) B:=Gr.write (O1 hi) (by rw [hl];trivial);exact Zja pins s Z H _ _ v us Q I rx rs ⟨a,b,vs,ws,rfl,rfl,hl,hY ▸ t,by rw [<- rv.length,<- rw'.length];exact hz,f.wrote rh hi ⟨_,Zg,(rv.append rw').mono rh g⟩ .non (by rw [hl];trivial)⟩
       . exact f.elim
     | pop =>
       unfold ZfA Zrf at f;simp only at f;split at f
       . split at f
         . rename_i y e2;cases r2;rw [rv.length] at e2;obtain ⟨w,e3,rw'⟩:=rv.get e2;have g:Gr H B (upd H a (.lst vs.dropLast)) B:=Gr.write (O1 hi) (by rw [hl];trivial);exact Zrc pins s Z H _ _ v us Q I rx rs ⟨a,vs,w,rfl,rfl,hl,e3,f.wrote rh hi ⟨_,Zg,rv.dropLast.mono rh g⟩ (rw'.mono rh g) (by rw [hl];trivial)⟩
         . exact f.elim
       . exact f.elim
     | rev =>
       unfold ZfA Ztf at f;simp only at f;split at f
       . cases r2;have g:Gr H B (upd H a (.lst vs.reverse)) B:=Gr.write (O1 hi) (by rw [hl];trivial);exact Zi9 pins s Z H _ _ v us Q I rx rs ⟨a,vs,rfl,rfl,hl,f.wrote rh hi ⟨_,Zg,rv.reverse.mono rh g⟩ .non (by rw [hl];trivial)⟩
       . exact f.elim
     | clr =>
       unfold ZfA Ztg at f;simp only at f;split at f
       . cases r2;exact Zmz pins s Z H _ _ v us Q I rx rs ⟨a,vs,rfl,rfl,hl,f.wrote rh hi ⟨_,Zg,.nil⟩ .non (by rw [hl];trivial)⟩
       . exact f.elim
   . exact f.elim
 . exact f.elim
noncomputable def rP(Y:Yx)(E:XK):ZpA:=fun o i v H Q=>∃ a b c h B,RH Y H B h/\RD Y H B a o/\RD Y H B b i/\RD Y H B c v/\Fin Y (fun _ _ (_:Unit) (_:Unit)=>True) H B (ZbU a b c h) (fun _ H'=>Q H') E
theorem ZqH:ZpB X (rP Y E):=by
 intro pins s Z H o i v ov iv u Q I ro ri rv hh;obtain ⟨a,b,c,h,B,rh,ra,rb,rc,f⟩:=hh;unfold ZbU at f;split at f
 . split at f
   . rename_i j xs e;split at f
     . split at f
       . rename_i j' e2;obtain ⟨p,vs,rfl,hi,hl,rs⟩:=ra.lst rh e;have hb:=rb.int_inv;subst hb;rw [rs.length] at e2;have g:Gr H B (upd H p (.lst (vs.set j' v))) B:=Gr.write (O1 hi) (by rw [hl];trivial);exact set_list pins s Z H _ _ v ov iv u Q I ro ri rv ⟨p,vs,_,j',rfl,rfl,hl,e2,f.wrote (b:=()) rh hi ⟨_,Zg,(RDs.set rc j' rs).mono rh g⟩ trivial (by rw [hl];trivial)⟩
       . exact f.elim
     . exact f.elim
   . rename_i j kvs e;split at f
     . rename_i k e2;obtain ⟨hz,f⟩:=f.iff;obtain ⟨p,vs,rfl,hi,hl,rs⟩:=ra.dic rh e;have g:Gr H B (upd H p (.dK (putK vs k v))) B:=Gr.write (O1 hi) (by rw [hl];trivial);exact set_dict pins s Z H _ _ v ov iv u Q I ro ri rv ⟨p,vs,k,rfl,Zcj rb e2,hl,by rw [<- rs.length];exact hz,f.wrote (b:=()) rh hi ⟨_,Zg,(rs.put k rc).mono rh g⟩ trivial (by rw [hl];trivial) (ZfC (rh.ks _ _ e) (ZmH rb e2))⟩
     . exact f.elim
   . exact f.elim
 . exact f.elim
end
end IV
end
section
namespace IV
open PySem PySem.Spec PyProof.Rows L2
noncomputable def rW(K:PySem.W.Frag)(x:V)(H1:Hp)(R:It->Hp->Prop):Prop :=
 (∃ a,x=.ref a/\(∃ xs,SqL K H1 a xs)/\R (Itl K a) H1)\/(∃ a,x=.ref a/\(∃ xs,SqT K H1 a xs)/\R (Itt K a) H1)
theorem ZqP(hl:PE X l tl):PI X tg l (fun Z H R=>tl Z H fun x H1=>rW X.K x H1 R):=by
 intro pins s Z H R I h;refine thn (hl pins s Z H _ I h) fun v s1 ⟨x,H1,I1,r1,q1⟩=>?_;have fp1:∀ b∈[s1.heap.objs.size],ZbT X pins H1 b:=fun b hb=>by
   have e:b=s1.heap.objs.size:=by simpa using hb
   subst e;exact I1.fpOk (Oq _) (I1.hok.fresh (Oq _))
 rcases q1 with ⟨a,rfl,⟨xs,hq⟩,q⟩|⟨a,rfl,⟨xs,hq⟩,q⟩
 . cases r1;obtain ⟨its,rv,p,hz⟩:=I1.list hq;exact wpAny_pyIter_list p.isList ⟨s1.heap.objs.size,[s1.heap.objs.size],_,_,H1,rfl,I1.kept (t':=s1.toks) fun b o e=>Od _ e,ZkG a _,⟨_,Oj _ rfl,rfl,rfl⟩,fp1,q⟩
 . cases r1;obtain ⟨its,rv,p,hz⟩:=I1.tuple hq;exact wpAny_pyIter_tuple (show s1.heap.IsTuple a its.toArray from p) ⟨s1.heap.objs.size,[s1.heap.objs.size],_,_,H1,rfl,I1.kept (t':=s1.toks) fun b o e=>Od _ e,ZiN a _,⟨_,Oj _ rfl,rfl,rfl⟩,fp1,q⟩
noncomputable def WJ(Y:Yx)(H0:Hp)(μ0:List Addr)(w:Wk)(J:It):Prop:=∀ H B h,Gr H0 μ0 H B->RH Y H B h->Wk.stays w.src h=true ->
 (∀ i d,w.xs[i]? = some d->J.go i H/\∀ x H',J.yld i H x H'->Gr H B H' B/\RH Y H' B h/\RD Y H' B d x)/\J.stop w.xs.length H
section
variable {X:Cx}{Y:Yx}{E:XK}{T:Tb}{H:Hp}{B:List Addr}{h:Hd}
theorem Zqf(hY:Y.K=X.K)(rh:RH Y H B h)(t:SqT Y.K H a vs)(s:RDs Y H B xs vs):WJ Y H B ⟨[],xs⟩ (Itt X.K a):=by
 intro H1 μ1 h1 g rh1 st;have t1:=g.rdT rh t;have s1:=s.mono rh g;rw [hY] at t1;refine ⟨fun i d e=>?_,⟨vs,t1,by rw [s.length];exact Oq _⟩⟩;obtain ⟨v,e1,r1⟩:=s1.get e;refine ⟨⟨vs,v,t1,e1⟩,fun x H' ⟨eH,q⟩=>?_⟩;subst eH;have:=q vs t1;rw [e1] at this;cases this;exact ⟨Gr.refl,rh1,r1⟩
theorem ZpF(hY:Y.K=X.K)(rh:RH Y H B h)(t:FzL Y.K H a vs)(s:RDs Y H B xs vs):WJ Y H B ⟨[],xs⟩ (Itl X.K a):=by
 intro H1 μ1 h1 g rh1 st;have t1:=(g.rdF rh t).sq;have s1:=s.mono rh g;rw [hY] at t1;refine ⟨fun i d e=>?_,⟨vs,t1,by rw [s.length];exact Oq _⟩⟩;obtain ⟨v,e1,r1⟩:=s1.get e;refine ⟨⟨vs,v,t1,e1⟩,fun x H' ⟨eH,q⟩=>?_⟩;subst eH;have:=q vs t1;rw [e1] at this;cases this;exact ⟨Gr.refl,rh1,r1⟩
theorem Zfp(st:Wk.stays ((i,xs)::r) h=true):h[i]? = some (.lst xs):=of_decide_eq_true (Bool.and_eq_true_iff.mp st).1
theorem Zlv(hi:B[i]? = some a):WJ Y H B ⟨[(i,xs)],xs⟩ (Itl X.K a):=by
 intro H1 μ1 h1 g rh1 st;obtain ⟨vs,hl,s1⟩:=rh1.ob i _ a (Zfp st) (g.pre i a hi);have t1:SqL X.K H1 a vs:=.of hl;refine ⟨fun i d e=>?_,⟨vs,t1,by rw [s1.length];exact Oq _⟩⟩;obtain ⟨v,e1,r1⟩:=s1.get e;refine ⟨⟨vs,v,t1,e1⟩,fun x H' ⟨eH,q⟩=>?_⟩;subst eH;have:=q vs t1;rw [e1] at this;cases this;exact ⟨Gr.refl,rh1,r1⟩
theorem Zqh{lo:Int}:WJ Y H B ⟨[],ZJ lo n⟩ (Itr lo n):=by
 intro H1 μ1 h1 g rh1 st;have hl:(ZJ lo n).length=n:=by simp [ZJ]
 refine ⟨fun i d e=>?_,by show n<=(ZJ lo n).length;rw [hl];exact Oq _⟩;have hi:i<n:=by
   have:=(Ob.mp e).1;rw [hl] at this;exact this
 refine ⟨hi,fun x H' ⟨eH,q⟩=>?_⟩;subst eH q;have:d=.int (lo+i):=by
   unfold ZJ at e;rw [On,List.getElem?_range hi] at e;exact (Option.some.inj e).symm
 subst this;exact ⟨Gr.refl,rh1,.int _⟩
theorem Zm4{xs:List D}{i:Nat}{d:D}(e:(Zb1 xs)[i]? = some d):∃ x,xs[i]? = some x/\d=.tup [.int i,x]:=by
 unfold Zb1 at e;rw [List.getElem?_mapIdx] at e;obtain ⟨x,e1,e2⟩:=Oo.mp e;exact ⟨x,e1,e2.symm⟩
theorem Zjx{a:Addr}{src:List (Nat×List D)}{xs:List D}(hw:WJ Y H B ⟨src,xs⟩ (Itl X.K a))(sq:∀ H1 μ1 h1,Gr H B H1 μ1->RH Y H1 μ1 h1->Wk.stays src h1=true->∃ vs,SqL X.K H1 a vs/\RDs Y H1 μ1 xs vs):WJ Y H B ⟨src,Zb1 xs⟩ (Ite X.K a):=by
 intro H1 μ1 h1 g rh1 st;obtain ⟨vs,t1,s1⟩:=sq H1 μ1 h1 g rh1 st;have hl:(Zb1 xs).length=xs.length:=by simp [Zb1]
 refine ⟨fun i d e=>?_,⟨vs,t1,by rw [hl,s1.length]⟩⟩;obtain ⟨x0,e0,rfl⟩:=Zm4 e;obtain ⟨v,e1,r1⟩:=s1.get e0;refine ⟨⟨vs,v,t1,e1⟩,fun x H' ⟨p,ex,hp,y,q,eH⟩=>?_⟩;subst ex eH;have:=q vs t1;rw [e1] at this;cases this;exact ⟨Gr.lay0 hp,rh1.lay0 hp,.tup (.inl (.inl Zg)) (.cons (.int _) (.cons (r1.mono rh1 (Gr.lay0 hp)) .nil))⟩
theorem Zqi(hY:Y.K=X.K)(rh:RH Y H B h)(t:SqT Y.K H a vs)(s:RDs Y H B xs vs):WJ Y H B ⟨[],xs.reverse⟩ (Itv X.K a vs.length):=by
 intro H1 μ1 h1 g rh1 st;have t1:=g.rdT rh t;have s1:=(s.mono rh g).reverse;rw [hY] at t1;refine ⟨fun i d e=>?_,⟨vs,t1,rfl,by simp [s.length]⟩⟩;obtain ⟨v,e1,r1⟩:=s1.get e;refine ⟨⟨vs,v,t1,rfl,e1⟩,fun x H' ⟨eH,q⟩=>?_⟩;subst eH;have:=q vs t1;rw [e1] at this;cases this;exact ⟨Gr.refl,rh1,r1⟩
theorem Znz(hi:B[i]? = some a):WJ Y H B ⟨[(i,xs)],xs.reverse⟩ (Zr5 X.K a xs.length):=by
 intro H1 μ1 h1 g rh1 st;obtain ⟨vs,hl,s0⟩:=rh1.ob i _ a (Zfp st) (g.pre i a hi);have t1:SqL X.K H1 a vs:=.of hl;have s1:=s0.reverse;refine ⟨fun i d e=>?_,⟨vs,t1,s0.length.symm,by simp⟩⟩;obtain ⟨v,e1,r1⟩:=s1.get e;refine ⟨⟨vs,v,t1,s0.length.symm,e1⟩,fun x H' ⟨eH,q⟩=>?_⟩;subst eH;have:=q vs t1;rw [e1] at this;cases this;exact ⟨Gr.refl,rh1,r1⟩
theorem Zqe{X:Cx}(hY:Y.K=X.K)(rh:RH Y H B h)(t:SqT Y.K H a vs)(s:RDs Y H B xs vs)(t':SqT Y.K H b vs')(s':RDs Y H B ys vs')(hl:xs.length=ys.length):WJ Y H B ⟨[],Zfh xs ys⟩ (Itz X.K a b):=by
 intro H1 μ1 h1 g rh1 st;have t1:=g.rdT rh t;have s1:=s.mono rh g;have t2:=g.rdT rh t';have s2:=s'.mono rh g;rw [hY] at t1 t2;have hz:(Zfh xs ys).length=xs.length:=by simp [Zfh,hl]
 refine ⟨fun i d e=>?_,⟨vs,t1,by rw [hz,s1.length]⟩⟩;obtain ⟨x0,y0,e0,e1,rfl⟩:∃ x0 y0,xs[i]? = some x0/\ys[i]? = some y0/\d=.tup [x0,y0]:=by
   unfold Zfh at e;rw [List.getElem?_zipWith] at e;split at e
   . rename_i x y q1 q2;exact ⟨x,y,q1,q2,(Option.some.inj e).symm⟩
   . cases e
 obtain ⟨v,e2,r2⟩:=s1.get e0;obtain ⟨u,e3,r3⟩:=s2.get e1;refine ⟨⟨vs,vs',v,u,t1,t2,e2,e3⟩,fun x H' ⟨p,x1,y1,ex,hp,q1,q2,eH⟩=>?_⟩;subst ex eH;have:=q1 vs t1;rw [e2] at this;cases this;have:=q2 vs' t2;rw [e3] at this;cases this;exact ⟨Gr.lay0 hp,rh1.lay0 hp,.tup (.inl (.inl Zg)) (.cons (r2.mono rh1 (Gr.lay0 hp)) (.cons (r3.mono rh1 (Gr.lay0 hp)) .nil))⟩
theorem Zqg{y:Str}(ok:PyData.strOk y=true):WJ Y H B ⟨[],y.cps.toList.map fun c=>.str ⟨#[c]⟩⟩ (Its y):=by
 intro H1 μ1 h1 g rh1 st;refine ⟨fun i d e=>?_,by show _=_;simp⟩;simp only [On] at e;obtain ⟨c,ec,rfl⟩:=Oo.mp e;have hi:=(Ob.mp ec).1;refine ⟨by show i<y.cps.size;simpa using hi,fun x H' ⟨eH,c',e',ex⟩=>?_⟩;subst eH ex;rw [Array.getElem?_toList] at ec;rw [ec] at e';cases e';exact ⟨Gr.refl,rh1,.str _ (Zi6 ok (by rw [<- Array.getElem?_toList] at ec;exact O1 ec))⟩
theorem ZnA{d:D}{R:It->Hp->Prop}(hY:Y.K=X.K)(rh:RH Y H B h)(r:RD Y H B d x)(e:Zfk d h=some w)(q:∀ J,WJ Y H B w J->R J H):rW X.K x H R:=by
 cases d with
 | tup xs =>
   cases e;obtain ⟨a,vs,rfl,t,s⟩:=r.tup_inv;exact .inr ⟨a,rfl,⟨vs,hY ▸ t⟩,q _ (Zqf hY rh t s)⟩
 | ro xs =>
   cases e;cases r with
   | ro t s=>exact .inl ⟨_,rfl,⟨_,hY ▸ t.sq⟩,q _ (ZpF hY rh t s)⟩
 | ref i =>
   unfold Zfk at e;simp only at e;split at e
   . rename_i xs he;cases e;obtain ⟨a,vs,rfl,hi,hl,s⟩:=r.lst rh he;exact .inl ⟨a,rfl,⟨vs,.of hl⟩,q _ (Zlv hi)⟩
   . cases e
 | _=>cases e
end
end IV
end
section
namespace IV
open PySem PySem.Spec PyProof.Rows L2
structure Kl where
 cs:List Str
 ats:List Str
 ms:List (Str×Str)
 is:List Str
 xs:List Str:=[]
 xa:List (Str×Str):=[]
structure Gm where
 N:List Str
 sc:Scope
 fs:List Str
 top:Bool
 kl:Kl
noncomputable def glb (Γ:Gm) (x:Str):Bool:=decide (Γ.sc.names.lookup x=some .globalImplicit)&&!(x==("__debug__" : Str))
noncomputable def ZnC(sc:Scope)(x:Str):Bool:=decide (sc.names.lookup x=some .local) || decide (sc.names.lookup x=some .cell) || decide (sc.names.lookup x=some .free)
noncomputable def Zkt:Bf->Str
 | .len => "len" | .isi => "isinstance" | .int => "int" | .tup => "tuple" | .lst => "list" | .sum => "sum" | .all => "all" | .srt => "sorted" | .mx => "max" | .sri => "sorted" | .lnd => "len" | .dct => "dict" | .ldk => "list" | .sto => "str" | .itx => "int"
noncomputable def ZpG:Tf->Str
 | .spl => "split"
 | .joi => "join"
noncomputable def bok:Bf->Bool
 | .mx=>false
 | .lst=>false
 | .sri=>false
 | .lnd=>false
 | .dct=>false
 | .ldk=>false
 | _=>true
noncomputable def ZmA:Mf->Str
 | .app => "append" | .ext => "extend" | .pop => "pop" | .rev => "reverse" | .clr => "clear"
noncomputable def Zku:List Str:=["len", "isinstance", "int", "tuple", "list", "sum", "all", "sorted", "range", "enumerate", "reversed", "str", "bool", "max", "repr", "zip", "set", "dict", "any"]
noncomputable def ZjA:List String:=["int", "str", "bool", "tuple", "list"]
structure Pt where
 a:Expr:=default
 b:Expr:=default
 c:Expr:=default
 xs:List Expr:=[]
 s:Str:=⟨#[]⟩
 op:Operator:=.Add
 cs:List CmpOp:=[]
 u:UnaryOp:=.Not
 bo:BoolOp:=.And
 p:Pos:=default
 kw:List Keyword:=[]
 l:Option Expr:=none
 h:Option Expr:=none
 st:Option Expr:=none
 ks:List (Option Expr):=[]
 gs:List Comprehension:=[]
 sc:Scope:=default
 k:Nat:=0
 v:Const:=.none
noncomputable def tgE:Expr->Nat
 | .Starred _ _=>0|.BoolOp _ _ _=>1|.UnaryOp _ _ _=>2|.IfExp _ _ _ _=>3|.Compare _ _ _ _=>4|.Slice _ _ _ _=>5|.Name _ _=>6|.BinOp _ _ _ _=>7|.Tuple _ _ _=>8|.List _ _=>9
 | .Subscript _ _ _=>10|.Call _ _ _ _=>11|.Attribute _ _ _=>12|.ListComp _ _ _ _=>13|.Dict _ _ _=>14|.Constant _ _ _=>15|.NamedExpr _ _ _=>17|.Set _ _ _=>18|.SetComp _ _ _ _=>19|.DictComp _ _ _ _ _=>19|_=>16
noncomputable def prt(e:Expr):Pt:=match e with
 | .BoolOp o xs p=>{bo:=o,xs:=xs,p:=p}
 | .UnaryOp o x p=>{a:=x,u:=o,p:=p}
 | .IfExp t x y p=>{a:=t,b:=x,c:=y,p:=p}
 | .Compare l os rs p=>{a:=l,cs:=os,xs:=rs,p:=p}
 | .Slice l u s p=>{l:=l,h:=u,st:=s,p:=p}
 | .Name x p=>{s:=x,p:=p}
 | .BinOp l o r p=>{a:=l,b:=r,op:=o,p:=p}
 | .Tuple xs k p=>{xs:=xs,k:=k,p:=p}
 | .List xs p=>{xs:=xs,p:=p}
 | .Subscript x y p=>{a:=x,b:=y,p:=p}
 | .Call f xs kw p=>{a:=f,xs:=xs,kw:=kw,p:=p}
 | .Attribute x n p=>{a:=x,s:=n,p:=p}
 | .ListComp x gs sc p=>{a:=x,gs:=gs,p:=p,sc:=sc}
 | .Dict ks vs p=>{ks:=ks,xs:=vs,p:=p}
 | .Constant c k p=>{v:=c,k:=k,p:=p}
 | _=>{a:=e}
noncomputable def mkE(n:Nat)(p:Pt):Expr:=match n with
 | 1=>.BoolOp p.bo p.xs p.p|2=>.UnaryOp p.u p.a p.p|3=>.IfExp p.a p.b p.c p.p|4=>.Compare p.a p.cs p.xs p.p|5=>.Slice p.l p.h p.st p.p|6=>.Name p.s p.p|7=>.BinOp p.a p.op p.b p.p
 | 8=>.Tuple p.xs p.k p.p|9=>.List p.xs p.p|10=>.Subscript p.a p.b p.p|11=>.Call p.a p.xs p.kw p.p|12=>.Attribute p.a p.s p.p
 | 13=>.ListComp p.a p.gs p.sc p.p|14=>.Dict p.ks p.xs p.p|15=>.Constant p.v p.k p.p|_=>p.a
theorem rb(e:Expr):mkE (tgE e) (prt e)=e:=by cases e<;>rfl
theorem bL{a b:Bool}(h:(a&&b)=true):a=true:=by cases a with|true=>rfl|false=>cases h
theorem bR{a b:Bool}(h:(a&&b)=true):b=true:=by cases a with|true=>exact h|false=>cases h
theorem bO{a b:Bool}{P:Prop}(h:(a || b)=true)(l:a=true->P)(r:b=true->P):P:=by cases a with|true=>exact l rfl|false=>exact r h
theorem ff{P:Prop}(h:false=true):P:=by cases h
theorem dS{α:Type}{P:α->Prop}{a b:α}[Decidable (a=b)](h:decide (a=b)=true)(k:P b):P a:=of_decide_eq_true h ▸ k
noncomputable def an(n:Nat)(e:Expr)(f:Pt->Bool):Bool:=decide (tgE e=n)&&f (prt e)
section
variable {P:Expr->Prop}{e:Expr}
theorem Zaf(h:an n e f=true)(k:∀ p,f p=true->P (mkE n p)):P e:=rb e ▸ dS (P:=fun m=>P (mkE m (prt e))) (bL h) (k _ (bR h))
noncomputable def l1{α:Type}(xs:List α)(f:α->Bool):Bool:=match xs with
 | [y]=>f y
 | _=>false
@[elab_as_elim] theorem ZcE{α:Type}{P:List α->Prop}{xs:List α}{f:α->Bool}(h:l1 xs f=true)(k:∀ y,f y=true->P [y]):P xs:=by
 cases xs with
 | nil=>cases h
 | cons y r =>
   cases r with
   | nil=>exact k y h
   | cons _ _=>cases h
noncomputable def l2{α:Type}(xs:List α)(f:α->α->Bool):Bool:=match xs with
 | [x,y]=>f x y
 | _=>false
@[elab_as_elim] theorem ZmG{α:Type}{P:List α->Prop}{xs:List α}{f:α->α->Bool}(h:l2 xs f=true)(k:∀ x y,f x y=true->P [x,y]):P xs:=by
 cases xs with
 | nil=>cases h
 | cons x r =>
   cases r with
   | nil=>cases h
   | cons y r =>
     cases r with
     | nil=>exact k x y h
     | cons _ _=>cases h
noncomputable def l0{α:Type}(xs:List α)(b:Bool):Bool:=xs.isEmpty&&b
theorem Zj8{α:Type}{P:List α->Prop}{xs:List α}(h:l0 xs b=true)(k:b=true->P []):P xs:=by
 cases xs with
 | nil=>exact k h
 | cons _ _=>cases h
@[irreducible] noncomputable def aN(e:Expr)(f:Str->Bool):Bool:=an 6 e fun p=>f p.s
@[elab_as_elim] theorem Zta(h:aN e f=true)(k:∀ x q,f x=true->P (.Name x q)):P e:=by
 unfold aN at h;exact Zaf h fun _ h=>k _ _ h
@[irreducible] noncomputable def aX(x:Str)(e:Expr)(b:Bool):Bool:=an 6 e fun p=>decide (p.s=x)&&b
@[elab_as_elim] theorem Zqd(h:aX x e b=true)(k:∀ q,b=true->P (.Name x q)):P e:=by
 unfold aX at h;exact Zaf h fun p h=>dS (P:=fun s=>P (.Name s p.p)) (bL h) (k _ (bR h))
@[irreducible] noncomputable def aB2(o:Operator)(e:Expr)(f:Expr->Expr->Bool):Bool:=an 7 e fun p=>decide (p.op=o)&&f p.a p.b
@[elab_as_elim] theorem ZtV(h:aB2 o e f=true)(k:∀ l r q,f l r=true->P (.BinOp l o r q)):P e:=by
 unfold aB2 at h;exact Zaf h fun p h=>dS (P:=fun s=>P (.BinOp p.a s p.b p.p)) (bL h) (k _ _ _ (bR h))
@[irreducible] noncomputable def aC1(o:CmpOp)(e:Expr)(f:Expr->Expr->Bool):Bool:=an 4 e fun p=>decide (p.cs=[o])&&l1 p.xs fun r=>f p.a r
@[elab_as_elim] theorem Znh(h:aC1 o e f=true)(k:∀ l r q,f l r=true->P (.Compare l [o] [r] q)):P e:=by
 unfold aC1 at h;exact Zaf h fun p h=>dS (P:=fun s=>P (.Compare p.a s p.xs p.p)) (bL h) (ZcE (P:=fun s=>P (.Compare p.a [o] s p.p)) (bR h) fun _ h=>k _ _ _ h)
@[irreducible] noncomputable def aC2(o o':CmpOp)(e:Expr)(f:Expr->Expr->Expr->Bool):Bool:=an 4 e fun p=>decide (p.cs=[o,o'])&&l2 p.xs fun m r=>f p.a m r
@[elab_as_elim] theorem Zp7(h:aC2 o o' e f=true)(k:∀ l m r q,f l m r=true->P (.Compare l [o,o'] [m,r] q)):P e:=by
 unfold aC2 at h;exact Zaf h fun p h=>dS (P:=fun s=>P (.Compare p.a s p.xs p.p)) (bL h) (ZmG (P:=fun s=>P (.Compare p.a [o,o'] s p.p)) (bR h) fun _ _ h=>k _ _ _ _ h)
@[irreducible] noncomputable def aU(u:UnaryOp)(e:Expr)(f:Expr->Bool):Bool:=an 2 e fun p=>decide (p.u=u)&&f p.a
@[elab_as_elim] theorem Zqm(h:aU u e f=true)(k:∀ x q,f x=true->P (.UnaryOp u x q)):P e:=by
 unfold aU at h;exact Zaf h fun p h=>dS (P:=fun s=>P (.UnaryOp s p.a p.p)) (bL h) (k _ _ (bR h))
@[irreducible] noncomputable def aO(o:BoolOp)(e:Expr)(f:List Expr->Bool):Bool:=an 1 e fun p=>decide (p.bo=o)&&f p.xs
@[elab_as_elim] theorem ZoE(h:aO o e f=true)(k:∀ xs q,f xs=true->P (.BoolOp o xs q)):P e:=by
 unfold aO at h;exact Zaf h fun p h=>dS (P:=fun s=>P (.BoolOp s p.xs p.p)) (bL h) (k _ _ (bR h))
@[irreducible] noncomputable def aI(e:Expr)(f:Expr->Expr->Expr->Bool):Bool:=an 3 e fun p=>f p.a p.b p.c
@[elab_as_elim] theorem ZuX(h:aI e f=true)(k:∀ t x y q,f t x y=true->P (.IfExp t x y q)):P e:=by
 unfold aI at h;exact Zaf h fun _ h=>k _ _ _ _ h
@[irreducible] noncomputable def aT(e:Expr)(f:List Expr->Bool):Bool:=an 8 e fun p=>f p.xs
@[elab_as_elim] theorem ZhJ(h:aT e f=true)(k:∀ xs j q,f xs=true->P (.Tuple xs j q)):P e:=by
 unfold aT at h;exact Zaf h fun _ h=>k _ _ _ h
@[irreducible] noncomputable def aLs(e:Expr)(f:List Expr->Bool):Bool:=an 9 e fun p=>f p.xs
@[elab_as_elim] theorem Zth(h:aLs e f=true)(k:∀ xs q,f xs=true->P (.List xs q)):P e:=by
 unfold aLs at h;exact Zaf h fun _ h=>k _ _ h
@[irreducible] noncomputable def aS(e:Expr)(f:Expr->Expr->Bool):Bool:=an 10 e fun p=>f p.a p.b
@[elab_as_elim] theorem Zqx(h:aS e f=true)(k:∀ x y q,f x y=true->P (.Subscript x y q)):P e:=by
 unfold aS at h;exact Zaf h fun _ h=>k _ _ _ h
@[irreducible] noncomputable def aSl(e:Expr)(f:Expr->Option Expr->Option Expr->Bool):Bool:=aS e fun x y=>an 5 y fun p=>p.st.isNone&&f x p.l p.h
@[elab_as_elim] theorem ZsA(h:aSl e f=true)(k:∀ x l u q r,f x l u=true->P (.Subscript x (.Slice l u none q) r)):P e:=by
 unfold aSl at h;exact Zqx h fun x _ r h=>Zaf (P:=fun y=>P (.Subscript x y r)) h fun p h=>by
   show P (.Subscript x (.Slice p.l p.h p.st p.p) r);rw [Option.isNone_iff_eq_none.mp (bL h)];exact k _ _ _ _ _ (bR h)
@[irreducible] noncomputable def aCN(n:Str)(e:Expr)(f:List Expr->Bool):Bool:=an 11 e fun p=>aX n p.a (l0 p.kw (f p.xs))
@[elab_as_elim] theorem ZfU(h:aCN n e f=true)(k:∀ p ys q,f ys=true->P (.Call (.Name n p) ys [] q)):P e:=by
 unfold aCN at h;exact Zaf h fun p h=>Zqd (P:=fun a=>P (.Call a p.xs p.kw p.p)) h fun q h=>Zj8 (P:=fun w=>P (.Call (.Name n q) p.xs w p.p)) h fun h=>k _ _ _ h
@[irreducible] noncomputable def aA(n:Str)(e:Expr)(f:Expr->Pos->Bool):Bool:=an 12 e fun p=>decide (p.s=n)&&f p.a p.p
@[elab_as_elim] theorem Zpz(h:aA n e f=true)(k:∀ x q,f x q=true->P (.Attribute x n q)):P e:=by
 unfold aA at h;exact Zaf h fun p h=>dS (P:=fun s=>P (.Attribute p.a s p.p)) (bL h) (k _ _ (bR h))
@[irreducible] noncomputable def aCA(n:Str)(e:Expr)(f:Expr->Pos->List Expr->Pos->Bool):Bool:=an 11 e fun p=>aA n p.a fun x ap=>l0 p.kw (f x ap p.xs p.p)
@[elab_as_elim] theorem Zne(h:aCA n e f=true)(k:∀ x ap ys cp,f x ap ys cp=true->P (.Call (.Attribute x n ap) ys [] cp)):P e:=by
 unfold aCA at h;exact Zaf h fun p h=>Zpz (P:=fun a=>P (.Call a p.xs p.kw p.p)) h fun x q h=>Zj8 (P:=fun w=>P (.Call (.Attribute x n q) p.xs w p.p)) h fun h=>k _ _ _ _ h
@[irreducible] noncomputable def aLC(e:Expr)(f:Expr->Expr->Expr->List Expr->Scope->Bool):Bool:=an 13 e fun p=>l1 p.gs fun g=>match g with|⟨t,i,c,n⟩=>decide (n=0)&&f p.a t i c p.sc
@[elab_as_elim] theorem ZpS(h:aLC e f=true)(k:∀ x t i c sc q,f x t i c sc=true->P (.ListComp x [⟨t,i,c,0⟩] sc q)):P e:=by
 unfold aLC at h;exact Zaf h fun p h=>ZcE (P:=fun g=>P (.ListComp p.a g p.sc p.p)) h fun g h=>match g,h with
   | ⟨t,i,c,_⟩,h=>dS (P:=fun s=>P (.ListComp p.a [⟨t,i,c,s⟩] p.sc p.p)) (bL h) (k _ _ _ _ _ _ (bR h))
@[irreducible] noncomputable def aD(e:Expr)(f:List (Option Expr)->List Expr->Bool):Bool:=an 14 e fun p=>f p.ks p.xs
@[elab_as_elim] theorem Zva(h:aD e f=true)(k:∀ ks vs q,f ks vs=true->P (.Dict ks vs q)):P e:=by
 unfold aD at h;exact Zaf h fun _ h=>k _ _ _ h
@[irreducible] noncomputable def aK(e:Expr)(f:Const->Bool):Bool:=an 15 e fun p=>f p.v
@[elab_as_elim] theorem ZuW(h:aK e f=true)(k:∀ c j q,f c=true->P (.Constant c j q)):P e:=by
 unfold aK at h;exact Zaf h fun _ h=>k _ _ _ h
end
noncomputable def Zvc:D->Const->Bool
 | .int i,.int j=>decide (i=j)
 | .str x,.str y=>decide (x=y)&&PyData.strOk y
 | .bl b,.bool c=>decide (b=c)
 | .non,.none=>true
 | _,_=>false
noncomputable def ZtP(Γ:Gm)(d:D)(e:Expr):Bool:=(aK e fun c=>Zvc d c) || match d with
 | .ty n=>aX (Str.ofString n) e (decide (n∈ZjA)&&glb Γ (Str.ofString n))
 | _=>false
noncomputable def Zna(NC N:List Str)(js:List (Option Nat))(sc scope:Scope):Bool :=
 decide (scope.kind=.function)&&decide (sc.kind=.function)&&(scope.names.all fun y=>decide (y.2≠.cell))&&(scope.names.all fun y=>!decide (y.2=.local) || decide (scope.names.lookup y.1=some .local)) &&
   (scope.names.all fun y=>!decide (y.2=.free) || decide (sc.names.lookup y.1=some .cell))&&decide NC.Nodup&&decide (js.length=NC.length) &&
   ((NC.zip js).all fun p=>p.2.all fun j=>decide (N[j]? = some p.1)&&decide (scope.names.lookup p.1=some .free))
theorem Zik(h:Zna NC N js sc scope=true):CompSc NC N js sc scope:=by
 unfold Zna at h;rw [Oa,Oa,Oa,Oa,Oa,Oa,Oa] at h;obtain ⟨⟨⟨⟨⟨⟨⟨a,b⟩,c⟩,d⟩,e⟩,f⟩,g⟩,i⟩:=h;rw [OC] at c d e;refine ⟨of_decide_eq_true a,of_decide_eq_true b,fun y hy=>of_decide_eq_true (c y hy),fun y hy e1=>?_,fun y hy e1=>?_,of_decide_eq_true f,of_decide_eq_true g,i⟩
 . have:=d y hy;rw [decide_eq_true e1] at this;simpa using this
 . have:=e y hy;rw [decide_eq_true e1] at this;simpa using this
noncomputable def Zk3(N:List Str)(own:Str->Bool)(i:Nat)(e:Expr):Bool:=aN e fun x=>decide (N[i]? = some x)&&own x
noncomputable def Zkq(N:List Str)(own:Str->Bool):List Nat->List Expr->Bool
 | [],es=>es.isEmpty
 | i::is,es=>match es with
   | e::es=>Zk3 N own i e&&Zkq N own is es
   | []=>false
noncomputable def Zks(N:List Str)(own:Str->Bool)(i j:Nat)(e:Expr):Bool:=aT e fun es=>l2 es fun a b=>Zk3 N own i a&&Zk3 N own j b
noncomputable def Zkr(N:List Str)(own:Str->Bool)(is:List Nat)(e:Expr):Bool:=aT e fun es=>Zkq N own is es
noncomputable def Zpf(N:List Str)(own:Str->Bool)(g:Tg)(e:Expr):Bool:=match g with
 | .nm i=>Zk3 N own i e
 | .two i j=>Zks N own i j e
 | .many is=>Zkr N own is e
@[elab_as_elim] theorem Za7{P:Expr->Prop}(h:Zk3 N own i e=true)(k:∀ x p,N[i]? = some x->own x=true->P (.Name x p)):P e:=Zta h fun _ _ h=>k _ _ (of_decide_eq_true (bL h)) (bR h)
noncomputable def isTup(e:Expr):Bool:=decide (tgE e=8)
@[elab_as_elim] theorem ZmK{P:Expr->Prop}(h:isTup e=true)(k:∀ xs j q,P (.Tuple xs j q)):P e:=ZhJ (P:=P) (f:=fun _=>true) (by unfold aT an;rw [show decide (tgE e=8)=true from h];rfl) fun _ _ _ _=>k _ _ _
noncomputable def tgk:Tg->Nat
 | .nm i=>i+1
 | .two i j=>max i j+1
 | .many is=>is.foldr max 0+1
noncomputable def ZsW(sc:Scope)(x:Str):Bool:=decide (sc.names.lookup x=some .local)
noncomputable def ownD(sc:Scope)(x:Str):Bool:=decide (sc.names.lookup x=some .local) || decide (sc.names.lookup x=some .cell)
noncomputable def ZaJ(e:Expr):Bool:=decide (tgE e≠18)
noncomputable def Zfz(e:Expr):Bool:=decide (tgE e≠5)
noncomputable def Za6(e:Expr):Bool:=decide (tgE e≠0)
noncomputable def ZaK(e:Expr):Bool:=!(decide (tgE e=11)&&(prt e).xs.isEmpty)
noncomputable def Zi0(e:Expr):Bool:=decide (6<=tgE e)&&decide (tgE e<=16)
mutual
noncomputable def chk(Γ:Gm):Ex->Expr->Bool
 | .var i,e=>aN e fun x=>decide (Γ.N[i]? = some x)&&(ZnC Γ.sc x&&(!(x==("__debug__" : Str))&&!(x==("__classdict__" : Str))))
 | .cst d,e=>ZtP Γ d e
 | .glo x,e=>aX x e (glb Γ x)
 | .bin op a b,e=>aB2 op e fun l r=>chk Γ a l&&chk Γ b r
 | .cmp op a b,e=>aC1 op e fun l r=>chk Γ a l&&(chk Γ b r&&ZaJ r)
 | .cmp2 o1 o2 a b c,e=>aC2 o1 o2 e fun l m r=>chk Γ a l&&(chk Γ b m&&(chk Γ c r&&ZaJ r))
 | .neg a,e=>aU .USub e fun x=>chk Γ a x
 | .nt a,e=>aU .Not e fun x=>chk Γ a x
 | .ands es,e=>aO .And e fun xs=>chks Γ es xs
 | .ors es,e=>aO .Or e fun xs=>chks Γ es xs
 | .ite c a b,e=>aI e fun t x y=>chkt Γ c t&&(chk Γ a x&&chk Γ b y)
 | .tupl es,e=>aT e fun xs=>chks Γ es xs
 | .lstl es,e=>aLs e fun xs=>chks Γ es xs
 | .ix a i,e=>aS e fun x y=>chk Γ a x&&(chk Γ i y&&Zfz y)
 | .sl a lo hi,e=>aSl e fun x l u=>chk Γ a x&&(chko Γ lo l&&chko Γ hi u)
 | .blt f es,e=>aCN (Zkt f) e fun ys=>(bok f&&glb Γ (Zkt f))&&(chks Γ es ys&&!ys.isEmpty)
 | .call f es,e=>aCN f e fun ys=>decide (f∈Γ.fs)&&(glb Γ f&&(chks Γ es ys&&!ys.isEmpty))
 | .meth m o es,e=>aCA (ZmA m) e fun x ap ys cp=>chk Γ o x&&(ZaK x&&(chks Γ es ys&&(decide (ys.length<29)&&(ap.endLine==cp.line))))
 | .trev _,_=>false
 | .lrv _,_=>false
 | .tix _ _,_=>false
 | .tmt m o e,x=>aCA (ZpG m) x fun x ap ys cp=>l1 ys fun y=>chk Γ o x&&(ZaK x&&(chk Γ e y&&(Za6 y&&(ap.endLine==cp.line))))
 | .lix _ _,_=>false
 | .sin a b,e=>aC1 .In e fun l r=>chk Γ a l&&(chk Γ b r&&ZaJ r)
 | .lin _ _,_=>false
 | .dne _ _,_=>false
 | .rpn _ _,_=>false
 | .comp NC js it g c e,x=>aLC x fun elt tg iter ifs scope=>Γ.top&&(Zna NC Γ.N js Γ.sc scope&&(chki Γ it tg iter&&(ZaJ iter&&(Zpf NC (ZsW scope) g tg&&(((List.range (tgk g)).all fun j=>decide (js[j]? = some none)) &&
       (chkf ⟨NC,scope,Γ.fs,false,Γ.kl⟩ c ifs&&chk ⟨NC,scope,Γ.fs,false,Γ.kl⟩ e elt))))))
 | .sorts _,_=>false
 | .maxd _ _,_=>false
 | .dictl ps,e=>aD e fun keys values=>decide (keys.length<=15)&&chkp Γ ps keys values
 | .att Cs o f,e=>aA f e fun x _=>chk Γ o x&&(ZaK x&&((Cs.all fun C=>decide (C∈Γ.kl.cs))&&decide (f∈Γ.kl.ats)))
 | .mk C es,e=>aCN C e fun ys=>decide (C∈Γ.kl.is)&&(glb Γ C&&chks Γ es ys)
 | .mcl C m o es,e=>aCA m e fun x ap ys cp=>chk Γ o x&&(ZaK x&&(chks Γ es ys&&(decide ((C,m)∈Γ.kl.ms)&&(decide (ys.length<29)&&(ap.endLine==cp.line)))))
 | .any,_=>true
noncomputable def chks(Γ:Gm):Exs->List Expr->Bool
 | .nil,es=>es.isEmpty
 | .cons e r,es=>match es with
   | x::xs=>chk Γ e x&&(Za6 x&&chks Γ r xs)
   | []=>false
noncomputable def chkp(Γ:Gm):Exs->List (Option Expr)->List Expr->Bool
 | .nil,ks,vs=>ks.isEmpty&&vs.isEmpty
 | .cons k r,ks,vs=>match r with
   | .cons v r'=>match ks,vs with
     | some kx::ks,vx::vs=>chk Γ k kx&&(chk Γ v vx&&chkp Γ r' ks vs)
     | _,_=>false
   | .nil=>false
noncomputable def chko(Γ:Gm):Option Ex->Option Expr->Bool
 | none,x=>x.isNone
 | some a,x=>match x with
   | some x=>chk Γ a x
   | none=>false
noncomputable def chkf(Γ:Gm):Option Tx->List Expr->Bool
 | none,x=>x.isEmpty
 | some a,x=>l1 x fun x=>chkt Γ a x
noncomputable def Zvb(Γ:Gm):Ex->Expr->Bool
 | .cmp op a b,e=>aC1 op e fun l r=>chk Γ a l&&(chk Γ b r&&ZaJ r)
 | .cmp2 o1 o2 a b c,e=>aC2 o1 o2 e fun l m r=>chk Γ a l&&(chk Γ b m&&(chk Γ c r&&ZaJ r))
 | _,_=>false
noncomputable def chkt(Γ:Gm):Tx->Expr->Bool
 | .ex e,x=>(Zi0 x&&chk Γ e x) || Zvb Γ e x
 | .ands ts,x=>aO .And x fun xs=>chkts Γ ts xs
 | .ors ts,x=>aO .Or x fun xs=>chkts Γ ts xs
 | .nt t,x=>aU .Not x fun y=>chkt Γ t y
noncomputable def chkts(Γ:Gm):Txs->List Expr->Bool
 | .one t,xs=>l1 xs fun x=>chkt Γ t x
 | .cons t ts,xs=>match xs with
   | x::r=>chkt Γ t x&&(!r.isEmpty&&chkts Γ ts r)
   | _=>false
noncomputable def chki(Γ:Gm):Ix->Expr->Expr->Bool
 | .pl e,_,x=>chk Γ e x
 | .tw e,_,x=>chk Γ e x
 | .rng e,_,x=>aCN "range" x fun ys=>l1 ys fun y=>glb Γ "range" && (chk Γ e y&&Za6 y)
 | .rng2 _ _,_,_=>false
 | .enu e,tg,x=>aCN "enumerate" x fun ys=>l1 ys fun y=>glb Γ "enumerate" && (chk Γ e y&&(Za6 y&&isTup tg))
 | .rev e,_,x=>aCN "reversed" x fun ys=>l1 ys fun y=>glb Γ "reversed" && (chk Γ e y&&Za6 y)
 | .en1 _,_,_=>false
 | .zl _ _,_,_=>false
 | .zp a b,tg,x=>aCN "zip" x fun ys=>l2 ys fun y z=>glb Γ "zip" && (chk Γ a y&&(chk Γ b z&&(Za6 y&&(Za6 z&&isTup tg))))
 | .en0 _,_,_=>false
 | .dk _,_,_=>false
end
end IV
end
section
namespace IV
open PySem PySem.Spec PyProof.Rows L2
noncomputable def leS(a b:Str):Prop:=¬ b.cps.toList<a.cps.toList
theorem ZgG(h:leS a b)(q:leS b c):leS a c:=by
 unfold leS at *;rw [List.not_lt] at *;exact List.le_trans h q
theorem Zh2(h:leS a b)(q:leS b a):a=b:=by
 unfold leS at *;rw [List.not_lt] at *;have e:=List.le_antisymm h q;obtain ⟨⟨a⟩⟩:=a;obtain ⟨⟨b⟩⟩:=b;simp at e;subst e;rfl
theorem ZhL:∀ {ss:List Str},sortedS ss=true->ss.Pairwise leS:=by
 have gen:∀ (r:List Str) (p:Str),risingS p r=true->(∀ x∈r,leS p x)/\r.Pairwise leS:=by
   intro r;induction r with
   | nil=>intro p _;exact ⟨by simp,.nil⟩
   | cons x r ih =>
     intro p h;rw [risingS,Oa] at h;obtain ⟨h1,h2⟩:=ih x h.2;have hx:leS p x:=by
       have:=h.1;rw [ltCps_eq] at this;unfold leS;simpa using this
     refine ⟨fun y hy=>?_,.cons h1 h2⟩;rcases O2.mp hy with rfl|hy
     . exact hx
     . exact ZgG hx (h1 y hy)
 intro ss h;cases ss with
 | nil=>exact .nil
 | cons x r=>obtain ⟨h1,h2⟩:=gen r x h;exact .cons h1 h2
theorem Zfu(x:Str):∀ r:List Str,(ZkP x r).Perm (x::r)
 | []=>.refl _
 | y::r=>by
   unfold ZkP;split
   . exact ((Zfu x r).cons y).trans (.swap x y r)
   . exact .refl _
theorem Zbk:∀ r:List Str,(ZaH r).Perm r
 | []=>.refl _
 | x::r=>(Zfu x _).trans ((Zbk r).cons x)
theorem ZhO(x:Str):∀ r:List Str,r.Pairwise leS->(ZkP x r).Pairwise leS
 | [],_=>.cons (by simp) .nil
 | y::r,h=>by
   cases h with
   | cons h1 h2 =>
     unfold ZkP;split
     . rename_i hlt;rw [ltCps_eq] at hlt;have hlt:=of_decide_eq_true hlt;refine .cons (fun z hz=>?_) (ZhO x r h2);rcases O2.mp ((Zfu x r).mem_iff.mp hz) with rfl|hz
       . unfold leS;rw [List.not_lt];exact List.le_of_lt hlt
       . exact h1 z hz
     . rename_i hlt;have hxy:leS x y:=by
         unfold leS;rw [ltCps_eq] at hlt;simpa using hlt
       refine .cons (fun z hz=>?_) (.cons h1 h2);rcases O2.mp hz with rfl|hz
       . exact hxy
       . exact ZgG hxy (h1 z hz)
theorem Zce:∀ r:List Str,(ZaH r).Pairwise leS
 | []=>.nil
 | x::r=>ZhO x _ (Zce r)
theorem ZkK(hp:ss'.Perm ss)(hs:sortedS ss'=true):ss'=ZaH ss :=
 (hp.trans (Zbk ss).symm).eq_of_pairwise (fun _ _ _ _ h q=>Zh2 h q) (ZhL hs) (Zce ss)
section
variable {X:Cx}{Y:Yx}{E:XK}{T:Tb}{H:Hp}{B:List Addr}{h:Hd}
theorem Zex:∀ {ds:List (Key×D)}{vs:List (Key×V)}{ss:List Str},RKs Y H B ds vs->ZbB ds=some ss->vs.map (·.1)=ss.map Sum.inr
 | _,_,_,.nil,e=>by cases e;rfl
 | _,_,_,.cons (k:=k) a s,e=>by
   cases k with
   | inl i=>cases e
   | inr x =>
     rw [ZbB] at e;obtain ⟨z,e1,rfl⟩:=Oo.mp e;rw [Op,Op,Zex s e1]
theorem ZjF:∀ (ss:List Str),(∀ x∈ss,PyData.strOk x=true)->RDs Y H B (ss.map D.str) (ss.map V.str)
 | [],_=>.nil
 | x::r,h=>.cons (.str x (h x (by simp))) (ZjF r fun y hy=>h y (by simp [hy]))
theorem Zpm (hc:X.A.handled=none) (G:Gk X Y T):Z6 X (.builtin "sorted") (rF Y E (ZdR T.GD)):=by
 intro pins s Z H xs us Q I r hh;obtain ⟨ds,h,B,rh,rs,f⟩:=hh;unfold ZdR at f;split at f
 . split at f
   . rename_i ss e2;obtain ⟨hz,f⟩:=f.iff;obtain ⟨kvs,e3,e4⟩:=Option.bind_eq_some_iff.mp e2;obtain ⟨x,rfl,r1⟩:=rs.one;obtain ⟨a,kvs',rfl,hd,rk⟩:=r1.dicOf G rh e3;obtain ⟨hz,hok⟩:=hz;refine Zhp hc pins s Z H _ us Q I r ⟨a,kvs',ss,rfl,hd,Zex rk e4,hz,fun p ss' hp h1 h2=>?_⟩;rw [ZkK h1 h2];refine f.new rh hp ⟨_,Zg,ZjF _ fun y hy=>?_⟩;rw [OC] at hok;exact hok y ((Zbk ss).mem_iff.mp hy)
   . exact f.elim
 . exact f.elim
theorem Zho(x:Str):∀ ss:List Str,x∈ddS ss↔x∈ss
 | []=>Iff.rfl
 | y::r=>by
   rw [ddS];split
   . rename_i h;rw [Zho x r,O2];exact ⟨.inr,fun z=>z.elim (fun z=>z ▸ h) id⟩
   . rw [O2,O2,Zho x r]
theorem Zm8:∀ ss:List Str,(ddS ss).Nodup
 | []=>List.nodup_nil
 | y::r=>by
   rw [ddS];split
   . exact Zm8 r
   . rename_i h;exact List.nodup_cons.mpr ⟨fun z=>h ((Zho y r).mp z),Zm8 r⟩
theorem Zpc{ks ss:List Str}(nd:ks.Nodup)(mm:∀ x,x∈ks↔x∈ss):ks.Perm (ddS ss):=(List.perm_ext_iff_of_nodup nd (Zm8 ss)).mpr fun x=>(mm x).trans (Zho x ss).symm
end
end IV
end
section
set_option tactic.hygienic false
namespace IV
open PySem PySem.Spec PyProof.Rows L2
noncomputable def RS(Y:Yx)(H:Hp)(B:List Addr)(S:Ev)(Z:L2.St):Prop:=Z.length=S.length/\∀ (i:Nat) (d:D),S[i]? = some (some d)->∃ v,Z[i]? = some (some v)/\RD Y H B d v
section
variable {Y:Yx}{H H':Hp}{B μ':List Addr}{h:Hd}{S:Ev}{Z:L2.St}
theorem RS.mono(rh:RH Y H B h)(g:Gr H B H' μ')(r:RS Y H B S Z):RS Y H' μ' S Z:=⟨r.1,fun i d e=>let ⟨v,h1,h2⟩:=r.2 i d e;⟨v,h1,h2.mono rh g⟩⟩
theorem RS.var(r:RS Y H B S Z){i:Nat}{d:D}(e:(S[i]?).join=some d):∃ v,Z[i]? = some (some v)/\RD Y H B d v:=by
 refine r.2 i d ?_;cases q:S[i]? with
 | none=>rw [q] at e;cases e
 | some o=>rw [q] at e;cases o with
   | none=>cases e
   | some d'=>cases e;rfl
theorem RS.set(r:RS Y H B S Z){i:Nat}{d:D}{v:V}(q:RD Y H B d v):RS Y H B (S.set i (some d)) (Z.set i (some v)):=by
 refine ⟨by simp [r.1],fun j e he=>?_⟩;by_cases hj:i=j
 . subst hj;have hl:i<S.length:=by
     have:=(Ob.mp he).1;simpa using this
   rw [Ol hl] at he;cases he;exact ⟨v,by rw [Ol (by rw [r.1];exact hl)],q⟩
 . rw [Oc hj] at he;obtain ⟨w,h1,h2⟩:=r.2 j e he;exact ⟨w,by rw [Oc hj];exact h1,h2⟩
theorem RS.capt(r:RS Y H B S Z)(js:List (Option Nat)):RS Y H B (ZeI js S) (capt js Z):=by
 refine ⟨by simp [ZeI,L2.capt],fun i d e=>?_⟩;unfold ZeI at e;unfold L2.capt;rw [On] at e ⊢;cases q:js[i]? with
 | none=>rw [q] at e;cases e
 | some o =>
   rw [q] at e;cases o with
   | none=>cases e
   | some j =>
     have e':(S[j]?).join=some d:=by simpa using e
     obtain ⟨v,h1,h2⟩:=r.var e';exact ⟨v,by simp [h1],h2⟩
end
inductive Sm(Y:Yx)(E:XK){α β:Type}(rel:Hp->List Addr->α->β->Prop)(m:Ev->Hd->R α)(Z:L2.St)(H:Hp)(Q:β->Hp->Prop):Prop
 | mk (S:Ev) (h:Hd) (B:List Addr) (rh:RH Y H B h) (rs:RS Y H B S Z) (f:Fin Y rel H B (m S h) Q E):Sm Y E rel m Z H Q
noncomputable def eqR{α:Type}:Hp->List Addr->α->α->Prop:=fun _ _ a b=>a=b
theorem Sm.bind{α β γ δ:Type}{Q:β->Hp->Prop}{rel:Hp->List Addr->γ->δ->Prop}{rel':Hp->List Addr->α->β->Prop}{m:Ev->Hd->R γ}{k:Ev->γ->Hd->R α}(s:Sm Y E rel' (fun S h=>(m S h).bind (k S)) Z H Q)
   {Q1:δ->Hp->Prop}
   (hk:∀ S d h1 v H1 μ1,RH Y H1 μ1 h1->RS Y H1 μ1 S Z->rel H1 μ1 d v->Fin Y rel' H1 μ1 (k S d h1) Q E->Q1 v H1):Sm Y E rel m Z H Q1:=by
 cases s with
 | mk S h B rh rs f=>exact ⟨S,h,B,rh,rs,f.bind fun d h1 x H1 μ1 _ g rh1 rd f1=>hk S d h1 x H1 μ1 rh1 (rs.mono rh g) rd f1⟩
section
variable (T:Tb) (Y:Yx) (E:XK)
noncomputable def ZO(e:Ex):TE:=Sm Y E (RD Y) (ev T e)
noncomputable def ZlX(e:Exs):TA:=Sm Y E (RDs Y) (evs T e)
noncomputable def ZiU(e:Tx):TT:=Sm Y E eqR (tst T e)
noncomputable def Zuw(e:Option Ex):TO:=Sm Y E eqR (evo T e)
noncomputable def Zux(e:Ix):TI:=Sm Y E (WJ Y) (evi T e)
noncomputable def ZeN(f:Str):Sp:=fun vs H Q E=>∃ ds h B,RH Y H B h/\RDs Y H B ds vs/\Fin Y (RD Y) H B (T.C f ds h) Q E
end
structure Gd(T:Tb)(Γ:Gm)(X:Cx)(Y:Yx)(E:XK)(k:Nat):Prop where
 gk:Gk X Y T
 N:X.N=Γ.N
 sc:Γ.top=true->X.env.scope=Γ.sc
 vis:∀ x,ZnC Γ.sc x=true->Vis X.env.scope x
 glo:∀ x,Γ.sc.names.lookup x=some .globalImplicit->Gl X x
 nd:X.N.Nodup
 calm:X.calm=true
 room:Room k X.A
 h60:60<=k
 pass:Za2 (CXF X.prog X.w) X E
 defs:∀ f∈Γ.fs,∃ ps,Def X.prog X.w X.K X.mg X.base k f ps (ZeN T Y f)
 blt:∀ x∈Zku,X.mg x=none
 room1:Room (k+1) X.A
 cls:∀ C∈Γ.kl.cs,∃ a,X.mg C=some (.ref a)/\Cls X.K a/\∀ f∈Γ.kl.ats,Zai X.K a f
 mts:∀ p∈Γ.kl.ms,∃ a f fd ps,X.mg p.1=some (.ref a)/\Cls X.K a/\Meth X.K a p.2 f/\FnOk X.prog X.w X.K X.mg X.base (CXF X.prog X.w) k f fd ps (ZeN T Y (mnm p.1 p.2))/\Binds X.K fd ps []
 mks:∀ C∈Γ.kl.is,∃ a f fd ps,X.mg C=some (.ref a)/\Mk X.K a f/\FnOk X.prog X.w X.K X.mg X.base (CXF X.prog X.w) k f fd ps (ZeN T Y (mnm C (O "__init__")))/\Binds X.K fd ps []
theorem _root_.L2.PE.imp(h:PE X e t)(i:∀ Z H Q,t' Z H Q->t Z H Q):PE X e t':=fun pins s Z H Q I q=>h pins s Z H Q I (i Z H Q q)
theorem _root_.L2.PT.imp(h:PT X e t)(i:∀ Z H Q,t' Z H Q->t Z H Q):PT X e t':=fun pins s Z H Q I q=>h pins s Z H Q I (i Z H Q q)
theorem _root_.L2.PW.imp(h:PW X e t)(i:∀ Z H Q,t' Z H Q->t Z H Q):PW X e t':=fun w pins s Z H Q I q=>h w pins s Z H Q I (i Z H Q q)
theorem _root_.L2.PA.imp(h:PA X e t)(i:∀ Z H Q,t' Z H Q->t Z H Q):PA X e t':=fun p pins s Z H Q I q=>h p pins s Z H Q I (i Z H Q q)
theorem _root_.L2.PO.imp(h:PO X e t)(i:∀ Z H Q,t' Z H Q->t Z H Q):PO X e t':=fun pins s Z H Q I q=>h pins s Z H Q I (i Z H Q q)
theorem _root_.L2.PI.imp(h:PI X tg e t)(i:∀ Z H Q,t' Z H Q->t Z H Q):PI X tg e t':=fun pins s Z H Q I q=>h pins s Z H Q I (i Z H Q q)
structure Kd(x:Expr):Prop where
 star:tgE x≠0->∀ xs env,starEach (x::xs) env=(false,eval x env)::starEach xs env
 set:tgE x≠18->∀ env v,foldedSetIterable x env v=pure v
 mark:tgE x≠18->∀ op,behindInMarks op x=false
 ix:tgE x≠5->ZhC x
 put:tgE x≠5->∀ o pos env v,assign (.Subscript o x pos) env v=(do
     let ov <- holding [v] (eval o env);let iv <- holding [v,ov] (eval x env)
     standAt pos
     holding [v,ov,iv] (setItem ov iv v)
     release [v,ov,iv] [])
 tr:Zi0 x=true->∀ env whole,isTrue x env whole=(do let v <- whole;standAt x.pos;holding [v] (truthy v))
 sw:tgE x≠13->tgE x≠19->∀ t n env,swapsWith x t n env=pure false
 st:tgE x≠8->∀ es j q env,swappedStores [.Tuple es j q] x env=pure none
theorem kdE(x:Expr):Kd x:=by
 cases x<;>exact ⟨by first|exact fun _ _ _=>rfl|exact fun h=>absurd rfl h,by first|exact fun _ _ _=>rfl|exact fun h=>absurd rfl h,by first|exact fun _ _=>rfl|exact fun h=>absurd rfl h,by first|exact fun _ _ _=>rfl|exact fun h=>absurd rfl h,
   by first|exact fun _ _ _ _ _=>rfl|exact fun h=>absurd rfl h,
   by first|exact fun _ _ _=>rfl|exact fun h=>ff h,by first|exact fun _ _ _ _ _=>rfl|exact fun h=>absurd rfl h|exact fun _ h=>absurd rfl h,by first|exact fun _ _ _ _ _=>rfl|exact fun h=>absurd rfl h⟩
theorem Zq(env:Env)(h:Za6 x=true):starEach (x::xs) env=(false,eval x env)::starEach xs env:=(kdE x).star (of_decide_eq_true h) _ _
theorem ZiS(env:Env)(h:ZaJ x=true):∀ v,foldedSetIterable x env v=pure v:=(kdE x).set (of_decide_eq_true h) _
theorem Zdx(h:ZaJ x=true):behindInMarks op x=false:=(kdE x).mark (of_decide_eq_true h) _
theorem ZlR(h:Zfz x=true):ZhC x:=(kdE x).ix (of_decide_eq_true h)
theorem ZdK(h:ZaK x=true):attributeBase x n env (eval x env)=eval x env:=by
 cases x with
 | Call f as ks p =>
   cases as with
   | nil=>cases h
   | cons a as=>cases f<;>rfl
 | _=>rfl
theorem Zdo(Γ:Gm)(env:Env):∀ (es:Exs) (xs:List Expr),chks Γ es xs=true->∀ pos,(backTo pos (starEach xs env)).any (·.1)=false/\(backTo pos (starEach xs env)).all (fun x=>!x.1)=true
 | .nil,[],_,_=>⟨rfl,rfl⟩
 | .nil,_::_,h,_=>ff h
 | .cons _ _,[],h,_=>ff h
 | .cons _ r,x::xs,h,pos=>by
   rw [Zq env (bL (bR h))];exact Zdo Γ env r xs (bR (bR h)) pos
theorem ZcI(env:Env)(h:chks Γ es (y::r)=true):starEach (y::r) env=(false,eval y env)::starEach r env/\∀ pos,(backTo pos (starEach r env)).any (·.1)=false:=by
 cases es with
 | nil=>exact ff h
 | cons e s=>exact ⟨Zq env (bL (bR h)),fun pos=>(Zdo Γ env s r (bR (bR h)) pos).1⟩
@[elab_as_elim] theorem Zp5{P:List Expr->Prop}(h:chks Γ es ys=true)(h1:(!ys.isEmpty)=true)(k:∀ y r,chks Γ es (y::r)=true->P (y::r)):P ys:=by
 cases ys with
 | nil=>exact ff h1
 | cons y r=>exact k y r h
theorem Gd.gl {T:Tb}{Γ:Gm}{X:Cx}{Y:Yx}{E:XK}{k:Nat} (G:Gd T Γ X Y E k) {x:Str} (h:glb Γ x=true):Gl X x/\(x==("__debug__" : Str))=false:=by
 unfold glb at h;rw [Oa] at h;exact ⟨G.glo x (of_decide_eq_true h.1),by simpa using h.2⟩
theorem ZfB{f:Str->NameKind->NameKind}(x:Str):∀ names:List (Str×NameKind),(names.map fun p=>(p.1,f p.1 p.2)).lookup x=(names.lookup x).map (f x)
 | []=>rfl
 | (n,k)::r=>by
   rw [Op,OF,OF];by_cases e:x=n
   . subst e;simp
   . have:(x==n)=false:=by simpa using e
     simp only [this];exact ZfB x r
theorem ZaI(scope:Scope)(env:Env)(x:Str):(relabel scope env).names.lookup x=(scope.names.lookup x).map fun k=>if (k==NameKind.free&&env.scope.kind==.function&&env.kindOf x==some .cell) then NameKind.cell else k:=by
 have e:(relabel scope env).names=scope.names.map fun p=>(p.1,(fun (n:Str) (k:NameKind)=>if (k==NameKind.free&&env.scope.kind==.function&&env.kindOf n==some .cell) then NameKind.cell else k) p.1 p.2):=by
   unfold relabel;simp only;refine List.map_congr_left fun p _=>?_;obtain ⟨n,k⟩:=p;simp only;split<;>rfl
 rw [e];exact ZfB (f:=fun (n:Str) (k:NameKind)=>if (k==NameKind.free&&env.scope.kind==.function&&env.kindOf n==some .cell) then NameKind.cell else k) x scope.names
theorem Gd.comp{T:Tb}{Γ:Gm}{X:Cx}{Y:Yx}{E:XK}{k:Nat}(G:Gd T Γ X Y E k)(NC:List Str)(scope:Scope)(C:Addr)(s3:Shared)(H3:Hp)(fp:List Addr)(nd:NC.Nodup):Gd T ⟨NC,scope,Γ.fs,false,Γ.kl⟩ (Zv X NC scope C s3 H3 fp) Y E0 k:=by
 refine ⟨⟨G.gk.K,G.gk.mg,G.gk.gd,G.gk.g,G.gk.bare⟩,rfl,(fun h=>by cases h),fun x hx=>?_,fun x hx=>?_,nd,rfl,G.room,G.h60,ZkV,G.defs,G.blt,G.room1,G.cls,G.mts,G.mks⟩
 . show Vis (relabel scope X.env) x;unfold Vis;rw [ZaI];unfold ZnC at hx;rw [Bool.or_eq_true,Bool.or_eq_true] at hx;rcases hx with (hx|hx)|hx
   . rw [of_decide_eq_true hx];exact .inl rfl
   . rw [of_decide_eq_true hx];exact .inr (.inl rfl)
   . rw [of_decide_eq_true hx];by_cases q:(X.env.scope.kind==.function&&X.env.kindOf x==some .cell)=true
     . refine .inr (.inl ?_);have:(NameKind.free==NameKind.free&&X.env.scope.kind==.function&&X.env.kindOf x==some .cell)=true:=by simpa using q
       simp only [Option.map_some,this,if_true]
     . refine .inr (.inr ?_);have:¬ ((NameKind.free==NameKind.free&&X.env.scope.kind==.function&&X.env.kindOf x==some .cell)=true):=by simpa using q
       simp only [Option.map_some,this,if_false];rfl
 . show (relabel scope X.env).names.lookup x=some .globalImplicit;rw [ZaI,hx];rfl
section
variable {T:Tb}{Y:Yx}{E:XK}{Z:L2.St}{H:Hp}{Q:VK}
theorem ZlY{a b:Ex}{f:D->D->Hd->R D}(s:Sm Y E (RD Y) (fun S h=>(ev T a S h).bind fun x h1=>(ev T b S h1).bind fun y h2=>f x y h2) Z H Q):ZO T Y E a Z H fun x H1=>ZO T Y E b Z H1 fun y H2=>rB Y E f x y H2 Q :=
 s.bind fun S d h1 x H1 μ1 rh1 rs1 rd f1=>⟨S,h1,μ1,rh1,rs1,f1.bind fun e h2 y H2 μ2 _ g2 rh2 re f2=>⟨d,e,h2,μ2,rh2,rd.mono rh1 g2,re,f2⟩⟩
end
theorem ZrT{T:Tb}{Γ:Gm}{X:Cx}{Y:Yx}{E:XK}{k:Nat}(G:Gd T Γ X Y E k)(f:Bf)(hb:bok f=true){e:Expr}{es:List Expr}{t:TA}{p pos:Pos}(hg:Gl X (Zkt f))(ha:PA X (e::es) t)
   (he:starEach (e::es) X.env=(false,eval e X.env)::starEach es X.env) (hpl:(backTo pos (starEach es X.env)).any (·.1)=false):PE X (.Call (.Name (Zkt f) p) (e::es) [] pos) (tCB (rF Y E (Zcq T.GD f)) t):=by
 have hY:=G.gk.K;cases f with
 | len=>exact ZbV (Zpn hY) hg (G.blt _ (by decide)) (by decide +kernel) ha (by decide) (by decide) he hpl
 | isi=>exact ZbV (Zpp hY) hg (G.blt _ (by decide)) (by decide +kernel) ha (by decide) (by decide) he hpl
 | int=>exact Zcf Zpq hg (G.blt _ (by decide)) (by decide +kernel) ha (by decide) (by decide) he hpl
 | tup=>exact Zcf (Zpj hY) hg (G.blt _ (by decide)) (by decide +kernel) ha (by decide) (by decide) he hpl
 | lst=>cases hb
 | sum=>exact ZbV (Zpk G.room.hd hY) hg (G.blt _ (by decide)) (by decide +kernel) ha (by decide) (by decide) he hpl
 | all=>exact ZbV (Zpr G.calm hY) hg (G.blt _ (by decide)) (by decide +kernel) ha (by decide) (by decide) he hpl
 | mx=>cases hb
 | sri=>cases hb
 | dct=>cases hb
 | ldk=>cases hb
 | sto=>exact Zcf Zpl hg (G.blt _ (by decide)) (by decide +kernel) ha (by decide) (by decide) he hpl
 | itx=>exact Zcf Zpo hg (G.blt _ (by decide)) (by decide +kernel) ha (by decide) (by decide) he hpl
 | lnd=>cases hb
 | srt=>exact ZbV (Zpm G.room.hd G.gk) hg (G.blt _ (by decide)) (by decide +kernel) ha (by decide) (by decide) he hpl
end IV
end
section
namespace IV
open PySem PySem.Spec PyProof.Rows L2
theorem ZfQ{v:V}(rd:∀ H B,RD Y H B d v)(p:PE X x (tC v)):PE X x (ZO T Y E (.cst d)):=PE.imp p fun Z H Q s=>by
 cases s with
 | mk S h B rh rs f=>exact Fin.ok (r:=rd H B) (show Fin Y (RD Y) H B (.ok d h) Q E from f) rh
theorem Zm9(G:Gd T Γ X Y E k)(h:ZtP Γ d x=true):PE X x (ZO T Y E (.cst d)):=by
 refine bO h (fun h=>ZuW (P:=fun x=>PE X x _) h fun c j q h=>?_) fun h=>?_
 . cases d with
   | int i=>cases c with
     | int j=>exact dS (P:=fun i=>PE X _ (ZO T Y E (.cst (.int i)))) h (ZfQ (fun _ _=>.int _) ZqX)
     | _=>exact ff h
   | str i=>cases c with
     | str j=>exact dS (P:=fun i=>PE X _ (ZO T Y E (.cst (.str i)))) (bL h) (ZfQ (fun _ _=>.str _ (bR h)) ZqT)
     | _=>exact ff h
   | bl i=>cases c with
     | bool j=>exact dS (P:=fun i=>PE X _ (ZO T Y E (.cst (.bl i)))) h (ZfQ (fun _ _=>.bl _) ZsV)
     | _=>exact ff h
   | non=>cases c with
     | none=>exact ZfQ (fun _ _=>.non) ZqV
     | _=>exact ff h
   | _=>exact ff h
 . cases d with
   | ty n =>
     refine Zqd (P:=fun x=>PE X x _) h fun p h=>?_;obtain ⟨g1,g2⟩:=G.gl (bR h);have all:(ZjA.all fun n=>decide (bootBuiltins (Str.ofString n)=some (.type n))&&(decide (Str.ofString n ≠ "__name__")&&decide (Str.ofString n∈Zku)))=true:=by decide +kernel
     have a:=OC.mp all n (of_decide_eq_true (bL h));exact ZfQ (fun _ _=>.ty _) (Zom g1 (G.blt _ (of_decide_eq_true (bR (bR a)))) (of_decide_eq_true (bL a)) rfl (of_decide_eq_true (bL (bR a))) g2)
   | _=>exact ff h
theorem R.bind_eq{α β:Type}{r:R α}{k:α->Hd->R β}{b:β}{h:Hd}(e:r.bind k=.ok b h):∃ a h1,r=.ok a h1/\k a h1=.ok b h:=by
 cases r with
 | bad=>cases e
 | ok a h1=>exact ⟨a,h1,rfl,e⟩
 | exc c h1=>cases e
theorem R.bind_assoc{α β γ:Type}{r:R α}{k:α->Hd->R β}{l:β->Hd->R γ}:(r.bind k).bind l=r.bind fun a h=>(k a h).bind l:=by cases r<;>rfl
theorem Zmu(e:opC GD op x y h=.ok r h'):∃ b,r=.bl b:=by
 have i2:∀ {f:Int->Int->Bool},Zg6 f x y h=.ok r h'->∃ b,r=.bl b:=fun e=>by
   unfold Zg6 at e;split at e
   . cases e;exact ⟨_,rfl⟩
   . cases e
 have eq:∀ {n:Bool},Zdt n x y h=.ok r h'->∃ b,r=.bl b:=fun e=>by
   unfold IV.Zdt at e;split at e
   . split at e
     . cases e;exact ⟨_,rfl⟩
     . cases e
   . cases e
 have inn:∀ {n:Bool},Za5 GD n x y h=.ok r h'->∃ b,r=.bl b:=fun e=>by
   unfold Za5 at e;split at e
   . split at e
     . cases e;exact ⟨_,rfl⟩
     . cases e
   . split at e
     . cases e;exact ⟨_,rfl⟩
     . cases e
 have n1:∀ {n:Bool},opN n x y h=.ok r h'->∃ b,r=.bl b:=fun e=>by
   unfold opN at e;split at e
   . cases e;exact ⟨_,rfl⟩
   . cases e
 unfold opC at e;split at e
 . exact eq e
 . exact eq e
 . exact i2 e
 . exact i2 e
 . exact i2 e
 . exact i2 e
 . exact inn e
 . exact inn e
 . exact n1 e
 . exact n1 e
theorem Ztc (m:Mf):Slot "list" (ZmA m) (mid m)/\typeOf (.builtin (mid m))=pure (.type "method_descriptor"):=by
 cases m with
 | app=>exact ⟨PySem.F.slot_list_append,PySem.F.type_list_append⟩
 | ext=>exact ⟨PySem.F.slot_list_extend,PySem.F.type_list_extend⟩
 | pop=>exact ⟨PySem.F.slot_list_pop,PySem.F.type_list_pop⟩
 | rev=>exact ⟨PySem.F.slot_list_reverse,PySem.F.type_list_reverse⟩
 | clr=>exact ⟨PySem.F.slot_list_clear,PySem.F.type_list_clear⟩
section
variable {Y:Yx}{α β α' β':Type}{rel:Hp->List Addr->α->β->Prop}{rel':Hp->List Addr->α'->β'->Prop}{H0 H H1:Hp}{μ0 B μ1:List Addr}{E:XK}
theorem Fin.bindB(g0:Gr H0 μ0 H B)(f:Fin Y rel' H0 μ0 (r.bind k) Q E)
   (hk:∀ a h1 b H1 μ1,r=.ok a h1->Gr H B H1 μ1->RH Y H1 μ1 h1->rel H1 μ1 a b->Fin Y rel' H0 μ0 (k a h1) Q E->Q1 b H1):Fin Y rel H B r Q1 E:=by
 cases r with
 | bad=>exact f
 | ok a h=>exact fun b H' μ' g' rh rl=>hk a h b H' μ' rfl g' rh rl f
 | exc c h=>exact fun H' μ' C g'=>f H' μ' C (g0.trans g')
theorem Fin.plain(f:Fin Y rel' H0 μ0 (r.plain.bind k) Q E)
   (hk:∀ a h1 b H1 μ1,r=.ok a h1->Gr H B H1 μ1->RH Y H1 μ1 h1->rel H1 μ1 a b->Fin Y rel' H0 μ0 (k a h1) Q E->Q1 b H1):Fin Y rel H B r Q1 E0:=by
 cases r with
 | bad=>exact f
 | ok a h=>exact fun b H' μ' g' rh rl=>hk a h b H' μ' rfl g' rh rl f
 | exc c h=>exact f.elim
end
noncomputable def Zif:List Nat->TGs
 | []=>Zo0
 | i::is=>Zig (ZbK i) (Zif is)
noncomputable def tgR(K:PySem.W.Frag):Tg->TG
 | .nm i=>ZbK i
 | .two i j=>ZoZ K 2 (Zig (ZbK i) (Zig (ZbK j) Zo0))
 | .many is=>ZoZ K is.length (Zif is)
theorem ZhI:∀ is:List Nat,is.foldr max 0<k->ZiL k (Zif is)
 | [],_=>ZjE
 | i::is,h=>by
   simp only [List.foldr_cons] at h;exact Zfm (by lia) (ZhI is (by lia))
theorem Zsp(K:PySem.W.Frag)(g:Tg):Zju (tgk g) (tgR K g):=by
 cases g with
 | nm i=>exact ZnG (OH i)
 | two i j=>exact ZlH (Zfm (show i<max i j+1 by lia) (Zfm (show j<max i j+1 by lia) ZjE))
 | many is=>exact ZlH (ZhI is (OH _))
theorem Zea:∀ (is:List Nat) (es:List Expr),Zkq N own is es=true->(assignEach es env).length=is.length/\List.findIdx? (fun x=>x.fst) (assignEach es env)=none
 | [],[],_=>⟨rfl,rfl⟩
 | i::is,e::es,h=>by
   obtain ⟨a,b⟩:=Zea (env:=env) is _ (bR h);refine Za7 (P:=fun e=>(assignEach (e::es) env).length=_/\List.findIdx? (fun x=>x.fst) (assignEach (e::es) env)=none) (bL h) fun x p _ _=>⟨congrArg (·+1) a,?_⟩
   simp only [assignEach,List.findIdx?_cons,b];rfl
 | [],_::_,h=>ff h
 | _::_,[],h=>ff h
theorem ZhR(hN:X.N=N)(nd:X.N.Nodup)(ho:∀ x,own x=true->Loc X.env.scope x/\(X.fn x=true\/X.env.scope.names.lookup x=some .local)):∀ (is:List Nat) (es:List Expr),Zkq N own is es=true->PGs X es (Zif is)
 | [],[],_=>ZjS
 | i::is,e::es,h=>Za7 (P:=fun e=>PGs X (e::es) _) (bL h) fun x p e1 e2=>Zfx (ZjU nd (by rw [hN];exact e1) (ho _ e2).1 (ho _ e2).2) (ZhR hN nd ho is _ (bR h))
 | [],_::_,h=>ff h
 | _::_,[],h=>ff h
theorem ZjT(hN:X.N=N)(nd:X.N.Nodup)(hc:X.calm=true)(ho:∀ x,own x=true->Loc X.env.scope x/\(X.fn x=true\/X.env.scope.names.lookup x=some .local))(h:Zpf N own g tg=true):PG X tg (tgR X.K g):=by
 have nm:∀ {i x p},N[i]? = some x->own x=true->PG X (.Name x p) (ZbK i):=fun e1 e2=>ZjU nd (by rw [hN];exact e1) (ho _ e2).1 (ho _ e2).2;cases g with
 | nm i=>exact Za7 (P:=fun t=>PG X t _) h fun x p e1 e2=>nm e1 e2
 | two i j=>exact ZhJ (P:=fun t=>PG X t _) (show Zks N own i j tg=true from h) fun xs k q h=>ZmG (P:=fun xs=>PG X (.Tuple xs k q) _) h fun a b h=>Za7 (P:=fun a=>PG X (.Tuple [a,b] k q) _) (bL h) fun x p e1 e2=>Za7 (P:=fun b=>PG X (.Tuple [_,b] k q) _) (bR h) fun y r e3 e4=>Zmi hc (Zfx (nm e1 e2) (Zfx (nm e3 e4) ZjS))
 | many is=>exact ZhJ (P:=fun t=>PG X t _) (show Zkr N own is tg=true from h) fun xs k q h=>Zmi (hn:=(Zea _ _ h).1) (hst:=(Zea _ _ h).2) hc (ZhR hN nd ho _ _ h)
theorem Zj5:∀ (is:List Nat) {ds:List D}{vs:List V}{S:Ev}{Z:L2.St},RDs Y H B ds vs->RS Y H B S Z->ds.length=is.length->(∀ σ1,RS Y H B (ZiT is ds S) σ1->Q σ1 H)->Zif is vs Z H Q
 | [],ds,vs,S,Z,r,rs,hl,q=>by
   cases r with
   | nil=>exact ⟨rfl,q _ rs⟩
   | cons a s=>simp at hl
 | i::is,ds,vs,S,Z,r,rs,hl,q=>by
   cases r with
   | nil=>simp at hl
   | cons a s=>exact ⟨_,_,rfl,Zj5 is s (rs.set a) (by simpa using hl) q⟩
theorem Zhu{Y:Yx}{K:PySem.W.Frag}{Q:L2.St->Hp->Prop}(hY:Y.K=K)(r:RD Y H B d v)(rs:RS Y H B S Z)(e:Zbt g d S=some ρ1)(q:∀ σ1,RS Y H B ρ1 σ1->Q σ1 H):tgR K g v Z H Q:=by
 cases g with
 | nm i =>
   cases e;exact q _ (rs.set r)
 | two i j =>
   unfold Zbt at e;simp only at e;split at e
   . cases e;obtain ⟨a,vs,rfl,t,s⟩:=r.tup_inv;obtain ⟨x,y,rfl,r1,r2⟩:=s.two;exact ⟨a,_,rfl,hY ▸ t,rfl,x,_,rfl,y,_,rfl,rfl,q _ ((rs.set r1).set r2)⟩
   . cases e
 | many is =>
   unfold Zbt at e;simp only at e;split at e
   . split at e
     . rename_i hl;cases e;obtain ⟨a,vs,rfl,t,s⟩:=r.tup_inv;exact ⟨a,vs,rfl,hY ▸ t,by rw [<- s.length,hl],Zj5 is s rs hl q⟩
     . cases e
   . cases e
section
variable {Y:Yx}{H:Hp}{B:List Addr}{h:Hd}{Dd:Addr}{ys zs:List V}
theorem ZlN{K:PySem.W.Frag}(hD:H Dd=some (.lst ys))(t:SqT K H a vs):SqT K (upd H Dd (.lst zs)) a vs:=by
 rcases t with t|t
 . rcases t with t|⟨o,t⟩
   . exact .inl (.inl (by rw [Zk (fun z=>by rw [z,hD] at t;cases t)];exact t))
   . exact .inl (.inr ⟨o,by rw [Zk (fun z=>by rw [z,hD] at t;cases t)];exact t⟩)
 . exact .inr t
theorem ZmP{K:PySem.W.Frag}(hD:H Dd=some (.lst ys))(t:FzL K H a vs):FzL K (upd H Dd (.lst zs)) a vs:=by
 rcases t with ⟨o,t⟩|t
 . exact .inl ⟨o,by rw [Zk (fun z=>by rw [z,hD] at t;cases t)];exact t⟩
 . exact .inr t
theorem Tr.swap(hD:H Dd=some (.lst ys)):Tr Y H B (upd H Dd (.lst zs)) B:=⟨ZlN hD,ZmP hD,id⟩
theorem RH.swap(hD:H Dd=some (.lst ys))(hn:Dd ∉ B)(r:RH Y H B h):RH Y (upd H Dd (.lst zs)) B h :=
 r.tr (.swap hD) fun _ ha=>Zk fun z=>hn (z ▸ ha)
theorem Gr.out(g:Gr H B H' μ')(hD:H Dd=some o)(hn:Dd ∉ B):H' Dd=some o/\Dd ∉ μ' :=
 ⟨g.keep _ _ hn hD,fun hm=>(g.new _ hm).elim hn fun z=>by rw [hD] at z;cases z⟩
end
inductive CwS(Y:Yx)(H1:Hp)(μ1:List Addr)(xs:List D)(Dd:Addr)(F:List D->List D->Hd->Prop)(i m:Nat)(ys:List V)(H:Hp):Prop
 | mk (acc:List D) (h:Hd) (B:List Addr) (hi:i<=xs.length) (hm:m=xs.length - i) (g:Gr H1 μ1 H B) (rh:RH Y H B h) (ra:RDs Y H B acc ys) (nd:Dd ∉ B) (f:F (xs.drop i) acc h):CwS Y H1 μ1 xs Dd F i m ys H
theorem Zko{T:Tb}{Y:Yx}{E:XK}{K:PySem.W.Frag}(hY:Y.K=K){js:List (Option Nat)}{g:Tg}{c:Option Tx}{e:Ex}{tc:TT}{J:It}{w:Wk}{H1:Hp}{μ1:List Addr}{h1:Hd}{S:Ev}{Z:L2.St}{Q:VK}{Dd:Addr}
   (htc:∀ Z H Q,Sm Y E0 eqR (tsto T c) Z H Q->tc Z H Q)
   (rh:RH Y H1 μ1 h1) (rs:RS Y H1 μ1 S Z) (wj:WJ Y H1 μ1 w J) (f:Fin Y (RD Y) H1 μ1 ((Zu w.src g (tsto T c) (ev T e) w.xs (ZeI js S) [] h1).bind fun xs h2=>Za3 (.lst xs) h2) Q E) (hD:H1 Dd=none) :
   ∃ W:Nat->Nat->List V->Hp->Prop,(∃ m,W 0 m [] (upd H1 Dd (.lst []))) /\
     ∀ i m ys H,W i m ys H->H Dd=some (.lst ys)->(J.stop i H/\Q (.ref Dd) H) \/
       (J.go i H/\ys.length<sizeLine/\∀ x H',J.yld i H x H'->tgR K g x (capt js Z) H' fun σ2 H2=>tc σ2 H2 fun b H3 =>
         if b=true then ZO T Y E0 e σ2 H3 fun y H4=>H4 Dd=some (.lst ys)/\∃ m',m'<m/\W (i+1) m' (ys++[y]) (upd H4 Dd (.lst (ys++[y])))
         else H3 Dd=some (.lst ys)/\∃ m',m'<m/\W (i+1) m' ys H3):=by
 have n1:=rh.fr hD;refine ⟨CwS Y H1 μ1 w.xs Dd fun xs acc h=>Fin Y (RD Y) H1 μ1 ((Zu w.src g (tsto T c) (ev T e) xs (ZeI js S) acc h).bind fun xs h2=>Za3 (.lst xs) h2) Q E,⟨w.xs.length,[],h1,μ1,Nat.zero_le _,(Nat.sub_zero _).symm,Gr.lay0 hD,rh.lay0 hD,.nil,n1,f⟩,?_⟩;rintro i m ys H ⟨acc,h,B,hi,rfl,g1,rh1,ra,nD,f1⟩ hl;by_cases hlt:i<w.xs.length
 . obtain ⟨d,hd⟩:∃ d,w.xs[i]? = some d:=⟨_,Og hlt⟩
   have hdrop:w.xs.drop i=d::w.xs.drop (i+1):=by
     rw [List.drop_eq_getElem_cons hlt];have:=Og hlt;rw [hd] at this;rw [<- Option.some.inj this]
   rw [hdrop,Zu] at f1;by_cases hs:Wk.stays w.src h=true/\acc.length<sizeLine
   . rw [if_pos hs] at f1;obtain ⟨go,yl⟩:=(wj H B h g1 rh1 hs.1).1 i d hd;refine .inr ⟨go,by rw [<- ra.length];exact hs.2,fun x H' hy=>?_⟩;obtain ⟨g2,rh2,rx⟩:=yl x H' hy;obtain ⟨hl2,nD2⟩:=g2.out hl nD;have g02:=g1.trans g2;split at f1
     . exact f1.elim
     . rename_i ρ1 hb;refine Zhu hY rx ((rs.mono rh g02).capt js) hb fun σ1 rs1=>htc σ1 H' _ ⟨ρ1,h,B,rh2,rs1,?_⟩;rw [R.bind_assoc] at f1;refine Fin.plain f1 fun b h3 b' H3 μ3 _ g3 rh3 eb f3=>?_;subst eb;obtain ⟨hl3,nD3⟩:=g3.out hl2 nD2;have g03:=g02.trans g3;cases b with
       | true =>
         rw [if_pos rfl] at f3 ⊢;rw [R.bind_assoc] at f3;refine ⟨ρ1,h3,μ3,rh3,rs1.mono rh2 g3,Fin.plain f3 fun y h4 y' H4 μ4 _ g4 rh4 ry f4=>?_⟩;obtain ⟨hl4,nD4⟩:=g4.out hl3 nD3;refine ⟨hl4,_,Nat.sub_lt_sub_left hlt (OH i),acc++[y],h4,μ4,hlt,rfl,(g03.trans g4).put hD,rh4.swap hl4 nD4,((((ra.mono rh1 g2).mono rh2 g3).mono rh3 g4).append (.cons ry .nil)).tr (.swap hl4),nD4,f4⟩
       | false =>
         rw [if_neg (by decide)] at f3 ⊢;exact ⟨hl3,_,Nat.sub_lt_sub_left hlt (OH i),acc,h3,μ3,hlt,rfl,g03,rh3,(ra.mono rh1 g2).mono rh2 g3,nD3,f3⟩
   . rw [if_neg hs] at f1;exact f1.elim
 . have he:i=w.xs.length:=by lia
   subst he;rw [List.drop_eq_nil_of_le (Oq _),Zu] at f1;by_cases hs:Wk.stays w.src h=true
   . rw [if_pos hs] at f1;refine .inl ⟨(wj H B h g1 rh1 hs).2,?_⟩;have f2:Fin Y (RD Y) H1 μ1 (.ok (.ref h.length) (h++[.lst acc])) Q E:=f1;exact f2.at (g1.add hD) (rh1.add nD ⟨ys,hl,ra.tr .more⟩) (.ref (by rw [rh1.len];simp))
   . rw [if_neg hs] at f1;exact f1.elim
end IV
end
section
namespace IV
open PySem PySem.Spec PyProof.Rows L2
section
variable {Y:Yx}{H:Hp}{B:List Addr}{h:Hd}
theorem RKs.look:∀ {fs:List (Str×D)}{gs:List (Str×V)},RKs Y H B fs gs->(∀ d,fs.lookup f=some d->∃ v,gs.lookup f=some v/\RD Y H B d v)/\(fs.lookup f=none->gs.lookup f=none)
 | _,_,.nil=>⟨fun d e=>by simp at e,fun _=>rfl⟩
 | _,_,.cons (k:=k) (d:=d0) (v:=v0) a s=>by
   by_cases e:f=k
   . subst e;exact ⟨fun d z=>by simp at z;subst z;exact ⟨_,by simp,a⟩,fun z=>by simp at z⟩
   . have b:(f==k)=false:=by simpa using e
     obtain ⟨q1,q2⟩:=RKs.look (f:=f) s;refine ⟨fun d z=>?_,fun z=>?_⟩
     . rw [OF,b] at z ⊢;exact q1 d z
     . rw [OF,b] at z ⊢;exact q2 z
theorem RKs.putAF(r:RD Y H B d v):∀ {fs:List (Str×D)}{gs:List (Str×V)},RKs Y H B fs gs->RKs Y H B (ZkQ f d fs) (Zbh f v gs)
 | _,_,.nil=>.cons r .nil
 | _,_,.cons (k:=k) a s=>by
   unfold ZkQ Zbh;by_cases e:k=f
   . rw [if_pos e,if_pos e];exact .cons r s
   . rw [if_neg e,if_neg e];exact .cons a (RKs.putAF r s)
theorem ZfG(rh:RH Y H B h)(r:RD Y H B d v)(e:ZL d h=some (C,fs)):∃ i a Ca dx gs,d=.ref i/\v=.ref a/\B[i]? = some a/\h[i]? = some (.ins C fs)/\H a=some (.ins Ca dx gs)/\Y.mg C=some (.ref Ca)/\RKs Y H B fs gs:=by
 unfold ZL at e;split at e
 . rename_i i;split at e
   . rename_i C' fs' hi;cases e;cases r with
     | ref q =>
       rename_i a;obtain ⟨Ca,dx,gs,z,m,s⟩:=rh.ob i _ a hi q;exact ⟨i,a,Ca,dx,gs,rfl,rfl,q,hi,z,m,s⟩
   . cases e
 . cases e
theorem ZoM(rh:RH Y H B h)(hx:H x=none)(hd:H dx=none)(ne:dx≠x)(m:Y.mg C=some (.ref Ca)):RH Y (upd (upd H dx (.own x)) x (.ins Ca dx [])) (B++[x]) (h++[.ins C []])/\Gr H B (upd (upd H dx (.own x)) x (.ins Ca dx [])) (B++[x]):=by
 have hx':upd H dx (.own x) x=none:=by rw [Zk (fun z=>ne z.symm)];exact hx
 exact ⟨(rh.lay0 hd).lay hx' ⟨Ca,dx,[],Zg,m,.nil⟩,(Gr.lay0 hd).trans (Gr.lay hx')⟩
end
theorem Zk5(hbase:attributeBase o name env (eval o env)=eval o env)
   (hform:methodCallForm (args.length+([]:List Keyword).length) (backTo pos (starEach args env)) (backToKw pos (keywordEach [] env))=true) (hline:(apos.endLine==pos.line)=true) :
   eval (.Call (.Attribute o name apos) args [] pos) env=(do
     let ov <- eval o env
     standAt apos.atName
     let (f,first) <- holding [ov] (getMethod ov name (do return (<- importBound o env).getD true))
     callWith pos f first (backTo pos (starEach args env)) (backToKw pos (keywordEach [] env))):=by
 have hpos:methodCallPos true o env apos pos=pure pos:=by unfold methodCallPos;simp [hline]
 rw [arm_eval_Call,hbase];unfold methodCall;simp only [hform,hpos];rfl
section
variable {T:Tb}{Γ:Gm}{X:Cx}{Y:Yx}{E:XK}{k:Nat}
theorem Zr0(G:Gd T Γ X Y E k)(hc:(Cs.all fun C=>decide (C∈Γ.kl.cs))=true)(hf:f∈Γ.kl.ats)(rh:RH Y H B h)(rd:RD Y H B d x)(ff:Fin Y (RD Y) H B (Zd6 Cs f d h) Q E) :
   ∃ a C dx fs v,x=.ref a/\H a=some (.ins C dx fs)/\Cls X.K C/\Zai X.K C f/\fs.lookup f=some v/\Q v H:=by
 unfold Zd6 at ff;split at ff
 . rename_i C fs e;obtain ⟨hC,ff⟩:=ff.iff;obtain ⟨i,a,Ca,dx,gs,rfl,rfl,q,hi,z,m,s⟩:=ZfG rh rd e;obtain ⟨w,e1,ff⟩:=ff.ofO;obtain ⟨v,l,rv⟩:=(s.look (f:=f)).1 w e1;rw [OC] at hc;obtain ⟨Ca',m',cl,na⟩:=G.cls C (of_decide_eq_true (hc C hC));rw [G.gk.mg,m'] at m;cases m;exact ⟨a,Ca,dx,gs,v,rfl,z,cl,na f hf,l,ff.ok rh rv⟩
 . exact ff.elim
theorem ZlU(G:Gd T Γ X Y E k)(hc:(Cs.all fun C=>decide (C∈Γ.kl.cs))=true)(hf:f∈Γ.kl.ats)(rh:RH Y H B h)(rd:RD Y H B d x)(re:RD Y H B e y)(ff:Fin Y (RD Y) H B (Zfs Cs f d e h) Q E) :
   ∃ a C dx fs,x=.ref a/\H a=some (.ins C dx fs)/\Cls X.K C/\Zai X.K C f/\fs.length<1000/\Q .non (upd H a (.ins C dx (Zbh f y fs))):=by
 unfold Zfs at ff;split at ff
 . rename_i i;split at ff
   . rename_i C fs hi;obtain ⟨⟨hC,hl⟩,ff⟩:=ff.iff;obtain ⟨i',a,Ca,dx,gs,e1,rfl,q,hi',z,m,s⟩:=ZfG rh rd (show ZL (.ref i) h=some (C,fs) by simp [ZL,hi]);cases e1;rw [OC] at hc;obtain ⟨Ca',m',cl,na⟩:=G.cls C (of_decide_eq_true (hc C hC));have m0:=m;rw [G.gk.mg,m'] at m;cases m;refine ⟨a,Ca,dx,gs,rfl,z,cl,na f hf,by rw [<- s.length];exact hl,ff.at (Gr.write (O1 q) (by rw [z];trivial)) (rh.write q ?_ (by rw [z];trivial)) .non⟩;exact ⟨Ca,dx,_,Zg,m0,(RKs.putAF re s).mono rh (Gr.write (O1 q) (by rw [z];trivial))⟩
   . exact ff.elim
 . exact ff.elim
theorem Ztd(G:Gd T Γ X Y E k)(h2:C∈Γ.kl.is)(h3:glb Γ C=true)(h4:chks Γ es ys=true)(ha:PA X ys (ZlX T Y E es)):PE X (.Call (.Name C p) ys [] pos) (ZO T Y E (.mk C es)):=by
 obtain ⟨a,f,fd,ps,m,M,F,B_⟩:=G.mks _ h2;obtain ⟨g1,g2⟩:=G.gl h3;have key:∀ (ds:List D) (h1:Hd) (xs:List V) (H1:Hp) (μ1:List Addr) (Q:VK),RH Y H1 μ1 h1->RDs Y H1 μ1 ds xs->Fin Y (RD Y) H1 μ1 (Zmx T.C C ds h1) Q E->∀ x dx,H1 x=none->H1 dx=none->dx≠x ->
     ZeN T Y (mnm C (O "__init__")) (.ref x::(xs++[])) (upd (upd H1 dx (.own x)) x (.ins a dx [])) (fun v H2=>v=.non/\Q (.ref x) H2) E:=by
   intro ds h1 xs H1 μ1 Q rh1 rds f1 x dx hx hd ne;obtain ⟨rh2,g2⟩:=ZoM (C:=C) (Ca:=a) rh1 hx hd ne (by rw [G.gk.mg];exact m);have px:(μ1++[x])[h1.length]? = some x:=by rw [rh1.len];simp
   refine ⟨.ref h1.length::ds,h1++[.ins C []],μ1++[x],rh2,.cons (.ref px) (by rw [List.append_nil];exact rds.mono rh1 g2),?_⟩;refine Fin.bind (Fin.mono g2 f1) fun d h3 v H3 μ3 _ g3 rh3 rd3 f3=>?_;cases d with
   | non=>cases rd3;exact ⟨rfl,f3.ok rh3 (.ref (g3.pre _ _ px))⟩
   | _=>exact f3.elim
 cases ys with
 | nil =>
   cases es with
   | nil =>
     exact (Zmm M F G.room1 g1 m B_ .nil G.pass g2).imp fun Z H Q s=>by
       cases s with
       | mk S h B rh rs f=>exact key [] h [] H B Q rh .nil f
   | cons e r=>exact ff h4
 | cons y ys=>exact (Zoh M F G.room1 g1 m B_ .nil G.pass ha g2 (ZcI X.env h4).1 ((ZcI X.env h4).2 _)).imp fun Z H Q s=>Sm.bind s fun S ds h1 xs H1 μ1 rh1 _ rds f1=>key ds h1 xs H1 μ1 Q rh1 rds f1
theorem Zre(G:Gd T Γ X Y E k)(h5:(C,n)∈Γ.kl.ms)(h3:ZaK xo=true)(h4:chks Γ es ys=true)(h6:ys.length<29)(h7:(ap.endLine==cp.line)=true)(ho:PE X xo (ZO T Y E o))(ha:PA X ys (ZlX T Y E es)) :
   PE X (.Call (.Attribute xo n ap) ys [] cp) (ZO T Y E (.mcl C n o es)):=by
 obtain ⟨a,f,fd,ps,mm,c,hm,F,B_⟩:=G.mts _ h5;have hform:methodCallForm (ys.length+([]:List Keyword).length) (backTo cp (starEach ys X.env)) (backToKw cp (keywordEach [] X.env))=true:=by
   unfold methodCallForm;rw [(Zdo Γ X.env es ys h4 _).2];have h30:decide (ys.length+([]:List Keyword).length+(if (backToKw cp (keywordEach [] X.env)).isEmpty then 0 else 1)<30)=true:=by
     rw [decide_eq_true_eq];show ys.length+0+0<30
     lia
   rw [h30];rfl
 have ht:=Zk5 (o:=xo) (name:=n) (apos:=ap) (pos:=cp) (args:=ys) (env:=X.env) (ZdK h3) hform h7;have key:∀ (d:D) (h1:Hd) (x:V) (H1:Hp) (μ1:List Addr) (S:Ev) (Z:L2.St) (Q:VK),RH Y H1 μ1 h1->RS Y H1 μ1 S Z->RD Y H1 μ1 d x->Fin Y (RD Y) H1 μ1 (match ZL d h1 with
       | some (C',fs)=>if C'=C/\fs.lookup n=none then (evs T es S h1).bind fun xs h2=>T.C (mnm C n) (d::xs) h2 else .bad
       | none=>.bad) Q E->∃ b dx fs,x=.ref b/\H1 b=some (.ins a dx fs)/\fs.lookup n=none/\ZlX T Y E es Z H1 fun vs H2=>ZeN T Y (mnm C n) (x::(vs++[])) H2 Q E:=by
   intro d h1 x H1 μ1 S Z Q rh1 rs1 rd f1;split at f1
   . rename_i C' fs e;obtain ⟨⟨e1,e2⟩,f1⟩:=f1.iff;subst e1;obtain ⟨i,b,Ca,dx,gs,rfl,rfl,q,hi,z,m',s⟩:=ZfG rh1 rd e;rw [G.gk.mg,mm] at m';cases m';refine ⟨b,dx,gs,rfl,z,(s.look (f:=n)).2 e2,S,h1,μ1,rh1,rs1,f1.bind fun ds h2 vs H2 μ2 _ g2 rh2 rds f2=>⟨_,h2,μ2,rh2,.cons (rd.mono rh1 g2) (by rw [List.append_nil];exact rds),f2⟩⟩
   . exact f1.elim
 cases ys with
 | nil =>
   cases es with
   | nil =>
     exact (Zml ho c hm F G.room B_ .nil G.pass ht).imp fun Z H Q s=>Sm.bind s fun S d h1 x H1 μ1 rh1 rs1 rd f1=>by
       obtain ⟨b,dx,fs,e1,e2,e3,s⟩:=key d h1 x H1 μ1 S Z Q rh1 rs1 rd f1;cases s with
       | mk ρ' h' μ' rh' rs' f'=>exact ⟨b,dx,fs,e1,e2,e3,f'.ok rh' .nil⟩
   | cons e r=>exact ff h4
 | cons y ys=>exact (Zog ho c hm F G.room B_ .nil G.pass ha (ZcI X.env h4).1 ((ZcI X.env h4).2 _) ht).imp fun Z H Q s=>Sm.bind s fun S d h1 x H1 μ1 rh1 rs1 rd f1=>key d h1 x H1 μ1 S Z Q rh1 rs1 rd f1
end
end IV
end
section
namespace IV
open PySem PySem.Spec PyProof.Rows L2
theorem ZjX{q:Prop}(X:Cx)(hx:ZsW scope x=true):Loc (relabel scope X.env) x/\(q\/(relabel scope X.env).names.lookup x=some .local):=by
 have:(relabel scope X.env).names.lookup x=some .local:=by rw [ZaI,of_decide_eq_true hx];rfl
 exact ⟨.inl this,.inr this⟩
theorem Zlu(e:ZhF (.ref i) h=some w):∃ xs,h[i]? = some (.lst xs)/\w=⟨[(i,xs)],xs⟩:=by
 unfold ZhF at e;simp only at e;split at e
 . cases e;exact ⟨_,by assumption,rfl⟩
 . cases e
theorem Zsj {X:Cx}{h1:Hd} (K:Y.K=X.K) (rh:RH Y H1 μ1 h1) (r:RD Y H1 μ1 d v) (il:ZdB d h1=true):tyV X.K "list" v H1:=by
 cases r with
 | ref q =>
   rename_i i a;have:∃ xs,h1[i]? = some (.lst xs):=by
     unfold ZdB at il;simp only at il;split at il
     . exact ⟨_,by assumption⟩
     . cases il
   obtain ⟨xs,hx⟩:=this;obtain ⟨vs,hl,_⟩:=rh.ob i _ a hx q;exact .inl ⟨rfl,vs,.of hl⟩
 | _=>cases il
theorem ZoJ(G:Gd T Γ X Y E k)(ho:PE X xo (ZO T Y E o))(h3:ZaK xo=true)(h4:chks Γ es ys=true)(h5:ys.length<29)(h6:(ap.endLine==cp.line)=true)(ha:PA X ys (ZlX T Y E es)) :
   PE X (.Call (.Attribute xo (ZmA m) ap) ys [] cp) (ZO T Y E (.meth m o es)):=by
 obtain ⟨sl,ty⟩:=Ztc m;cases ys with
 | nil =>
   cases es with
   | nil=>exact (Zq0 PySem.F.plainAttrs_list sl ty (Zj4 (Y:=Y) (E:=E) G.gk.K m) ho (ZdK h3) h6).imp fun Z H Q s=>Sm.bind s fun S d h1 x H1 μ1 rh1 rs1 rd f1=>⟨Zsj G.gk.K rh1 rd f1.iff.1,d,[],h1,μ1,rh1,rd,.nil,f1.iff.2⟩
   | cons e r=>exact ff h4
 | cons y ys =>
   refine (ZpR PySem.F.plainAttrs_list sl ty (Zj4 (Y:=Y) (E:=E) G.gk.K m) ho ha (ZdK h3) ?_ h6 (ZcI X.env h4).1 ((ZcI X.env h4).2 _)).imp fun Z H Q s=>Sm.bind s fun S d h1 x H1 μ1 rh1 rs1 rd f1=>⟨Zsj G.gk.K rh1 rd f1.iff.1,S,h1,μ1,rh1,rs1,f1.iff.2.bind fun ds h2 xs H2 μ2 _ g2 rh2 rds f2=>⟨d,ds,h2,μ2,rh2,rd.mono rh1 g2,rds,f2⟩⟩
   rw [(Zdo Γ X.env es (y::ys) h4 _).2];have h30:decide ((y::ys).length+([]:List Keyword).length+(if ([]:List Keyword).isEmpty then 0 else 1)<30)=true:=by
     rw [decide_eq_true_eq];exact Nat.lt_succ_of_lt h5
   rw [h30];rfl
theorem Zvl(hb:∀ d h',e=.ok d h'->∃ c,d=.bl c)(f:Fin Y eqR H B (e.bind fun x h1=>R.ofO (Zc6 GD x h1) h1) Q E):Fin Y (RD Y) H B e (fun v H'=>∃ c,v=.bl c/\Q c H') E :=
 f.bind fun d h1 x H1 μ1 er g rh1 rd f1=>by
   obtain ⟨c,rfl⟩:=hb d h1 er;cases rd;exact ⟨c,rfl,Fin.ok (show Fin Y eqR H1 μ1 (.ok c h1) Q E from f1) rh1 rfl⟩
theorem Zvm{f:D->D->Hd->R D}(hf:∀ x y h d h',f x y h=.ok d h'->∃ c,d=.bl c)(s:Sm Y E eqR (fun S h=>((ev T a S h).bind fun x h1=>(ev T b S h1).bind fun y h2=>f x y h2).bind fun x h1=>R.ofO (Zc6 T.GD x h1) h1) Z H Q) :
   ZO T Y E a Z H fun x H1=>ZO T Y E b Z H1 fun y H2=>rB Y E f x y H2 fun v H3=>∃ c,v=.bl c/\Q c H3:=by
 cases s with
 | mk S h B rh rs q =>
   refine ZlY ⟨S,h,B,rh,rs,Zvl (fun d h' er=>?_) q⟩;obtain ⟨_,_,_,er⟩:=R.bind_eq er;obtain ⟨_,_,_,er⟩:=R.bind_eq er;exact hf _ _ _ _ _ er
theorem Zpd(G:Gd T Γ X Y E k)(ha:PE X l (ZO T Y E a))(hb:PE X r (ZO T Y E b))(hm:ZaJ r=true):PT X (.Compare l [op] [r] pos) (ZiU T Y E (.ex (.cmp op a b))) :=
 (Zn3 (ZdZ (E:=E) G.room G.h60 G.gk op) ha hb (Zdx hm)).imp fun _ _ _ s=>Zvm (f:=opC T.GD op) (fun _ _ _ _ _=>Zmu) s
noncomputable def ZtQ(r:D)(k:Hd->R D)(h:Hd):R D:=match r with
 | .bl true=>k h
 | .bl false=>.ok (.bl false) h
 | _=>.bad
theorem ZrU{r:R α}:r.bind R.ok=r:=by cases r<;>rfl
theorem ZtN(s:Sm Y E rel (fun S h=>(ev T (.cmp2 o1 o2 a b c) S h).bind k) Z H Q)
   (hq:∀ d h1 v H1 μ1,RH Y H1 μ1 h1->RD Y H1 μ1 d v->(∃ c,d=.bl c)->Fin Y rel H1 μ1 (k d h1) Q E->Q' v H1) :
   ZO T Y E a Z H fun x H1=>ZO T Y E b Z H1 fun y H2=>rB Y E (opC T.GD o1) x y H2 fun v H3=>∃ q,v=.bl q/\if q=true then ZO T Y E c Z H3 fun z H4=>rB Y E (opC T.GD o2) y z H4 Q' else Q' (.bl false) H3:=by
 cases s with
 | mk S h B rh rs f =>
   have f:Fin Y rel H B ((ev T a S h).bind fun x h1=>(ev T b S h1).bind fun y h2=>(opC T.GD o1 x y h2).bind fun r h3=>(ZtQ r (fun h3=>(ev T c S h3).bind fun z h4=>opC T.GD o2 y z h4) h3).bind k) Q E:=by
     have q:=f;rw [show ev T (.cmp2 o1 o2 a b c) S h=(ev T a S h).bind fun x h1=>(ev T b S h1).bind fun y h2=>(opC T.GD o1 x y h2).bind fun r h3=>ZtQ r (fun h3=>(ev T c S h3).bind fun z h4=>opC T.GD o2 y z h4) h3 from rfl,R.bind_assoc] at q;simpa only [R.bind_assoc] using q
   refine ⟨S,h,B,rh,rs,f.bind fun d h1 x H1 μ1 _ g rh1 rd f1=>⟨S,h1,μ1,rh1,rs.mono rh g,f1.bind fun e h2 y H2 μ2 _ g2 rh2 re f2=>⟨d,e,h2,μ2,rh2,rd.mono rh1 g2,re,f2.bind fun r h3 z H3 μ3 _ g3 rh3 rz f3=>?_⟩⟩⟩;cases rz with
   | bl q =>
     refine ⟨q,rfl,?_⟩;cases q with
     | true =>
       refine Zh9 ⟨S,h3,μ3,rh3,((rs.mono rh g).mono rh1 g2).mono rh2 g3,?_⟩;have f3:Fin Y rel H3 μ3 (((ev T c S h3).bind fun z h4=>opC T.GD o2 e z h4).bind k) Q E:=f3;rw [R.bind_assoc] at f3;exact f3.bind fun d4 h4 w H4 μ4 _ g4 rh4 rw' f4=>⟨e,d4,h4,μ4,rh4,(re.mono rh2 g3).mono rh3 g4,rw',f4.bind fun d5 h5 w5 H5 μ5 er g5 rh5 rd5 f5=>hq d5 h5 w5 H5 μ5 rh5 rd5 (Zmu er) f5⟩
     | false=>exact Zia (hq (.bl false) h3 _ H3 μ3 rh3 (.bl _) ⟨_,rfl⟩ f3)
   | _=>exact f3.elim
theorem Znb(G:Gd T Γ X Y E k)(ha:PE X l (ZO T Y E a))(hb:PE X m (ZO T Y E b))(hc:PE X r (ZO T Y E c))(hm:ZaJ r=true):PT X (.Compare l [o1,o2] [m,r] pos) (ZiU T Y E (.ex (.cmp2 o1 o2 a b c))) :=
 (Zl9 (ZdZ (E:=E) G.room G.h60 G.gk o1) (ZdZ (E:=E) G.room G.h60 G.gk o2) ha hb hc (Zdx hm)).imp fun Z H Q s=>ZtN (Q':=fun v H'=>∃ c,v=.bl c/\Q c H') s fun d h1 v H1 μ1 rh1 rd ⟨q,e⟩ f1=>by
   subst e;cases rd;exact ⟨q,rfl,Fin.ok (show Fin Y eqR H1 μ1 (.ok q h1) Q E from f1) rh1 rfl⟩
theorem ZkT(G:Gd T Γ X Y E k)(he:PE X x (ZO T Y E e))(h1:Zi0 x=true):PT X x (ZiU T Y E (.ex e)) :=
 (Zl8 he ((kdE x).tr h1 _)).imp fun Z H Q s=>Sm.bind s fun S d h1 x H1 μ1 rh1 rs1 rd f1=>by
   obtain ⟨b,eb,f1⟩:=f1.ofO;exact ⟨b,ZnE G.gk.K rh1 rd eb,f1.ok rh1 rfl⟩
noncomputable def ZjC(T:Tb)(Y:Yx)(E:XK):Exs->List (TE×TE)
 | .nil=>[]
 | .cons k r=>match r with
   | .nil=>[]
   | .cons v r'=>(ZO T Y E k,ZO T Y E v)::ZjC T Y E r'
section
variable {Y:Yx}{H:Hp}{B:List Addr}{h:Hd}{Dd:Addr}{ys zs:List (Key×V)}
theorem ZkI{K:PySem.W.Frag}(hD:H Dd=some (.dK ys))(t:SqT K H a vs):SqT K (upd H Dd (.dK zs)) a vs:=by
 rcases t with t|t
 . rcases t with t|⟨o,t⟩
   . exact .inl (.inl (by rw [Zk (fun z=>by rw [z,hD] at t;cases t)];exact t))
   . exact .inl (.inr ⟨o,by rw [Zk (fun z=>by rw [z,hD] at t;cases t)];exact t⟩)
 . exact .inr t
theorem Zli{K:PySem.W.Frag}(hD:H Dd=some (.dK ys))(t:FzL K H a vs):FzL K (upd H Dd (.dK zs)) a vs:=by
 rcases t with ⟨o,t⟩|t
 . exact .inl ⟨o,by rw [Zk (fun z=>by rw [z,hD] at t;cases t)];exact t⟩
 . exact .inr t
theorem Tr.swapD(hD:H Dd=some (.dK ys)):Tr Y H B (upd H Dd (.dK zs)) B:=⟨ZkI hD,Zli hD,id⟩
end
inductive RPs(Y:Yx)(H:Hp)(B:List Addr):List D->List (V×V)->Prop
 | nil:RPs Y H B [] []
 | cons {k v:D}{r:List D}{x y:V}{ps:List (V×V)}:RD Y H B k x->RD Y H B v y->RPs Y H B r ps->RPs Y H B (k::v::r) ((x,y)::ps)
theorem RPs.pairs:∀ {ds:List D}{ps:List (V×V)}{kvs:List (Key×D)},RPs Y H B ds ps->Zc7 ds=some kvs->∃ kvs':List (Key×V),ps=kvs'.map (fun kv=>(kV kv.1,kv.2))/\RKs Y H B kvs kvs'
 | _,_,_,.nil,e=>by cases e;exact ⟨[],rfl,.nil⟩
 | _,_,_,.cons a b s,e=>by
   rw [Zc7] at e;split at e
   . rename_i k r e1 e2;cases e;obtain ⟨kvs',rfl,rk⟩:=s.pairs e2;have:=Zcj a e1;subst this;exact ⟨(k,_)::kvs',rfl,.cons b rk⟩
   . cases e
theorem RPs.keysOk:∀ {ds:List D}{ps:List (V×V)}{kvs:List (Key×D)},RPs Y H B ds ps->Zc7 ds=some kvs->ZbF kvs
 | _,_,_,.nil,e=>by cases e;intro p hp;cases hp
 | _,_,_,.cons a b s,e=>by
   rw [Zc7] at e;split at e
   . rename_i k r e1 e2;cases e;intro p hp x z;rcases O2.mp hp with rfl|hp
     . exact ZmH a e1 x z
     . exact s.keysOk e2 p hp x z
   . cases e
theorem ZdA:∀ {more kvs:List (Key×D)},ZbF more->ZbF kvs->ZbF (Zd1 kvs more)
 | [],kvs,_,h=>h
 | (k,d)::r,kvs,hm,h=>ZdA (more:=r) (kvs:=putD kvs k d) (fun p hp=>hm p (Oh _ hp)) (ZfC h (fun x e=>hm (k,d) Oi x e))
theorem RKs.merge:∀ {more:List (Key×D)}{more':List (Key×V)}{kvs:List (Key×D)}{kvs':List (Key×V)},RKs Y H B more more'->RKs Y H B kvs kvs'->RKs Y H B (Zd1 kvs more) (Zd0 kvs' more')
 | _,_,_,_,.nil,s=>s
 | _,_,_,_,.cons (k:=k) a r,s=>by
   have z:=RKs.merge r (s.put k a);exact z
theorem Zmq:∀ (n:Nat) (ps:Exs) {K:List D->Hd->R D}{H:Hp}{B:List Addr}{h:Hd}{Q1:List (V×V)->Hp->Prop}{Γ:Gm}{ks:List (Option Expr)}{vs:List Expr},ks.length<=n->chkp Γ ps ks vs=true ->
   Gr H0 μ0 H B->RH Y H B h->RS Y H B S Z->Fin Y (RD Y) H0 μ0 ((evs T ps S h).bind K) Q E ->
   (∀ ds h1 qs H1 μ1,Gr H B H1 μ1->RH Y H1 μ1 h1->RPs Y H1 μ1 ds qs->Fin Y (RD Y) H0 μ0 (K ds h1) Q E->Q1 qs H1)->Zg0 (ZjC T Y E ps) Z H Q1:=by
 intro n;induction n with
 | zero =>
   intro ps K H B h Q1 Γ ks vs hl hc g0 rh rs f hq;cases ps with
   | nil=>exact hq [] h [] H B Gr.refl rh .nil f
   | cons k r =>
     cases r with
     | nil=>unfold chkp at hc;cases hc
     | cons v r' =>
       unfold chkp at hc;simp only at hc;split at hc
       . simp at hl
       . cases hc
 | succ n ih =>
   intro ps K H B h Q1 Γ ks vs hl hc g0 rh rs f hq;cases ps with
   | nil=>exact hq [] h [] H B Gr.refl rh .nil f
   | cons k r =>
     cases r with
     | nil=>unfold chkp at hc;cases hc
     | cons v r' =>
       unfold chkp at hc;simp only at hc;split at hc
       . rw [Oa] at hc;have f1:Fin Y (RD Y) H0 μ0 ((ev T k S h).bind fun x h1=>(ev T v S h1).bind fun y h2=>(evs T r' S h2).bind fun xs h3=>K (x::y::xs) h3) Q E:=by
           have e:(evs T (.cons k (.cons v r')) S h).bind K=(ev T k S h).bind fun x h1=>(ev T v S h1).bind fun y h2=>(evs T r' S h2).bind fun xs h3=>K (x::y::xs) h3:=by
             show ((ev T k S h).bind fun x h1=>((ev T v S h1).bind fun y h2=>(evs T r' S h2).bind fun xs h3=>R.ok (y::xs) h3).bind fun xs h2=>R.ok (x::xs) h2).bind K=_;simp only [R.bind_assoc,R.bind_ok]
           rw [<- e];exact f
         refine ⟨S,h,B,rh,rs,Fin.bindB g0 f1 fun d h1 x H1 μ1 _ g1 rh1 rd f2=>?_⟩;refine ⟨S,h1,μ1,rh1,rs.mono rh g1,Fin.bindB (g0.trans g1) f2 fun e h2 y H2 μ2 _ g2 rh2 re f3=>?_⟩;refine ih r' (by simpa using hl) (bR hc.2) ((g0.trans g1).trans g2) rh2 ((rs.mono rh g1).mono rh1 g2) f3 fun ds h3 qs H3 μ3 g3 rh3 rp f4=>?_;exact hq (d::e::ds) h3 ((x,y)::qs) H3 μ3 ((g1.trans g2).trans g3) rh3 (.cons ((rd.mono rh1 g2).mono rh2 g3) (re.mono rh2 g3) rp) f4
       . cases hc
theorem Zo9(ps:Exs)(G:Gd T Γ X Y E k)(h15:ks.length<=15)(hc:chkp Γ ps ks vs=true)(hp:PPs X pos ks vs (ZjC T Y E ps))(hall:ks.all (·.isSome)=true)(hl:ks.length=vs.length):PE X (.Dict ks vs pos) (ZO T Y E (.dictl ps)):=by
 by_cases h0:ks=[]
 . subst h0;cases vs with
   | cons a b=>cases hl
   | nil =>
     cases ps with
     | cons k r =>
       cases r with
       | nil=>unfold chkp at hc;cases hc
       | cons v r'=>unfold chkp at hc;cases hc
     | nil =>
       refine Zmo.imp fun Z H Q ⟨S,h,B,rh,rs,f⟩ p hp=>?_;have f:Fin Y (RD Y) H B (Za3 (.dic []) h) Q E:=f;exact f.new rh hp ⟨[],Zg,.nil⟩ (fun p hp=>by cases hp)
 . refine (Zoj hp hall hl h0 h15).imp fun Z H Q ⟨S,h,B,rh,rs,f⟩ p hp=>?_;have np:=rh.fr hp;refine Zmq ks.length ps (Oq _) hc (Gr.lay0 hp) (rh.lay0 hp) (rs.mono rh (Gr.lay0 hp)) f fun ds h1 qs H1 μ1 g1 rh1 rp f1=>?_;obtain ⟨hl1,nD⟩:=g1.out (Zg (H:=H)) np;have g01:Gr H B H1 μ1:=(Gr.lay0 hp).trans g1;split at f1
   . rename_i kvs ek;obtain ⟨hz,f1⟩:=f1.iff;obtain ⟨kvs',rfl,rk⟩:=rp.pairs ek;refine ⟨hl1,kvs',rfl,by rw [<- rk.length];exact hz,?_⟩;have f2:Fin Y (RD Y) H B (.ok (.ref h1.length) (h1++[.dic (Zd1 [] kvs)])) Q E:=f1;exact f2.at ((g01.put hp).add hp) ((rh1.tr (.swapD hl1) fun _ ha=>Zk fun z=>nD (z ▸ ha)).add nD ⟨_,Zg,((rk.merge .nil).tr (.swapD hl1)).tr .more⟩ (show ZbF (Zd1 [] kvs) from ZdA (rp.keysOk ek) (fun p hp=>by cases hp))) (.ref (by rw [rh1.len];simp))
   . exact f1.elim
mutual
theorem Zf(e:Ex){Γ:Gm}{X:Cx}{E:XK}{k:Nat}{x:Expr}(G:Gd T Γ X Y E k)(h:chk Γ e x=true):PE X x (ZO T Y E e):=match e,h with
 | .var i,h=>Zta h fun x q h=>(ZqR (by rw [G.N];exact of_decide_eq_true (bL h)) (G.vis _ (bL (bR h))) (by simpa using bL (bR (bR h))) (by simpa using bR (bR (bR h)))).imp fun Z H Q s=>by
   cases s with
   | mk S h B rh rs f =>
     obtain ⟨d,e,f⟩:=Fin.ofO (show Fin Y (RD Y) H B (R.ofO (S[i]?).join h) Q E from f);obtain ⟨v,e1,rd⟩:=rs.var e;exact ⟨v,e1,f.ok rh rd⟩
 | .cst d,h=>Zm9 G h
 | .glo y,h=>Zqd h fun q h pins s Z H Q I sm=>by
   cases sm with
   | mk S h' B rh rs f =>
     obtain ⟨d,e,f⟩:=Fin.ofO (show Fin Y (RD Y) H B (R.ofO (T.G y) h') Q E from f);obtain ⟨v,u,hm,rv,rd⟩:=G.gk.g y d e;exact Zoi (G.gl h).1 hm rv (G.gl h).2 pins s Z H Q I (f.ok rh (rd H B))
 | .bin op a b,h=>ZtV h fun l r q h=>(ZsT (Zq9 G.gk.K op) (Zf a G (bL h)) (Zf b G (bR h))).imp fun _ _ _ s=>ZlY s
 | .cmp op a b,h=>Znh h fun l r q h=>(ZjV (ZdZ G.room G.h60 G.gk op) (Zf a G (bL h)) (Zf b G (bL (bR h))) (Zdx (bR (bR h)))).imp fun _ _ _ s=>ZlY s
 | .cmp2 o1 o2 a b c,h=>Zp7 h fun l m r q h=>(Zmp (ZdZ (E:=E) G.room G.h60 G.gk o1) (ZdZ (E:=E) G.room G.h60 G.gk o2) (Zf a G (bL h)) (Zf b G (bL (bR h))) (Zf c G (bL (bR (bR h)))) (Zdx (bR (bR (bR h))))).imp fun Z H Q s =>
   ZtN (k:=R.ok) (rel:=RD Y) (Q:=Q) (by simp only [ZrU];exact s) fun d h1 v H1 μ1 rh1 rd _ f1=>f1.ok rh1 rd
 | .neg a,h=>Zqm h fun x q h=>(ZsR Zql (Zf a G h)).imp fun Z H Q s=>Sm.bind s fun S d h1 x H1 μ1 rh1 rs1 rd f1=>by
   cases rd with
   | int i=>exact ⟨i,rfl,Fin.ok f1 rh1 (.int _)⟩
   | _=>exact f1.elim
 | .nt a,h=>Zqm h fun x q h=>(ZqU (Zf a G h)).imp fun Z H Q s=>Sm.bind s fun S d h1 x H1 μ1 rh1 rs1 rd f1=>by
   cases rd with
   | bl i=>exact ⟨i,rfl,Fin.ok f1 rh1 (.bl _)⟩
   | _=>exact f1.elim
 | .ands es,h=>ZoE h fun xs q h=>and_ok es G h
 | .ors es,h=>ZoE h fun xs q h=>or_ok es G h
 | .ite c a b,h=>ZuX h fun t x y q h=>(Zmn (tst_ok c G (bL h)) (Zf a G (bL (bR h))) (Zf b G (bR (bR h)))).imp fun Z H Q s=>Sm.bind s fun S d h1 v H1 μ1 rh1 rs1 rd f1=>by
   cases rd;cases d with
   | true=>exact Zh9 ⟨S,h1,μ1,rh1,rs1,f1⟩
   | false=>exact Zia ⟨S,h1,μ1,rh1,rs1,f1⟩
 | .tupl es,h=>ZhJ h fun xs j q h=>(ZqS (evs_ok es G h)).imp fun Z H Q s=>Sm.bind s fun S d h1 x H1 μ1 rh1 rs1 rd f1=>⟨by rw [<- rd.length];exact f1.iff.1,fun p hp=>f1.iff.2.tup rh1 hp rd⟩
 | .lstl es,h=>Zth h fun xs q h=>(ZqW (evs_ok es G h)).imp fun Z H Q s=>Sm.bind s fun S d h1 x H1 μ1 rh1 rs1 rd f1=>⟨by rw [<- rd.length];exact f1.iff.1,fun p hp=>f1.iff.2.new rh1 hp ⟨_,Zg,rd.mono rh1 (Gr.lay hp)⟩⟩
 | .ix a i,h=>Zqx h fun x y q h=>(ZsU (Zov G.gk) (Zf a G (bL h)) (Zf i G (bL (bR h))) (ZlR (bR (bR h)))).imp fun _ _ _ s=>ZlY s
 | .sl a lo hi,h=>ZsA h fun x l u q r h=>(Zmj (Zot (E:=E) G.gk.K) (Zf a G (bL h)) (evo_ok lo G (bL (bR h))) (evo_ok hi G (bR (bR h)))).imp fun Z H Q s=>Sm.bind s fun S d h1 x H1 μ1 rh1 rs1 rd f1 =>
   ⟨S,h1,μ1,rh1,rs1,Fin.bind f1 fun l h2 l' H2 μ2 _ g2 rh2 rl f2=>⟨S,h2,μ2,rh2,rs1.mono rh1 g2,Fin.bind f2 fun u h3 u' H3 μ3 _ g3 rh3 ru f3=>by
     cases rl;cases ru;exact ⟨d,h3,μ3,rh3,(rd.mono rh1 g2).mono rh2 g3,f3⟩⟩⟩
 | .blt f es,h=>ZfU h fun p ys q h=>Zp5 (bL (bR h)) (bR (bR h)) fun y r hs=>(ZrT G f (bL (bL h)) (G.gl (bR (bL h))).1 (evs_ok es G hs) (ZcI X.env hs).1 ((ZcI X.env hs).2 _)).imp fun Z H Q s=>Sm.bind s fun S d h1 x H1 μ1 rh1 rs1 rd f1=>⟨d,h1,μ1,rh1,rd,f1⟩
 | .call f es,h=>ZfU h fun p ys q h=>Zp5 (bL (bR (bR h))) (bR (bR (bR h))) fun y r hs=>by
   obtain ⟨ps,hd⟩:=G.defs _ (of_decide_eq_true (bL h));exact (ZqZ hd G.room (G.gl (bL (bR h))).1 G.pass (evs_ok es G hs) (G.gl (bL (bR h))).2 (ZcI X.env hs).1 ((ZcI X.env hs).2 _)).imp fun Z H Q s=>Sm.bind s fun S d h1 x H1 μ1 rh1 rs1 rd f1=>⟨d,h1,μ1,rh1,rd,f1⟩
 | .meth m o es,h=>Zne h fun xo ap ys cp h=>ZoJ G (Zf o G (bL h)) (bL (bR h)) (bL (bR (bR h))) (of_decide_eq_true (bL (bR (bR (bR h))))) (bR (bR (bR (bR h)))) (evs_ok es G (bL (bR (bR h))))
 | .comp NC js it g c e,h=>ZpS h fun elt tg iter ifs scope q h=>by
   have S_:=Zik (bL (bR h));rw [<- G.N,<- G.sc (bL h)] at S_;have h:=bR (bR h);have Gc:=fun C s3 H3 fp=>G.comp NC scope C s3 H3 fp S_.nd;refine (Zok (g:=tgR X.K g) (tc:=Sm Y E0 eqR (tsto T c)) (te:=ZO T Y E0 e) S_ rfl G.calm (evi_ok it G (bL h)) (fun C s3 H3 fp=>⟨ZjT rfl S_.nd rfl (fun x hx=>ZjX (scope:=scope) X hx) (bL (bR (bR h))),ifs_ok c (Gc C s3 H3 fp) (bL (bR (bR (bR (bR h))))),Zf e (Gc C s3 H3 fp) (bR (bR (bR (bR (bR h)))))⟩) (Zsp X.K g) (fun j hj=>of_decide_eq_true (OC.mp (bL (bR (bR (bR h)))) j (List.mem_range.mpr hj))) (ZiS X.env (bL (bR h)))).imp
     fun Z H Q s=>Sm.bind s fun S w h1 J H1 μ1 rh1 rs1 wj f1 D hD=>Zko G.gk.K (fun _ _ _ z=>z) rh1 rs1 wj f1 hD
 | .sorts e,h=>ff h
 | .trev e,h=>ff h
 | .lrv e,h=>ff h
 | .tix o e,h=>ff h
 | .lix o e,h=>ff h
 | .tmt m o e,h=>Zne h fun xo ap ys cp h=>ZcE h fun y h=>by
   have st:=bL (bR (bR (bR h)));have sl:Slot "str" (ZpG m) (tid m)/\typeOf (.builtin (tid m))=pure (.type "method_descriptor"):=by cases m;exact ⟨PySem.F.slot_str_split,PySem.F.type_str_split⟩;exact ⟨PySem.F.slot_str_join,PySem.F.type_str_join⟩
   refine (ZpR PySem.F.plainAttrs_str sl.1 sl.2 (Zqn (Y:=Y) (E:=E) G.gk.K m) (Zf o G (bL h)) (Zbx (Zf e G (bL (bR (bR h)))) ZdY (Zq X.env st)) (ZdK (bL (bR h))) ?_ (bR (bR (bR (bR h)))) (Zq X.env st)).imp fun Z H Q s=>Sm.bind s fun S d h1 x H1 μ1 rh1 rs1 rd f1=>?_
   . rw [Zq X.env st];rfl
   . obtain ⟨il,f1⟩:=f1.iff;refine ⟨(by cases rd<;>first|trivial|cases il),S,h1,μ1,rh1,rs1,f1.bind fun y h2 v H2 μ2 _ g2 rh2 ry f2=>⟨d,y,h2,μ2,rh2,rd.mono rh1 g2,.cons ry .nil,f2⟩⟩
 | .sin a b,h=>Znh h fun l r q h=>(ZjV Zms (Zf a G (bL h)) (Zf b G (bL (bR h))) (Zdx (bR (bR h)))).imp fun _ _ _ s=>ZlY s
 | .dne a b,h=>ff h
 | .lin a b,h=>ff h
 | .rpn a b,h=>ff h
 | .any,h=>fun pins s Z H Q I sm=>by
   cases sm with
   | mk S h B rh rs f=>exact f.elim
 | .att Cs o f,h=>Zpz h fun x q h=>(ZqY (Zf o G (bL h)) (ZdK (bL (bR h)))).imp fun Z H Q s=>Sm.bind s fun S d h1 x H1 μ1 rh1 rs1 rd f1=>Zr0 G (bL (bR (bR h))) (of_decide_eq_true (bR (bR (bR h)))) rh1 rd f1
 | .mk C es,h=>ZfU h fun p ys q h=>Ztd G (of_decide_eq_true (bL h)) (bL (bR h)) (bR (bR h)) (evs_ok es G (bR (bR h)))
 | .mcl C m o es,h=>Zne h fun xo ap ys cp h=>Zre G (of_decide_eq_true (bL (bR (bR (bR h))))) (bL (bR h)) (bL (bR (bR h))) (of_decide_eq_true (bL (bR (bR (bR (bR h)))))) (bR (bR (bR (bR (bR h))))) (Zf o G (bL h)) (evs_ok es G (bL (bR (bR h))))
 | .maxd a d,h=>ff h
 | .dictl ps,h=>Zva h fun ks vs q h=>Zo9 ps G (of_decide_eq_true (bL h)) (bR h) (pairs_ok ps G (bR h)).1 (pairs_ok (pos:=q) ps G (bR h)).2.1 (pairs_ok (pos:=q) ps G (bR h)).2.2
theorem evs_ok(e:Exs){Γ:Gm}{X:Cx}{E:XK}{k:Nat}{x:List Expr}(G:Gd T Γ X Y E k)(h:chks Γ e x=true):PA X x (ZlX T Y E e):=match e,x,h with
 | .nil,[],h=>ZdY.imp fun Z H Q s=>by
   cases s with
   | mk S h B rh rs f=>exact Fin.ok (show Fin Y (RDs Y) H B (.ok [] h) Q E from f) rh .nil
 | .nil,_::_,h=>ff h
 | .cons e r,[],h=>ff h
 | .cons e r,y::ys,h=>(Zbx (Zf e G (bL h)) (evs_ok r G (bR (bR h))) (Zq X.env (bL (bR h)))).imp fun Z H Q s=>Sm.bind s fun S d h1 x H1 μ1 rh1 rs1 rd f1 =>
   ⟨S,h1,μ1,rh1,rs1,f1.bind fun ds h2 xs H2 μ2 _ g2 rh2 rds f2=>f2.ok rh2 (.cons (rd.mono rh1 g2) rds)⟩
theorem and_ok(e:Exs){Γ:Gm}{X:Cx}{E:XK}{k:Nat}{x:List Expr}{pos:Pos}(G:Gd T Γ X Y E k)(h:chks Γ e x=true):PE X (.BoolOp .And x pos) (ZO T Y E (.ands e)):=match e,x,h with
 | .nil,x,h=>fun pins s Z H Q I sm=>by
   cases sm with
   | mk S h B rh rs f=>exact f.elim
 | .cons e r,[],h=>ff h
 | .cons e .nil,[y],h=>(Zmk (Zf e G (bL h))).imp fun Z H Q q=>q
 | .cons e .nil,y::z::zs,h=>ff (bR (bR h))
 | .cons e (.cons e' r'),[y],h=>ff (bR (bR h))
 | .cons e (.cons e' r'),y::z::zs,h=>(Zq1 (Zf e G (bL h)) (and_ok (.cons e' r') G (bR (bR h)))).imp fun Z H Q s=>Sm.bind s fun S d h1 x H1 μ1 rh1 rs1 rd f1=>by
   cases rd with
   | bl c =>
     refine ⟨c,rfl,?_⟩;cases c with
     | true=>exact Zh9 ⟨S,h1,μ1,rh1,rs1,f1⟩
     | false=>exact Zia (Fin.ok f1 rh1 (.bl _))
   | _=>exact f1.elim
theorem or_ok(e:Exs){Γ:Gm}{X:Cx}{E:XK}{k:Nat}{x:List Expr}{pos:Pos}(G:Gd T Γ X Y E k)(h:chks Γ e x=true):PE X (.BoolOp .Or x pos) (ZO T Y E (.ors e)):=match e,x,h with
 | .nil,x,h=>fun pins s Z H Q I sm=>by
   cases sm with
   | mk S h B rh rs f=>exact f.elim
 | .cons e r,[],h=>ff h
 | .cons e .nil,[y],h=>(Zmk (Zf e G (bL h))).imp fun Z H Q q=>q
 | .cons e .nil,y::z::zs,h=>ff (bR (bR h))
 | .cons e (.cons e' r'),[y],h=>ff (bR (bR h))
 | .cons e (.cons e' r'),y::z::zs,h=>(ZsS (Zf e G (bL h)) (or_ok (.cons e' r') G (bR (bR h)))).imp fun Z H Q s=>Sm.bind s fun S d h1 x H1 μ1 rh1 rs1 rd f1=>by
   cases rd with
   | bl c =>
     refine ⟨c,rfl,?_⟩;cases c with
     | true=>exact Zh9 (Fin.ok f1 rh1 (.bl _))
     | false=>exact Zia ⟨S,h1,μ1,rh1,rs1,f1⟩
   | _=>exact f1.elim
theorem evo_ok(e:Option Ex){Γ:Gm}{X:Cx}{E:XK}{k:Nat}{x:Option Expr}(G:Gd T Γ X Y E k)(h:chko Γ e x=true):PO X x (Zuw T Y E e):=match e,x,h with
 | none,none,h=>Zn9.imp fun Z H Q s=>by
   cases s with
   | mk S h B rh rs f=>exact Fin.ok (show Fin Y _ H B (.ok none h) Q E from f) rh rfl
 | none,some _,h=>ff h
 | some e,none,h=>ff h
 | some e,some a,h=>(Zn8 (Zf e G h)).imp fun Z H Q s=>Sm.bind s fun S d h1 x H1 μ1 rh1 rs1 rd f1=>by
   cases rd with
   | int i=>exact ⟨i,rfl,Fin.ok f1 rh1 rfl⟩
   | _=>exact f1.elim
theorem tst_ok(e:Tx){Γ:Gm}{X:Cx}{E:XK}{k:Nat}{x:Expr}(G:Gd T Γ X Y E k)(h:chkt Γ e x=true):PT X x (ZiU T Y E e):=match e,h with
 | .ex e,h=>bO h (fun h=>ZkT G (Zf e G (bR h)) (bL h)) fun h=>by
   cases e with
   | cmp op a b=>exact Znh h fun l r q h=>Zpd G (Zf a G (bL h)) (Zf b G (bL (bR h))) (bR (bR h))
   | cmp2 o1 o2 a b c=>exact Zp7 h fun l m r q h=>Znb G (Zf a G (bL h)) (Zf b G (bL (bR h))) (Zf c G (bL (bR (bR h)))) (bR (bR (bR h)))
   | _=>exact ff h
 | .ands ts,h=>ZoE h fun xs q h=>(tand_ok ts G h).pt
 | .ors ts,h=>ZoE h fun xs q h=>(tor_ok ts G h).pt
 | .nt t,h=>Zqm h fun y q h=>(ZqI (tst_ok t G h)).imp fun Z H Q s=>Sm.bind s fun S d h1 x H1 μ1 rh1 rs1 rd f1=>by
   cases rd;exact Fin.ok f1 rh1 rfl
theorem tand_ok(e:Txs){Γ:Gm}{X:Cx}{E:XK}{k:Nat}{x:List Expr}{pos:Pos}(G:Gd T Γ X Y E k)(h:chkts Γ e x=true):PW X (.BoolOp .And x pos) (ZiU T Y E (.ands e)):=match e,x,h with
 | .one t,x,h=>ZcE h fun y h=>(Zn1 (tst_ok t G h)).imp fun Z H Q q=>q
 | .cons t ts,[],h=>ff h
 | .cons t ts,[_],h=>ff (bL (bR h))
 | .cons t ts,x::y::r,h=>(ZqG (tst_ok t G (bL h)) (tand_ok ts G (bR (bR h)))).imp fun Z H Q s=>Sm.bind s fun S d h1 x H1 μ1 rh1 rs1 rd f1=>by
   cases rd;cases d with
   | true=>exact Zh9 ⟨S,h1,μ1,rh1,rs1,f1⟩
   | false=>exact Zia (Fin.ok f1 rh1 rfl)
theorem tor_ok(e:Txs){Γ:Gm}{X:Cx}{E:XK}{k:Nat}{x:List Expr}{pos:Pos}(G:Gd T Γ X Y E k)(h:chkts Γ e x=true):PW X (.BoolOp .Or x pos) (ZiU T Y E (.ors e)):=match e,x,h with
 | .one t,x,h=>ZcE h fun y h=>(ZqF (tst_ok t G h)).imp fun Z H Q q=>q
 | .cons t ts,[],h=>ff h
 | .cons t ts,[_],h=>ff (bL (bR h))
 | .cons t ts,x::y::r,h=>(ZsM (tst_ok t G (bL h)) (tor_ok ts G (bR (bR h)))).imp fun Z H Q s=>Sm.bind s fun S d h1 x H1 μ1 rh1 rs1 rd f1=>by
   cases rd;cases d with
   | true=>exact Zh9 (Fin.ok f1 rh1 rfl)
   | false=>exact Zia ⟨S,h1,μ1,rh1,rs1,f1⟩
theorem ifs_ok(c:Option Tx){Γ:Gm}{X:Cx}{E:XK}{k:Nat}{x:List Expr}(G:Gd T Γ X Y E k)(h:chkf Γ c x=true):PIf X x (Sm Y E eqR (tsto T c)):=match c,x,h with
 | none,[],h=>fun pins s Z H Q I sm=>by
   cases sm with
   | mk S h B rh rs f=>exact Zod pins s Z H Q I (Fin.ok (show Fin Y eqR H B (.ok true h) Q E from f) rh rfl)
 | none,_::_,h=>ff h
 | some t,x,h=>ZcE h fun y h=>Zoc (tst_ok t G h)
theorem evi_ok(e:Ix){Γ:Gm}{X:Cx}{E:XK}{k:Nat}{x tg:Expr}(G:Gd T Γ X Y E k)(h:chki Γ e tg x=true):PI X tg x (Zux T Y E e):=match e,h with
 | .pl e,h=>(ZqP (Zf e G h)).imp fun Z H Q s=>Sm.bind s fun S d h1 x H1 μ1 rh1 rs1 rd f1=>by
   obtain ⟨w,ew,f1⟩:=f1.ofO;exact ZnA G.gk.K rh1 rd ew fun J wj=>f1.ok rh1 wj
 | .tw e,h=>(ZqO (Zf e G h)).imp fun Z H Q s=>Sm.bind s fun S d h1 x H1 μ1 rh1 rs1 rd f1=>by
   cases rd with
   | str y ok=>exact ⟨y,rfl,Fin.ok f1 rh1 (Zqg ok)⟩
   | _=>exact f1.elim
 | .rng e,h=>ZfU h fun p ys q h=>ZcE h fun y h=>(ZkU (G.gl (bL h)).1 (G.blt _ (by decide)) (Zbx (Zf e G (bL (bR h))) ZdY (Zq X.env (bR (bR h)))) (Zq X.env (bR (bR h)))).imp fun Z H Q s=>Sm.bind s fun S d h1 x H1 μ1 rh1 rs1 rd f1=>by
   cases rd with
   | int j =>
     obtain ⟨hz,f1⟩:=Fin.iff (show Fin Y (WJ Y) H1 μ1 (if Zaj j=true then .ok ⟨[],ZJ 0 j.toNat⟩ h1 else .bad) Q E from f1);exact ⟨j,rfl,of_decide_eq_true (bL hz),of_decide_eq_true (bR hz),f1.ok rh1 Zqh⟩
   | _=>exact f1.elim
 | .rng2 a b,h=>ff h
 | .enu e,h=>ZfU h fun p ys q h=>ZcE h fun y h=>ZmK (bR (bR (bR h))) fun ts j r=>(Zof (G.gl (bL h)).1 (G.blt _ (by decide)) (Zbx (Zf e G (bL (bR h))) ZdY (Zq X.env (bL (bR (bR h))))) (Zq X.env (bL (bR (bR h))))).imp fun Z H Q s=>Sm.bind s fun S d h1 x H1 μ1 rh1 rs1 rd f1=>by
   obtain ⟨w,ew,f1⟩:=f1.ofO;obtain ⟨w0,ew0,rfl⟩:=Oo.mp ew;cases d with
   | ro xs =>
     cases ew0;cases rd with
     | ro t s=>exact ⟨_,rfl,⟨_,G.gk.K ▸ t.sq⟩,f1.ok rh1 (Zjx (ZpF G.gk.K rh1 t s) fun H2 μ2 h2 g2 rh2 st=>⟨_,G.gk.K ▸ (g2.rdF rh1 t).sq,s.mono rh1 g2⟩)⟩
   | ref i =>
     obtain ⟨xs,hi,rfl⟩:=Zlu ew0;obtain ⟨a,vs,rfl,hm,hl,s⟩:=rd.lst rh1 hi;refine ⟨a,rfl,⟨vs,.of hl⟩,f1.ok rh1 (Zjx (Zlv hm) fun H2 μ2 h2 g2 rh2 st=>?_)⟩;obtain ⟨vs2,hl2,s2⟩:=rh2.ob i _ a (Zfp st) (g2.pre i a hm);exact ⟨vs2,.of hl2,s2⟩
   | _=>cases ew0
 | .rev e,h=>ZfU h fun p ys q h=>ZcE h fun y h=>(Zoe (G.gl (bL h)).1 (G.blt _ (by decide)) (Zbx (Zf e G (bL (bR h))) ZdY (Zq X.env (bR (bR h)))) (Zq X.env (bR (bR h)))).imp fun Z H Q s=>Sm.bind s fun S d h1 x H1 μ1 rh1 rs1 rd f1=>by
   obtain ⟨w,ew,f1⟩:=f1.ofO;obtain ⟨w0,ew0,rfl⟩:=Oo.mp ew;cases d with
   | tup xs =>
     cases ew0;obtain ⟨a,vs,rfl,t,s⟩:=rd.tup_inv;exact ⟨a,vs,rfl,.inl ⟨G.gk.K ▸ t,f1.ok rh1 (Zqi G.gk.K rh1 t s)⟩⟩
   | ref i =>
     obtain ⟨xs,hi,rfl⟩:=Zlu (show ZhF (.ref i) h1=some w0 from ew0);obtain ⟨a,vs,rfl,hm,hl,s⟩:=rd.lst rh1 hi;exact ⟨a,vs,rfl,.inr ⟨.of hl,by rw [<- s.length];exact f1.ok rh1 (Znz hm)⟩⟩
   | _=>cases ew0
 | .en1 e,h=>ff h
 | .zl a b,h=>ff h
 | .zp a b,h=>ZfU h fun p ys q h=>ZmG h fun y z h=>ZmK (bR (bR (bR (bR (bR h))))) fun ts j r=>by
   have h5:=bL (bR (bR (bR h)));have h6:=bL (bR (bR (bR (bR h))));refine (ZqN (G.gl (bL h)).1 (G.blt _ (by decide)) (Zbx (Zf a G (bL (bR h))) (Zbx (Zf b G (bL (bR (bR h)))) ZdY (Zq X.env h6)) (Zq X.env h5)) (by rw [Zq X.env h5,Zq X.env h6];rfl) (Zq X.env h6)).imp fun Z H Q s=>Sm.bind s fun S d h1 x H1 μ1 rh1 rs1 rd f1=>⟨S,h1,μ1,rh1,rs1,f1.bind fun e h2 y H2 μ2 er2 g2 rh2 re f2=>?_⟩
   have rd2:=rd.mono rh1 g2;cases rd2 with
   | tup t s =>
     cases re with
     | tup t' s' =>
       obtain ⟨hl,f2⟩:=Fin.iff f2;exact ⟨_,_,rfl,⟨_,G.gk.K ▸ t⟩,⟨_,G.gk.K ▸ t'⟩,f2.ok rh2 (Zqe G.gk.K rh2 t s t' s' hl)⟩
     | _=>exact f2.elim
   | _=>exact f2.elim
 | .en0 e,h=>ff h
 | .dk e,h=>ff h
theorem pairs_ok(ps:Exs){Γ:Gm}{X:Cx}{E:XK}{k:Nat}{ks:List (Option Expr)}{vs:List Expr}{pos:Pos}(G:Gd T Γ X Y E k)(h:chkp Γ ps ks vs=true):PPs X pos ks vs (ZjC T Y E ps)/\ks.all (·.isSome)=true/\ks.length=vs.length:=match ps,ks,vs,h with
 | .nil,[],[],h=>⟨Zn7,rfl,rfl⟩
 | .nil,[],_::_,h=>ff h
 | .nil,_::_,_,h=>ff h
 | .cons e .nil,ks,vs,h=>ff h
 | .cons e (.cons v r'),[],vs,h=>ff h
 | .cons e (.cons v r'),none::_,vs,h=>ff h
 | .cons e (.cons v r'),some _::_,[],h=>ff h
 | .cons e (.cons v r'),some kx::ks,vx::vs,h =>
   let z:=pairs_ok r' (pos:=pos) G (bR (bR h))
   ⟨Zmf (Zf e G (bL h)) (Zf v G (bL (bR h))) z.1,z.2.1,congrArg (·+1) z.2.2⟩
end
end IV
end
section
namespace IV
open PySem PySem.Spec PyProof.Rows L2
noncomputable def Zci(e:Expr):Bool:=decide (tgE e≠13)&&decide (tgE e≠19)
noncomputable def Zi8(e:Expr):Bool:=decide (tgE e≠8)
structure PsS where
 a:Expr:=default
 b:Expr:=default
 o:Option Expr:=none
 c:Option Expr:=none
 ts:List Expr:=[]
 xs:List Stmt:=[]
 ys:List Stmt:=[]
 zs:List Stmt:=[]
 hs:List ExceptHandler:=[]
 op:Operator:=.Add
 p:Pos:=default
 s:Stmt:=default
noncomputable def tgS:Stmt->Nat
 | .Return _ _=>1|.Assign _ _ _=>2|.AugAssign _ _ _ _=>3|.Expr _ _=>4|.If _ _ _ _=>5|.While _ _ _ _=>6|.For _ _ _ _ _=>7|.Pass _=>8|.Break _=>9|.Continue _=>10|.Raise _ _ _=>11|.Try _ _ _ _ _=>12|_=>0
noncomputable def prS(s:Stmt):PsS:=match s with
 | .Return o p=>{o:=o,p:=p}
 | .Assign ts a p=>{ts:=ts,a:=a,p:=p}
 | .AugAssign a op b p=>{a:=a,op:=op,b:=b,p:=p}
 | .Expr a p=>{a:=a,p:=p}
 | .If a xs ys p=>{a:=a,xs:=xs,ys:=ys,p:=p}
 | .While a xs ys p=>{a:=a,xs:=xs,ys:=ys,p:=p}
 | .For a b xs ys p=>{a:=a,b:=b,xs:=xs,ys:=ys,p:=p}
 | .Pass p=>{p:=p}
 | .Break p=>{p:=p}
 | .Continue p=>{p:=p}
 | .Raise o c p=>{o:=o,c:=c,p:=p}
 | .Try xs hs ys zs p=>{xs:=xs,hs:=hs,ys:=ys,zs:=zs,p:=p}
 | _=>{s:=s}
noncomputable def mkS(n:Nat)(p:PsS):Stmt:=match n with
 | 1=>.Return p.o p.p|2=>.Assign p.ts p.a p.p|3=>.AugAssign p.a p.op p.b p.p|4=>.Expr p.a p.p|5=>.If p.a p.xs p.ys p.p|6=>.While p.a p.xs p.ys p.p|7=>.For p.a p.b p.xs p.ys p.p
 | 8=>.Pass p.p|9=>.Break p.p|10=>.Continue p.p|11=>.Raise p.o p.c p.p|12=>.Try p.xs p.hs p.ys p.zs p.p|_=>p.s
theorem rbS(s:Stmt):mkS (tgS s) (prS s)=s:=by cases s<;>rfl
@[irreducible] noncomputable def anS(n:Nat)(s:Stmt)(f:PsS->Bool):Bool:=decide (tgS s=n)&&f (prS s)
section
variable {P:Stmt->Prop}{s:Stmt}
theorem Za1(h:anS n s f=true)(k:∀ p,f p=true->P (mkS n p)):P s:=by
 unfold anS at h;exact rbS s ▸ dS (P:=fun m=>P (mkS m (prS s))) (bL h) (k _ (bR h))
noncomputable def oSm{α:Type}(o:Option α)(f:α->Bool):Bool:=match o with
 | some x=>f x
 | none=>false
theorem Zrb{α:Type}{P:Option α->Prop}{o:Option α}{f:α->Bool}(h:oSm o f=true)(k:∀ x,f x=true->P (some x)):P o:=by
 cases o with
 | none=>exact ff h
 | some x=>exact k x h
@[irreducible] noncomputable def aAs(s:Stmt)(f:Expr->Expr->Bool):Bool:=anS 2 s fun p=>l1 p.ts fun g=>f g p.a
theorem Zno(h:aAs s f=true)(k:∀ g x q,f g x=true->P (.Assign [g] x q)):P s:=by
 unfold aAs at h;exact Za1 h fun p h=>ZcE (P:=fun ts=>P (.Assign ts p.a p.p)) h fun _ h=>k _ _ _ h
end
noncomputable def Ztt:Ex->Bool
 | .comp _ _ _ _ _ _|.any=>true
 | _=>false
mutual
noncomputable def ZtO(Γ:Gm):Sx->Stmt->Bool
 | .ret e,s=>anS 1 s fun p=>oSm p.o fun x=>chk Γ e x
 | .set g e,s=>aAs s fun tg x=>Zpf Γ.N (ownD Γ.sc) g tg&&(chk Γ e x&&((Zci x&&(!isTup tg || Zi8 x)) || (decide (tgE tg=6)&&Ztt e)))
 | .put o i e,s=>aAs s fun tg x=>aS tg fun xo xi=>chk Γ o xo&&(chk Γ i xi&&(chk Γ e x&&(Zfz xi&&Zci x)))
 | .aug i op e,s=>anS 3 s fun p=>Zk3 Γ.N (ownD Γ.sc) i p.a&&(decide (p.op=.Add)&&(decide (op=.Add)&&chk Γ e p.b))
 | .drp e,s=>anS 4 s fun p=>chk Γ e p.a&&Zci p.a
 | .iff c a b,s=>anS 5 s fun p=>chkt Γ c p.a&&(chkSs Γ a p.xs&&chkSs Γ b p.ys)
 | .whl c b,s=>anS 6 s fun p=>l0 p.ys (chkt Γ c p.a&&chkSs Γ b p.xs)
 | .forr g it b,s=>anS 7 s fun p=>l0 p.ys (chki Γ it p.a p.b&&(ZaJ p.b&&(Zpf Γ.N (ownD Γ.sc) g p.a&&chkSs Γ b p.xs)))
 | .pas,s=>anS 8 s fun _=>true
 | .brk,s=>anS 9 s fun _=>true
 | .cnt,s=>anS 10 s fun _=>true
 | .seta Cs o f e,s=>aAs s fun tg x=>aA f tg fun xo _=>chk Γ o xo&&(chk Γ e x&&(Zci x&&((Cs.all fun C=>decide (C∈Γ.kl.cs))&&decide (f∈Γ.kl.ats))))
 | .auga Cs o f e,s=>anS 3 s fun p=>decide (p.op=.Add)&&aA f p.a fun xo _=>chk Γ o xo&&(chk Γ e p.b&&((Cs.all fun C=>decide (C∈Γ.kl.cs))&&decide (f∈Γ.kl.ats)))
 | .any,_=>true
 | .rai _ _,_=>false
 | .trs _ _ _ _,_=>false
 | .trw _ _ _ _ _ _ _,_=>false
 | .unl _ _ _,_=>false
noncomputable def chkSs(Γ:Gm):Sxs->List Stmt->Bool
 | .nil,ss=>ss.isEmpty
 | .cons s r,ss=>match ss with
   | x::xs=>ZtO Γ s x&&chkSs Γ r xs
   | []=>false
end
noncomputable def ZE(Y:Yx)(H:Hp)(B:List Addr)(r:R (Fl×Ev))(D:Ends)(E:XK):Prop:=match r with
 | .bad=>False
 | .ok p h'=>∀ H' μ',Gr H B H' μ'->RH Y H' μ' h'->match p.1 with
   | .nx=>∀ σ',RS Y H' μ' p.2 σ'->D.nx σ' H'
   | .bk=>∀ σ',RS Y H' μ' p.2 σ'->D.bk σ' H'
   | .ct=>∀ σ',RS Y H' μ' p.2 σ'->D.ct σ' H'
   | .rt d=>∀ v,RD Y H' μ' d v->D.rt v H'
 | .exc c h'=>∀ H' μ' C,Gr H B H' μ'->RH Y H' μ' h'->Y.mg c=some (.ref C)->E (.ref C) none H'
section
variable {Y:Yx}{α β:Type}{rel:Hp->List Addr->α->β->Prop}{H H1:Hp}{B μ1:List Addr}{E:XK}{D:Ends}
theorem ZE.mono(g:Gr H B H1 μ1)(f:ZE Y H B r D E):ZE Y H1 μ1 r D E:=by
 cases r with
 | bad=>exact f
 | ok a h=>exact fun H' μ' g'=>f H' μ' (g.trans g')
 | exc c h=>exact fun H' μ' C g'=>f H' μ' C (g.trans g')
theorem ZE.bind(f:ZE Y H B (r.bind k) D E)
   (hk:∀ a h1 b H1 μ1,r=.ok a h1->Gr H B H1 μ1->RH Y H1 μ1 h1->rel H1 μ1 a b->ZE Y H1 μ1 (k a h1) D E->Q1 b H1):Fin Y rel H B r Q1 E:=by
 cases r with
 | bad=>exact f
 | ok a h=>exact fun b H' μ' g' rh rl=>hk a h b H' μ' rfl g' rh rl (ZE.mono g' f)
 | exc c h=>exact f
theorem ZE.ofO(f:ZE Y H B ((R.ofO o h).bind k) D E):∃ a,o=some a/\ZE Y H B (k a h) D E:=by
 cases o with
 | none=>exact f.elim
 | some a=>exact ⟨a,rfl,f⟩
theorem ZE.nx(f:ZE Y H B (.ok (.nx,S) h) D E)(rh:RH Y H B h)(rs:RS Y H B S Z):D.nx Z H:=f H B Gr.refl rh Z rs
theorem ZE.part(f:ZE Y H B (r.bind k) D E)
   (hk:∀ p h1 H1 μ1,r=.ok p h1->Gr H B H1 μ1->RH Y H1 μ1 h1->ZE Y H1 μ1 (k p h1) D E->match p.1 with
     | .nx=>∀ σ',RS Y H1 μ1 p.2 σ'->D1.nx σ' H1
     | .bk=>∀ σ',RS Y H1 μ1 p.2 σ'->D1.bk σ' H1
     | .ct=>∀ σ',RS Y H1 μ1 p.2 σ'->D1.ct σ' H1
     | .rt d=>∀ v,RD Y H1 μ1 d v->D1.rt v H1):ZE Y H B r D1 E:=by
 cases r with
 | bad=>exact f
 | ok p h=>exact fun H' μ' g' rh=>hk p h H' μ' rfl g' rh (ZE.mono g' f)
 | exc c h=>exact f
end
inductive SmS(Y:Yx)(E:XK)(m:Ev->Hd->R (Fl×Ev))(D:Ends)(Z:L2.St)(H:Hp):Prop
 | mk (S:Ev) (h:Hd) (B:List Addr) (rh:RH Y H B h) (rs:RS Y H B S Z) (f:ZE Y H B (m S h) D E):SmS Y E m D Z H
noncomputable def ZnP(T:Tb)(Y:Yx)(E:XK)(s:Sx):TS:=SmS Y E (xs1 T s)
noncomputable def ZjL(T:Tb)(Y:Yx)(E:XK)(s:Sxs):TS:=SmS Y E (xs2 T s)
theorem SmS.bind{D:Ends}{γ δ:Type}{rel:Hp->List Addr->γ->δ->Prop}{m:Ev->Hd->R γ}{k:Ev->γ->Hd->R (Fl×Ev)}{Q1:δ->Hp->Prop}(s:SmS Y E (fun S h=>(m S h).bind (k S)) D Z H)
   (hk:∀ S d h1 v H1 μ1,RH Y H1 μ1 h1->RS Y H1 μ1 S Z->rel H1 μ1 d v->ZE Y H1 μ1 (k S d h1) D E->Q1 v H1):Sm Y E rel m Z H Q1:=by
 cases s with
 | mk S h B rh rs f=>exact ⟨S,h,B,rh,rs,f.bind fun d h1 x H1 μ1 _ g rh1 rd f1=>hk S d h1 x H1 μ1 rh1 (rs.mono rh g) rd f1⟩
theorem Sm.at{α β:Type}{rel:Hp->List Addr->α->β->Prop}{m:Ev->Hd->R α}{Q1:β->Hp->Prop}{Q:Prop}(s:Sm Y E rel m Z H Q1)(hk:∀ S h B,RH Y H B h->RS Y H B S Z->Fin Y rel H B (m S h) Q1 E->Q):Q:=by
 cases s with
 | mk S h B rh rs f=>exact hk S h B rh rs f
theorem SmS.at{D:Ends}{Q:Prop}(s:SmS Y E m D Z H)(hk:∀ S h B,RH Y H B h->RS Y H B S Z->ZE Y H B (m S h) D E->Q):Q:=by
 cases s with
 | mk S h B rh rs f=>exact hk S h B rh rs f
theorem _root_.L2.PS.imp(h:PS X s t)(i:∀ D Z H,t' D Z H->t D Z H):PS X s t':=fun pins s Z H D I q=>h pins s Z H D I (i D Z H q)
theorem _root_.L2.PSs.imp(h:PSs X s t)(i:∀ D Z H,t' D Z H->t D Z H):PSs X s t':=fun pins s Z H D I q=>h pins s Z H D I (i D Z H q)
structure XOk(K:PySem.W.Frag)(a:Addr):Prop extends ExcN K a where
 own:PySem.W.excIn K a [.type "ValueError",.type "Exception",.type "BaseException",.type "object"] "ValueError.__new__" = true
 sub:PySem.W.subIn K (.ref a) (.ref a)=some true
structure GdS(T:Tb)(Γ:Gm)(X:Cx)(Y:Yx)(E:XK)(k:Nat):Prop extends Gd T Γ X Y E k where
 top:Γ.top=true
 fnt:∀ x,X.fn x=true
 own:PassesOwn (model X.prog X.w) X.A X.env X.xe
 bk:X.env.blockKind=.function
 rz:ZkE X E
 stk:X.stack=X.env::X.outer
 frm:X.env.frame=some X.env.locals
 xcs:∀ C∈Γ.kl.xs,∃ a,X.mg C=some (.ref a)/\XOk X.K a
 xas:∀ p∈Γ.kl.xa,∃ a b,X.mg p.1=some (.ref a)/\X.mg p.2=some (.ref b)/\XAs X.K a b
theorem GdS.ownD(G:GdS T Γ X Y E k):∀ x,ownD Γ.sc x=true->Loc X.env.scope x/\(X.fn x=true\/X.env.scope.names.lookup x=some .local):=by
 intro x h;refine ⟨?_,.inl (G.fnt x)⟩;unfold IV.ownD at h;rw [G.sc G.top];rw [Bool.or_eq_true] at h;exact h.imp of_decide_eq_true of_decide_eq_true
theorem Zdl(h:Zci x=true):swapsWith x t n env=pure false:=(kdE x).sw (of_decide_eq_true (bL h)) (of_decide_eq_true (bR h)) _ _ _
theorem ZlV(G:GdS T Γ X Y E k)(hi:Γ.N[i]? = some y)(ho:ownD Γ.sc y=true)(hx:Ztt e=true)(h:chk Γ e x=true):PS X (.Assign [.Name y py] x spos) (ZiP (ZO T Y E e) (ZbK i)):=by
 obtain ⟨o1,o2⟩:=G.ownD y ho;have hy:X.N[i]? = some y:=by rw [G.N];exact hi
 cases e with
 | comp NC js it g c e =>
   refine ZpS h (fun elt tg iter ifs scope q h pe=>?_) (Zf _ G.toGd h);cases sw:(X.env.blockKind==.function&&X.env.kindOf y==some .local&&py.line==q.line&&!(scope.names.any fun (n,k)=>n==y&&(k==.local || k==.cell))) with
   | true =>
     have S_:=Zik (bL (bR h));rw [<- G.N,<- G.sc (bL h)] at S_;have Gc:=fun C s3 H3 fp=>G.toGd.comp NC scope C s3 H3 fp S_.nd;have h':=bR (bR h);exact (ZiY (g:=tgR X.K g) (tc:=Sm Y E0 eqR (tsto T c)) (te:=ZO T Y E0 e) G.nd hy o1 o2 S_ rfl G.calm (evi_ok it G.toGd (bL h')) (fun C s3 H3 fp=>⟨ZjT rfl S_.nd rfl (fun x hx=>ZjX (scope:=scope) X hx) (bL (bR (bR h'))),ifs_ok c (Gc C s3 H3 fp) (bL (bR (bR (bR (bR h'))))),Zf e (Gc C s3 H3 fp) (bR (bR (bR (bR (bR h')))))⟩) (Zsp X.K g) (fun j hj=>of_decide_eq_true (OC.mp (bL (bR (bR (bR h')))) j (List.mem_range.mpr hj))) (ZiS X.env (bL (bR h'))) (congrArg pure sw)).imp
       fun D Z H s=>Sm.bind s fun S w h1 J H1 μ1 rh1 rs1 wj f1 D hD=>Zko G.gk.K (fun _ _ _ z=>z) rh1 rs1 wj f1 hD
   | false=>exact Zmc G.nd hy o1 pe (congrArg pure sw) o2
 | any=>exact fun pins s Z H D I s=>Sm.at s fun _ _ _ _ _ f=>f.elim
 | _=>exact ff hx
theorem ZjK(ht:isTup tg=true)(pg:PG X tg g)(he:PE X x te)(h3:(Zci x&&(!isTup tg || Zi8 x))=true):PS X (.Assign [tg] x pos) (ZiP te g) :=
 ZmK (P:=fun tg=>PG X tg g->(!isTup tg || Zi8 x)=true->PS X (.Assign [tg] x pos) (ZiP te g)) ht (fun _ _ _ pg h3=>Zme he pg (by unfold swapsWithSole;exact Zdl (bL ‹_›)) ((kdE x).st (of_decide_eq_true h3) _ _ _ _) rfl) pg (bR h3)
theorem ZrZ{T:Tb}(G:Gd T Γ X Y E k)(hc:(Cs.all fun C=>decide (C∈Γ.kl.cs))=true)(hf:f∈Γ.kl.ats){D:Ends}(rh1:RH Y H1 μ1 h1)(rs1:RS Y H1 μ1 S Z)(rd:RD Y H1 μ1 d x)
   (f1:ZE Y H1 μ1 ((Zd6 Cs f d h1).bind fun v h2=>(ev T e S h2).bind fun y h3=>match v,y with
     | .int a,.int b=>if (ZL d h1).map (·.1)=(ZL d h3).map (·.1) then (Zfs Cs f d (.int (a+b)) h3).bind fun _ h4=>.ok (.nx,S) h4 else .bad
     | _,_=>.bad) D E) :
   ∃ a C dx fs v,x=.ref a/\H1 a=some (.ins C dx fs)/\Cls X.K C/\Zai X.K C f/\fs.lookup f=some v /\
     ZO T Y E e Z H1 fun y H2=>ZsL v y H2 fun z H3=>∃ dx' fs',H3 a=some (.ins C dx' fs')/\fs'.length<1000/\D.nx Z (upd H3 a (.ins C dx' (Zbh f z fs'))):=by
 unfold Zd6 at f1;cases ei:ZL d h1 with
 | none=>rw [ei] at f1;exact f1.elim
 | some p =>
   obtain ⟨C,fs⟩:=p;rw [ei] at f1;simp only at f1;by_cases hC:C∈Cs
   . rw [if_pos hC] at f1;obtain ⟨w,e1,f1⟩:=f1.ofO;obtain ⟨i,a,Ca,dx,gs,rfl,rfl,q,hi,z,m,s⟩:=ZfG rh1 rd ei;obtain ⟨v,l,rv⟩:=(s.look (f:=f)).1 w e1;have hc':=hc;rw [OC] at hc';obtain ⟨Ca',m',cl,na⟩:=G.cls C (of_decide_eq_true (hc' C hC));have m0:=m;rw [G.gk.mg,m'] at m;cases m;refine ⟨a,Ca,dx,gs,v,rfl,z,cl,na f hf,l,S,h1,μ1,rh1,rs1,ZE.bind f1 fun y h3 u H3 μ3 _ g3 rh3 ry f3=>?_⟩;cases w with
     | int p =>
       cases y with
       | int r =>
         cases rv;cases ry;refine ⟨p,r,rfl,rfl,?_⟩;simp only at f3;by_cases hk:Option.map (·.1) (some (C,fs))=(ZL (.ref i) h3).map (·.1)
         . rw [if_pos hk] at f3;obtain ⟨a',C',dx',fs',e4,z',_,_,l',nx⟩:=ZlU (Q:=fun _ H'=>D.nx Z H') G hc hf rh3 (rd.mono rh1 g3) (.int _) (ZE.bind f3 fun _ h4 _ H4 μ4 _ g4 rh4 _ f4=>f4.nx rh4 ((rs1.mono rh1 g3).mono rh3 g4));cases e4;cases e5:ZL (.ref i) h3 with
           | none=>rw [e5] at hk;cases hk
           | some p3 =>
             obtain ⟨C3,fs3⟩:=p3;rw [e5] at hk;cases hk;obtain ⟨i3,a3,Ca3,dx3,gs3,e6,e7,_,_,z3,m3,_⟩:=ZfG rh3 (rd.mono rh1 g3) e5;cases e7;rw [m0] at m3;cases m3;rw [z'] at z3;cases z3;exact ⟨dx',fs',z',l',nx⟩
         . rw [if_neg hk] at f3;exact f3.elim
       | _=>exact f3.elim
     | _=>exact f3.elim
   . rw [if_neg hC] at f1;exact f1.elim
theorem ZjW{D D1:Ends}{k:Ev->Hd->R (Fl×Ev)} (f:ZE Y H B (r.bind fun p h2=>match p with
     | (.nx,ρ2)=>k ρ2 h2
     | (.ct,ρ2)=>k ρ2 h2
     | (.bk,ρ2)=>.ok (.nx,ρ2) h2
     | (.rt d,ρ2)=>.ok (.rt d,ρ2) h2) D E) (hn:∀ ρ2 h2 H2 μ2 σ',Gr H B H2 μ2->RH Y H2 μ2 h2->RS Y H2 μ2 ρ2 σ'->ZE Y H2 μ2 (k ρ2 h2) D E->D1.nx σ' H2) (hc:D1.ct=D1.nx) (hb:D1.bk=D.nx) (hr:D1.rt=D.rt):ZE Y H B r D1 E :=
 ZE.part f fun p h2 H2 μ2 _ g2 rh2 f2=>by
   obtain ⟨fl,ρ2⟩:=p;cases fl with
   | nx=>exact fun σ' rs'=>hn ρ2 h2 H2 μ2 σ' g2 rh2 rs' f2
   | ct=>rw [hc];exact fun σ' rs'=>hn ρ2 h2 H2 μ2 σ' g2 rh2 rs' f2
   | bk=>rw [hb];exact fun σ' rs'=>ZE.nx f2 rh2 rs'
   | rt d=>rw [hr];exact fun v rv=>f2 H2 μ2 Gr.refl rh2 v rv
theorem Zqj{D:Ends}(s:ZnP T Y E (.whl c b) D Z H):ZlI (ZiU T Y E c) (ZjL T Y E b) D Z H:=by
 refine ⟨fun m=>SmS Y E (Z7 (tst T c) (xs2 T b) m) D,⟨T.L,s⟩,fun m Z H s=>?_⟩;cases m with
 | zero=>exact SmS.at s fun _ _ _ _ _ f=>f.elim
 | succ m =>
   refine SmS.bind s fun S t h1 v H1 μ1 rh1 rs1 rd f1=>?_;cases rd;cases t with
   | false=>exact Zia (ZE.nx f1 rh1 rs1)
   | true=>exact Zh9 ⟨SmS Y E (Z7 (tst T c) (xs2 T b) m) D,fun σ' H' q=>⟨m,OH m,q⟩,S,h1,μ1,rh1,rs1,ZjW f1 (fun ρ2 h2 H2 μ2 σ' _ rh2 rs2 f2=>⟨ρ2,h2,μ2,rh2,rs2,f2⟩) rfl rfl rfl⟩
inductive FwS(Y:Yx)(E:XK)(H1:Hp)(μ1:List Addr)(n i:Nat)(F:Ev->Hd->R (Fl×Ev))(D:Ends)(m:Nat)(Z:L2.St)(H:Hp):Prop
 | mk (S:Ev) (h:Hd) (B:List Addr) (hi:i<=n) (hm:m=n - i) (g:Gr H1 μ1 H B) (rh:RH Y H B h) (rs:RS Y H B S Z) (f:ZE Y H B (F S h) D E):FwS Y E H1 μ1 n i F D m Z H
theorem ZrD{K:PySem.W.Frag}{g:Tg}{D:Ends}(hY:Y.K=K)(rh1:RH Y H1 μ1 h1)(rs1:RS Y H1 μ1 S Z)(wj:WJ Y H1 μ1 w J)(f1:ZE Y H1 μ1 (ZN w.src g (xs2 T b) w.xs S h1) D E):∃ W:Nat->Nat->L2.St->Hp->Prop,(∃ m,W 0 m Z H1)/\∀ i m Z H,W i m Z H ->
   (J.stop i H/\D.nx Z H)\/(J.go i H/\∃ B_:L2.St->Hp->Prop,(∀ σ' H',B_ σ' H'->∃ m',m'<m/\W (i+1) m' σ' H')/\∀ x H',J.yld i H x H'->tgR K g x Z H' fun σ' H''=>ZjL T Y E b {D with nx:=B_,ct:=B_,bk:=D.nx} σ' H''):=by
 refine ⟨fun i=>FwS Y E H1 μ1 w.xs.length i (fun S=>ZN w.src g (xs2 T b) (w.xs.drop i) S) D,⟨w.xs.length,S,h1,μ1,Nat.zero_le _,(Nat.sub_zero _).symm,Gr.refl,rh1,rs1,f1⟩,fun i m Z H s=>?_⟩;cases s with
 | mk S h B hi hm g0 rh rs f =>
   subst hm;by_cases hs:Wk.stays w.src h=true
   . by_cases hlt:i<w.xs.length
     . have hd:=Og hlt;rw [List.drop_eq_getElem_cons hlt,ZN,if_pos hs] at f;obtain ⟨go,yl⟩:=(wj H B h g0 rh hs).1 i _ hd;refine .inr ⟨go,FwS Y E H1 μ1 w.xs.length (i+1) (fun S=>ZN w.src g (xs2 T b) (w.xs.drop (i+1)) S) D (w.xs.length - (i+1)),fun σ' H' q=>⟨_,Nat.sub_lt_sub_left hlt (OH i),q⟩,fun x H' hy=>?_⟩;obtain ⟨g2,rh2,rx⟩:=yl x H' hy;split at f
       . exact f.elim
       . rename_i ρ1 hb;exact Zhu hY rx (rs.mono rh g2) hb fun σ1 rs1=>⟨ρ1,h,B,rh2,rs1,ZjW (ZE.mono g2 f) (fun ρ2 h3 H3 μ3 σ' g3 rh3 rs3 f3=>⟨ρ2,h3,μ3,hlt,rfl,(g0.trans g2).trans g3,rh3,rs3,f3⟩) rfl rfl rfl⟩
     . have he:i=w.xs.length:=Nat.le_antisymm hi (Nat.le_of_not_lt hlt);subst he;rw [List.drop_eq_nil_of_le (Oq _),ZN,if_pos hs] at f;exact .inl ⟨(wj H B h g0 rh hs).2,ZE.nx f rh rs⟩
   . cases e:w.xs.drop i with
     | nil=>rw [e,ZN,if_neg hs] at f;exact f.elim
     | cons _ _=>rw [e,ZN,if_neg hs] at f;exact f.elim
mutual
theorem Zsy(s:Sx){Γ:Gm}{X:Cx}{E:XK}{k:Nat}{x:Stmt}(G:GdS T Γ X Y E k)(h:ZtO Γ s x=true):PS X x (ZnP T Y E s):=match s,h with
 | .ret e,h=>Za1 (P:=fun x=>PS X x _) h fun p h=>Zrb (P:=fun o=>PS X (.Return o p.p) _) h fun y h=>(ZqJ (Zf e G.toGd h)).imp fun D Z H s=>SmS.bind s fun S d h1 v H1 μ1 rh1 rs1 rd f1=>f1 H1 μ1 Gr.refl rh1 v rd
 | .set g e,h=>Zno (P:=fun x=>PS X x _) h fun tg xe pos h=>by
   have fin:∀ {D:Ends}{Z:L2.St}{H:Hp},ZnP T Y E (.set g e) D Z H->ZiP (ZO T Y E e) (tgR X.K g) D Z H:=fun {D Z H} s=>SmS.bind s fun S d h1 v H1 μ1 rh1 rs1 rd f1=>by
     obtain ⟨ρ1,eb,f1⟩:=f1.ofO;exact Zhu G.gk.K rd rs1 eb fun σ1 rs2=>f1.nx rh1 rs2
   have pg:=ZjT (X:=X) G.N G.nd G.calm G.ownD (bL h);refine bO (bR (bR h)) (fun h3=>?_) fun h3=>?_
   . cases g with
     | nm i=>exact Za7 (P:=fun t=>PS X (.Assign [t] _ _) _) (bL h) fun y py e1 e2=>(Zmc G.nd (by rw [G.N];exact e1) (G.ownD y e2).1 (Zf e G.toGd (bL (bR h))) (Zdl (bL h3)) (G.ownD y e2).2).imp fun D Z H q=>fin q
     | two i j=>exact (ZjK (ZhJ (P:=fun t=>isTup t=true) (show Zks Γ.N (ownD Γ.sc) i j tg=true from bL h) fun _ _ _ _=>rfl) pg (Zf e G.toGd (bL (bR h))) h3).imp fun D Z H q=>fin q
     | many is=>exact (ZjK (ZhJ (P:=fun t=>isTup t=true) (show Zkr Γ.N (ownD Γ.sc) is tg=true from bL h) fun _ _ _ _=>rfl) pg (Zf e G.toGd (bL (bR h))) h3).imp fun D Z H q=>fin q
   . cases g with
     | nm i=>exact Za7 (P:=fun t=>PS X (.Assign [t] _ _) _) (bL h) fun y py e1 e2=>(ZlV G e1 e2 (bR h3) (bL (bR h))).imp fun D Z H q=>fin q
     | two i j=>exact ff (ZhJ (P:=fun t=>decide (tgE t=6)=true->false=true) (show Zks Γ.N (ownD Γ.sc) i j tg=true from bL h) (fun _ _ _ _ z=>z) (bL h3))
     | many is=>exact ff (ZhJ (P:=fun t=>decide (tgE t=6)=true->false=true) (show Zkr Γ.N (ownD Γ.sc) is tg=true from bL h) (fun _ _ _ _ z=>z) (bL h3))
 | .put o i e,h=>Zno (P:=fun x=>PS X x _) h fun tg xe p2 h=>Zqx (P:=fun t=>PS X (.Assign [t] _ _) _) h fun xo xi p1 h =>
   (Zme (pos:=p2) (Zf e G.toGd (bL (bR (bR h)))) (ZqQ (pos:=p1) (Zf o G.toGd (bL h)) (Zf i G.toGd (bL (bR h))) (ZqH (Y:=Y) (E:=E)) ((kdE xi).put (of_decide_eq_true (bL (bR (bR (bR h))))) _ _ _)) (by unfold swapsWithSole;exact Zdl (bR (bR (bR (bR h))))) rfl rfl).imp fun D Z H s=>SmS.bind s fun S d h1 v H1 μ1 rh1 rs1 rd f1 =>
     ⟨S,h1,μ1,rh1,rs1,f1.bind fun d2 h2 v2 H2 μ2 _ g2 rh2 rd2 f2=>⟨S,h2,μ2,rh2,rs1.mono rh1 g2,f2.bind fun d3 h3 v3 H3 μ3 _ g3 rh3 rd3 f3 =>
       ⟨d2,d3,d,h3,μ3,rh3,rd2.mono rh2 g3,rd3,(rd.mono rh1 g2).mono rh2 g3,f3.bind fun _ h4 _ H4 μ4 _ g4 rh4 _ f4=>f4.nx rh4 (((rs1.mono rh1 g2).mono rh2 g3).mono rh3 g4)⟩⟩⟩
 | .aug i op e,h=>Za1 (P:=fun x=>PS X x _) h fun p h=>Za7 (P:=fun a=>PS X (.AugAssign a _ _ _) _) (bL h) fun y py e1 e2=>dS (P:=fun o=>PS X (.AugAssign _ o _ _) _) (bL (bR h)) <| dS (P:=fun o=>PS X _ (ZnP T Y E (.aug i o e))) (bL (bR (bR h))) <|
   (ZqM G.nd (by rw [G.N];exact e1) (G.ownD _ e2).1 (Zf e G.toGd (bR (bR (bR h)))) Zry (G.ownD _ e2).2).imp fun D Z H s=>SmS.at s fun S h B rh rs f=>by
     obtain ⟨d,ed,f⟩:=ZE.ofO f;obtain ⟨v,ev,rd⟩:=rs.var ed;refine ⟨v,ev,S,h,B,rh,rs,ZE.bind f fun d2 h2 v2 H2 μ2 _ g2 rh2 rd2 f2=>?_⟩;cases rd with
     | int a =>
       cases rd2 with
       | int b=>exact ⟨a,b,rfl,rfl,ZE.nx f2 rh2 ((rs.mono rh g2).set (.int _))⟩
       | _=>exact f2.elim
     | _=>exact f2.elim
 | .drp e,h=>Za1 (P:=fun x=>PS X x _) h fun p h=>(Zn6 (Zf e G.toGd (bL h)) (Zdl (bR h))).imp fun D Z H s=>SmS.bind s fun S d h1 v H1 μ1 rh1 rs1 rd f1=>f1.nx rh1 rs1
 | .iff c a b,h=>Za1 (P:=fun x=>PS X x _) h fun p h=>(ZsQ (tst_ok c G.toGd (bL h)) (sts_ok a G (bL (bR h))) (sts_ok b G (bR (bR h)))).imp fun D Z H s=>SmS.bind s fun S t h1 v H1 μ1 rh1 rs1 rd f1=>by
   cases rd;cases t with
   | true=>exact Zh9 ⟨S,h1,μ1,rh1,rs1,f1⟩
   | false=>exact Zia ⟨S,h1,μ1,rh1,rs1,f1⟩
 | .whl c b,h=>Za1 (P:=fun x=>PS X x _) h fun p h=>Zj8 (P:=fun ys=>PS X (.While _ _ ys _) _) h fun h=>(Zmb G.own (tst_ok c G.toGd (bL h)) (sts_ok b G (bR h))).imp fun D Z H s=>Zqj s
 | .forr g it b,h=>Za1 (P:=fun x=>PS X x _) h fun p h=>Zj8 (P:=fun ys=>PS X (.For _ _ _ ys _) _) h fun h=>(ZqK G.own G.calm (evi_ok it G.toGd (bL h)) (ZjT (X:=X) G.N G.nd G.calm G.ownD (bL (bR (bR h)))) (sts_ok b G (bR (bR (bR h)))) (ZiS X.env (bL (bR h)))).imp fun D Z H s=>SmS.bind s fun S w h1 J H1 μ1 rh1 rs1 wj f1=>ZrD G.gk.K rh1 rs1 wj f1
 | .pas,h=>Za1 (P:=fun x=>PS X x _) h fun p h=>Zn5.imp fun D Z H s=>SmS.at s fun S h B rh rs f=>ZE.nx f rh rs
 | .brk,h=>Za1 (P:=fun x=>PS X x _) h fun p h=>Zmd.imp fun D Z H s=>SmS.at s fun S h B rh rs f=>f H B Gr.refl rh Z rs
 | .cnt,h=>Za1 (P:=fun x=>PS X x _) h fun p h=>ZhP.imp fun D Z H s=>SmS.at s fun S h B rh rs f=>f H B Gr.refl rh Z rs
 | .any,h=>fun pins s Z H D I s=>SmS.at s fun S h B rh rs f=>f.elim
 | .rai C e,h=>ff h
 | .trs i f es C,h=>ff h
 | .trw i n f es C W w,h=>ff h
 | .seta Cs o f e,h=>Zno (P:=fun x=>PS X x _) h fun tg xe pos h=>Zpz (P:=fun t=>PS X (.Assign [t] _ _) _) h fun xo q h=>(ZqL (Zf o G.toGd (bL h)) (Zf e G.toGd (bL (bR h))) (Zdl (bL (bR (bR h))))).imp fun D Z H s=>SmS.bind s fun S d h1 v H1 μ1 rh1 rs1 rd f1=>⟨S,h1,μ1,rh1,rs1,ZE.bind f1 fun d2 h2 v2 H2 μ2 _ g2 rh2 rd2 f2 =>
     ZlU (Q:=fun _ H'=>D.nx Z H') G.toGd (bL (bR (bR (bR h)))) (of_decide_eq_true (bR (bR (bR (bR h))))) rh2 rd2 (rd.mono rh1 g2) (ZE.bind f2 fun _ h3 _ H3 μ3 _ g3 rh3 _ f3=>f3.nx rh3 ((rs1.mono rh1 g2).mono rh2 g3))⟩
 | .auga Cs o f e,h=>Za1 (P:=fun x=>PS X x _) h fun p h=>dS (P:=fun o=>PS X (.AugAssign _ o _ _) _) (bL h) <| Zpz (P:=fun t=>PS X (.AugAssign t _ _ _) _) (bR h) fun xo q h=>(ZkR (Zf o G.toGd (bL h)) (Zf e G.toGd (bL (bR h))) Zrz).imp fun D Z H s=>SmS.bind s fun S d h1 x H1 μ1 rh1 rs1 rd f1=>ZrZ G.toGd (bL (bR (bR h))) (of_decide_eq_true (bR (bR (bR h)))) rh1 rs1 rd f1
 | .unl i j e,h=>ff h
theorem sts_ok(s:Sxs){Γ:Gm}{X:Cx}{E:XK}{k:Nat}{x:List Stmt}(G:GdS T Γ X Y E k)(h:chkSs Γ s x=true):PSs X x (ZjL T Y E s):=match s,x,h with
 | .nil,[],h=>Zn4.imp fun D Z H s=>SmS.at s fun S h B rh rs f=>ZE.nx f rh rs
 | .nil,_::_,h=>ff h
 | .cons s r,[],h=>ff h
 | .cons s r,x::xs,h=>(Zma (Zsy s G (bL h)) (sts_ok r G (bR h))).imp fun D Z H s=>SmS.at s fun S h B rh rs f=>⟨S,h,B,rh,rs,ZE.part f fun p h1 H1 μ1 _ g1 rh1 f1=>by
     obtain ⟨fl,ρ1⟩:=p;cases fl with
     | nx=>exact fun σ' rs'=>⟨ρ1,h1,μ1,rh1,rs',f1⟩
     | bk=>exact fun σ' rs'=>f1 H1 μ1 Gr.refl rh1 σ' rs'
     | ct=>exact fun σ' rs'=>f1 H1 μ1 Gr.refl rh1 σ' rs'
     | rt d=>exact fun v rv=>f1 H1 μ1 Gr.refl rh1 v rv⟩
end
end IV
end
section
set_option tactic.hygienic false
namespace IV
open PySem PySem.Spec PyProof.Rows L2
structure BodyOk(K:PySem.W.Frag)(kl:Kl)(fs:List Str)(x q:Str)(fd:Fd)(st:Stmt)(f:Addr)(fdd:FuncData):Prop where
 fn:Fun K x q st f fdd
 sc:FnScope fd.N fd.ps (ZI st)
 hb:∀ (kV doc pm:Value) (an:Option Addr) (cdv ct:Value) (us:List Value),us.length=fd.ps.length->bindArgs (PySem.W.fnOf x q (Zck st) (Zbb st) (ZI st) .none kV doc pm an cdv ct) ⟨us,[]⟩=pure (fd.ps.zip us)
 ck:chkSs ⟨fd.N,ZI st,fs,true,kl⟩ fd.body (Zbb st)=true
structure DefOk(K:PySem.W.Frag)(mg:Str->Option Value)(kl:Kl)(fs:List Str)(x:Str)(fd:Fd)(st:Stmt)(f:Addr)(fdd:FuncData):Prop where
 bd:BodyOk K kl fs x x fd st f fdd
 mg:mg x=some (.ref f)
structure Md(Pr:Program)(w:World)(K:PySem.W.Frag)(mg:Str->Option Value)(P:Pg)(kl:Kl):Prop where
 bare:Zfl K=true
 gd:∀ x kvs,P.GD x=some kvs->∃ a kvs',mg x=some (.ref a)/\DkK Pr w K a kvs'/\∀ H B,RKs ⟨K,mg⟩ H B kvs kvs'
 g:∀ x d,P.G x=some d->∃ v u,mg x=some u/\RelV v u/\∀ H B,RD ⟨K,mg⟩ H B d v
 blt:∀ x∈Zku,mg x=none
 defs:∀ x fd,P.tb.lookup x=some fd->∃ st f fdd,DefOk K mg kl (P.tb.map (·.1)) x fd st f fdd
 cls:∀ C∈kl.cs,∃ a,mg C=some (.ref a)/\Cls K a/\∀ f∈kl.ats,Zai K a f
 mts:∀ p∈kl.ms,∃ a f fdd fd st q,mg p.1=some (.ref a)/\Cls K a/\Meth K a p.2 f/\P.look (mnm p.1 p.2)=some fd/\BodyOk K kl (P.tb.map (·.1)) p.2 q fd st f fdd
 mks:∀ C∈kl.is,∃ a f fdd fd st q,mg C=some (.ref a)/\Mk K a f/\P.look (mnm C (O "__init__"))=some fd/\BodyOk K kl (P.tb.map (·.1)) (O "__init__") q fd st f fdd
 xcs:∀ C∈kl.xs,∃ a,mg C=some (.ref a)/\XOk K a
 xas:∀ p∈kl.xa,∃ a b,mg p.1=some (.ref a)/\mg p.2=some (.ref b)/\XAs K a b
theorem ZlL(r:RDs Y H B ds vs):RS Y H B (ZaG N ds) (L2.start N vs):=by
 refine ⟨by simp [ZaG,L2.start,r.length],fun i d e=>?_⟩;unfold ZaG at e;unfold L2.start;by_cases hi:i<ds.length
 . rw [Oe (by simpa using hi),On] at e;rw [Oe (by simpa [<- r.length] using hi),On];obtain ⟨d',e1,e2⟩:=Oo.mp e;cases e2;obtain ⟨v,h1,h2⟩:=r.get e1;exact ⟨v,by rw [h1];rfl,h2⟩
 . rw [Om (by simpa using hi)] at e;have:=O1 e;rw [List.mem_replicate] at this;cases this.2
theorem ZnS(f:Fin Y (RD Y) H B (Ze r) Q E):ZE Y H B r {nx:=fun _ H'=>Q .non H',rt:=Q} E:=by
 cases r with
 | bad=>exact f.elim
 | exc c h=>exact f
 | ok p h =>
   obtain ⟨fl,S⟩:=p;cases fl with
   | nx=>exact fun H' μ' g rh σ' _=>f .non H' μ' g rh .non
   | bk=>exact f.elim
   | ct=>exact f.elim
   | rt d=>exact fun H' μ' g rh v rv=>f v H' μ' g rh rv
section
variable {Pr:Program}{w:World}{K:PySem.W.Frag}{mg:Str->Option Value}{base:Heap}{P:Pg}{kl:Kl}
theorem Zhb(h:P.tb.lookup x=some fd):P.look x=some fd:=by unfold Pg.look;rw [h]
theorem ZlQ(hl:P.look x=some fd)(h:ZeN (P.tbl n) ⟨K,mg⟩ x vs H Q E):vs.length=fd.ps.length:=by
 obtain ⟨ds,h,B,rh,rs,f⟩:=h;cases n with
 | zero=>exact f.elim
 | succ n =>
   have f:Fin ⟨K,mg⟩ (RD ⟨K,mg⟩) H B (run P (n+1) x ds h) Q E:=f;rw [run,hl] at f;obtain ⟨hz,_⟩:=f.iff;rw [<- rs.length];exact hz
structure Lev(Pr:Program)(w:World)(K:PySem.W.Frag)(mg:Str->Option Value)(base:Heap)(P:Pg)(kl:Kl)(n:Nat):Prop where
 defs:∀ y∈P.tb.map (·.1),∃ ps,Def Pr w K mg base (2 * n+61) y ps (ZeN (P.tbl n) ⟨K,mg⟩ y)
 mts:∀ p∈kl.ms,∃ a f fd ps,mg p.1=some (.ref a)/\Cls K a/\Meth K a p.2 f/\FnOk Pr w K mg base (CXF Pr w) (2 * n+61) f fd ps (ZeN (P.tbl n) ⟨K,mg⟩ (mnm p.1 p.2))/\Binds K fd ps []
 mks:∀ C∈kl.is,∃ a f fd ps,mg C=some (.ref a)/\Mk K a f/\FnOk Pr w K mg base (CXF Pr w) (2 * n+61) f fd ps (ZeN (P.tbl n) ⟨K,mg⟩ (mnm C (O "__init__")))/\Binds K fd ps []
theorem Zhn(M:Md Pr w K mg P kl){x nm q:Str}{fd:Fd}{st:Stmt}{f:Addr}{fdd:FuncData}(hl:P.look x=some fd)(o:BodyOk K kl (P.tb.map (·.1)) nm q fd st f fdd) :
   ∀ n,Lev Pr w K mg base P kl n->FnOk Pr w K mg base (CXF Pr w) (2 * (n+1)+61) f fdd fd.ps (ZeN (P.tbl (n+1)) ⟨K,mg⟩ x):=by
 intro n ih;obtain ⟨oc,od,kV,doc,pm,an,cdv,ct,osl,rfl,lk,hcd⟩:=o.fn.ex;have S_:=o.sc;rw [show 2 * (n+1)+61=(2 * n+61+1)+1 by lia];refine ZtA lk hcd S_ (fun vs H Q E h=>ZlQ hl h) fun A outer s H vs Q E hr hsp=>?_;refine Zpi (t:=ZjL (P.tbl n) ⟨K,mg⟩ E fd.body) (sts_ok fd.body (k:=2 * n+61) (Γ:=⟨fd.N,ZI st,P.tb.map (·.1),true,kl⟩) ⟨⟨⟨rfl,rfl,M.gd,M.g,M.bare⟩,rfl,fun _=>rfl,fun y hy=>?_,fun y hy=>hy,S_.nd,rfl,hr.mono (by lia),by lia,Zon fun _ _ z=>z,ih.defs,M.blt,hr,M.cls,ih.mts,ih.mks⟩,rfl,fun _=>rfl,PassesOwn.leaving,?_,Zl0,rfl,rfl,M.xcs,M.xas⟩ o.ck) ?_
 . unfold ZnC at hy;rw [Bool.or_eq_true,Bool.or_eq_true] at hy;rcases hy with (hy|hy)|hy
   . exact .inl (of_decide_eq_true hy)
   . exact .inr (.inl (of_decide_eq_true hy))
   . exact .inr (.inr (of_decide_eq_true hy))
 . show (if (ZI st).kind.isAnnotationScope then ScopeKind.function else (ZI st).kind)=.function;rw [S_.kind];rfl
 . obtain ⟨ds,h,B,rh,rs,f⟩:=hsp;have f:Fin ⟨K,mg⟩ (RD ⟨K,mg⟩) H B (run P (n+1) x ds h) Q E:=f;rw [run,hl] at f;obtain ⟨hz,f⟩:=f.iff;exact ⟨ZaG fd.N ds,h,B,rh,ZlL rs,ZnS f⟩
theorem mem_lookup{α:Type}{l:List (Str×α)}{x:Str}(h:x∈l.map (·.1)):∃ a,l.lookup x=some a:=by
 induction l with
 | nil=>simp at h
 | cons p r ih =>
   rw [OF];by_cases e:x=p.1
   . have:(x==p.1)=true:=by simpa using e
     rw [this];exact ⟨_,rfl⟩
   . have:(x==p.1)=false:=by simpa using e
     rw [this];exact ih (by simpa [e] using h)
theorem Zhi{x:Str}{fd:Fd}{f:Addr}{fdd:FuncData}(hl:P.look x=some fd):FnOk Pr w K mg base (CXF Pr w) (2 * 0+61) f fdd fd.ps (ZeN (P.tbl 0) ⟨K,mg⟩ x) :=
 ⟨fun vs H Q E h=>ZlQ hl h,fun A outer s H args us vs Q E _ _ _ _ h=>by obtain ⟨ds,h,B,rh,rs,f⟩:=h;exact f.elim⟩
theorem Znr(M:Md Pr w K mg P kl):∀ n,Lev Pr w K mg base P kl n:=by
 intro n;induction n with
 | zero =>
   refine ⟨fun y hy=>?_,fun p hp=>?_,fun C hC=>?_⟩
   . obtain ⟨fd,hl⟩:=mem_lookup hy;obtain ⟨st,f,fdd,o⟩:=M.defs y fd hl;exact ⟨fd.ps,f,fdd,o.mg,o.bd.fn.kp,o.bd.fn.binds o.bd.hb,Zhi (Zhb hl)⟩
   . obtain ⟨a,f,fdd,fd,st,q,m,c,me,hl,o⟩:=M.mts p hp;exact ⟨a,f,fdd,fd.ps,m,c,me,Zhi hl,o.fn.binds o.hb⟩
   . obtain ⟨a,f,fdd,fd,st,q,m,me,hl,o⟩:=M.mks C hC;exact ⟨a,f,fdd,fd.ps,m,me,Zhi hl,o.fn.binds o.hb⟩
 | succ n ih =>
   refine ⟨fun y hy=>?_,fun p hp=>?_,fun C hC=>?_⟩
   . obtain ⟨fd,hl⟩:=mem_lookup hy;obtain ⟨st,f,fdd,o⟩:=M.defs y fd hl;exact ⟨fd.ps,f,fdd,o.mg,o.bd.fn.kp,o.bd.fn.binds o.bd.hb,Zhn M (Zhb hl) o.bd n ih⟩
   . obtain ⟨a,f,fdd,fd,st,q,m,c,me,hl,o⟩:=M.mts p hp;exact ⟨a,f,fdd,fd.ps,m,c,me,Zhn M hl o n ih,o.fn.binds o.hb⟩
   . obtain ⟨a,f,fdd,fd,st,q,m,me,hl,o⟩:=M.mks C hC;exact ⟨a,f,fdd,fd.ps,m,me,Zhn M hl o n ih,o.fn.binds o.hb⟩
theorem Zrm(M:Md Pr w K mg P kl){x:Str}{a:Str}{fd:Fd}{fa:Addr}(n:Nat)(hl:P.tb.lookup x=some fd)(hps:fd.ps=[a])(hm:mg x=some (.ref fa)) :
   ∃ fdd:FuncData,(∀ (s:Shared) (v:Value),BindsTo s fdd ⟨[v],[]⟩ [(a,v)])/\∀ base:Heap,FnOk Pr w K mg base (CXF Pr w) (2 * (n+1)+61) fa fdd [a] (ZeN (P.tbl (n+1)) ⟨K,mg⟩ x):=by
 obtain ⟨st,f,fdd,o⟩:=M.defs x fd hl;have e:=hm.symm.trans o.mg;cases e;refine ⟨fdd,fun s v=>?_,fun base=>hps ▸ Zhn M (Zhb hl) o.bd n (Znr M n)⟩;obtain ⟨oc,od,kV,doc,pm,an,cdv,ct,osl,rfl,lk,hcd⟩:=o.bd.fn.ex;have:=o.bd.hb kV doc pm an cdv ct [v] (by rw [hps];rfl);rw [hps] at this;exact BindsTo.of_eq this
end
theorem Zsi{α:Type}{us:List α}(h:us.length=0):us=[]:=List.length_eq_zero_iff.mp h
theorem Zqk{α:Type}{us:List α}{n:Nat}(h:us.length=n+1):∃ a r,us=a::r/\r.length=n:=by
 cases us with
 | nil=>cases h
 | cons a r=>exact ⟨a,r,rfl,Nat.succ.inj h⟩
theorem Zsh{α:Type}{us:List α}(h:us.length=1):∃ a0,us=[a0]:=by
 obtain ⟨a0,r,rfl,h2⟩:=Zqk h;exact ⟨a0,by rw [Zsi h2]⟩
theorem Zsg{α:Type}{us:List α}(h:us.length=2):∃ a0 a1,us=[a0,a1]:=by
 obtain ⟨a0,r,rfl,h2⟩:=Zqk h;obtain ⟨a1,rfl⟩:=Zsh h2;exact ⟨a0,a1,rfl⟩
theorem Zue{α:Type}{us:List α}(h:us.length=3):∃ a0 a1 a2,us=[a0,a1,a2]:=by
 obtain ⟨a0,r,rfl,h2⟩:=Zqk h;obtain ⟨a1,a2,rfl⟩:=Zsg h2;exact ⟨a0,a1,a2,rfl⟩
end IV
end
section
namespace IV
open PySem PySem.Spec PyProof.Rows L2
noncomputable def All(p:α->Prop):List α->Prop
 | []=>True
 | a::l=>p a/\All p l
theorem All.mem:∀ {l:List α},All p l->∀ a∈l,p a
 | [],_,a,h=>by simp at h
 | b::l,⟨h1,h2⟩,a,h=>by
   rcases O2.mp h with rfl|h
   . exact h1
   . exact All.mem h2 a h
theorem lookup_mem{α:Type}{l:List (Str×α)}{a:α}(h:l.lookup x=some a):(x,a)∈l:=by
 induction l with
 | nil=>cases h
 | cons p r ih =>
   rw [OF] at h;by_cases e:x=p.1
   . have:(x==p.1)=true:=by simpa using e
     rw [this] at h;cases h;subst e;exact Oi
   . have:(x==p.1)=false:=by simpa using e
     rw [this] at h;exact Oh _ (ih h)
noncomputable def spL(K:PySem.W.Frag):Sp:=fun vs H Q _=>∃ (a:Addr) (ns:List Int),vs=[.ref a]/\SqL K H a (ns.map V.int)/\ns.length<=63/\ZpC H/\∀ H',Q (.bl true) H'
theorem Zkg:∀ ns:List Int,RDs Y H B (ns.map D.int) (ns.map V.int)
 | []=>.nil
 | n::r=>.cons (.int n) (Zkg r)
theorem Zsd {l:PySem.W.OpenLaw}{q:Program}{loose:List Str}{XP:(Str->Option Value)->Heap->Prop}{YP:World->Heap->Prop}{d:DefRec}{K:Params->PySem.W.Frag}{P:Pg}{kl:Kl}{fd:Fd} (n:Nat) (hn:l.most=some 63) (hdf:d.params.defaults=[]) (hd:d.name=O "law") (hr:Room (2 * (n+1)+61) callerA)
   (hY:∀ (w:World) (h:Heap),YP w h->(K w.params).In h) (hl:P.tb.lookup (O "law")=some fd) (hps:fd.ps=[O "_law_script"])
   (hrun:∀ ns:List Int,ns.length<=63->∃ h',run P (n+1) (O "law") [.ro (ns.map .int)] []=.ok (.bl true) h')
   (M:∀ (w:World) (mg:Str->Option Value) (h:Heap),(K w.params).In h->h.Ns mainGlobals mg->Md l.prog w (K w.params) mg P kl) :
   PySem.W.WalkO q loose XP YP l.row.toRowW d [] (fun f vs=>PySem.call f vs):=by
 refine L2.ZnB (n:=63) (k:=2 * (n+1)+61) (x := "_law_script") (CX:=fun w=>CXF l.prog w) (sp:=fun w=>spL (K w.params)) hn (by decide) hdf hr hY (fun w mg fa h KX G hmg=>?_) (fun _ _ a ns hl hO hS=>⟨a,ns,rfl,hS,hl,hO,fun _=>rfl⟩) fun _ _ _ _ _ z=>by obtain ⟨_,_,_,_,_,_,_,_,_,_,_,_,_,z⟩:=z;exact z
 rw [hd] at hmg;obtain ⟨fdd,hb,F⟩:=Zrm (M w mg h KX G) n hl hps hmg;refine ⟨fdd,hb,fun base _ _=>(F base).imp fun vs H Q E hsp=>?_⟩;obtain ⟨a,ns,rfl,hS,hz,hO,hq⟩:=hsp;obtain ⟨h',e⟩:=hrun ns hz;refine ⟨[.ro (ns.map .int)],[],[],⟨rfl,.nil,fun i o a e=>by simp at e,fun i o e=>by simp at e⟩,.cons (.ro ?_ (Zkg ns)) .nil,?_⟩
 . rcases hS with hS|hS
   . rcases hS with hS|hS
     . rcases hO a with z|⟨o,xs,z⟩<;>(rw [z] at hS;cases hS)
     . exact .inl hS
   . exact .inr hS
 . show Fin _ _ H [] (run P (n+1) (O "law") [.ro (ns.map .int)] []) Q E;rw [e];exact fun b H' μ' _ _ r=>by cases r;exact hq H'
theorem ZpM {K:PySem.W.Frag} (h:K.lookup a=some ⟨.type "tuple",od,.seq its n,sl⟩) (hz:its.size<=sizeLine) (r:Zi vs its.toList):SqT K H a vs :=
 .inr ⟨_,its,n,h,rfl,rfl,hz,r⟩
end IV
end
section
namespace IV
open PySem L2 PyProof.Rows
structure Chk(kl:Kl)(fs:List Str)(x q:Str)(fd:Fd)(st:Stmt):Prop where
 sc:FnScope fd.N fd.ps (ZI st)
 hb:∀ (kV doc pm:Value) (an:Option Addr) (cdv ct:Value) (us:List Value),us.length=fd.ps.length->bindArgs (PySem.W.fnOf x q (Zck st) (Zbb st) (ZI st) .none kV doc pm an cdv ct) ⟨us,[]⟩=pure (fd.ps.zip us)
 ck:chkSs ⟨fd.N,ZI st,fs,true,kl⟩ fd.body (Zbb st)=true
variable {K:PySem.W.Frag}{h:Heap}{mg:Str->Option Value}{kl:Kl}{fs:List Str}{x q C:Str}{fd:Fd}{st:Stmt}{ca:Addr}{P:Pg}
theorem Chk.bd(c:Chk kl fs x q fd st)(F:Fun K x q st f fdd):BodyOk K kl fs x q fd st f fdd:=⟨F,c.sc,c.hb,c.ck⟩
noncomputable def Zr6(K:PySem.W.Frag)(x:Str)(st:Stmt):Prop:=∃ f fdd,PySem.W.nsIn K mainGlobals x=some (some (.ref f))/\Fun K x x st f fdd
noncomputable def Znu(K:PySem.W.Frag)(ca:Addr)(x q:Str)(st:Stmt):Prop:=∃ f fdd,PySem.W.findIn K (.ref ca) x=some (some (.ref f))/\PySem.W.isFn K (.ref f)=true/\PySem.W.keepIn K (.ref f)=true/\Fun K x q st f fdd
theorem Zpb(X:K.In h)(G:h.Ns mainGlobals mg)(d:Zr6 K x st)(c:Chk kl fs x x fd st):∃ st f fdd,DefOk K mg kl fs x fd st f fdd:=by
 obtain ⟨f,fdd,a,F⟩:=d;exact ⟨st,f,fdd,c.bd F,PySem.W.mg_of X G a⟩
theorem ZoK(X:K.In h)(G:h.Ns mainGlobals mg)(y:PySem.W.nsIn K mainGlobals C=some (some (.ref ca)))(cl:Cls K ca)(d:Znu K ca x q st)(c:Chk kl (P.tb.map (·.1)) x q fd st)(e:P.look (mnm C x)=some fd):∃ a f fdd fd st q,mg C=some (.ref a)/\Cls K a/\Meth K a x f/\P.look (mnm C x)=some fd/\BodyOk K kl (P.tb.map (·.1)) x q fd st f fdd:=by
 obtain ⟨f,fdd,u1,u2,u3,F⟩:=d;exact ⟨ca,f,fdd,fd,st,q,PySem.W.mg_of X G y,cl,⟨u1,u2,u3⟩,e,c.bd F⟩
theorem Zrd (X:K.In h) (G:h.Ns mainGlobals mg) (y:PySem.W.nsIn K mainGlobals C=some (some (.ref ca))) (m:PySem.W.makesIn K ca=true) (k:PySem.W.keepIn K (.ref ca)=true) (d:Znu K ca (O "__init__") q st) (c:Chk kl (P.tb.map (·.1)) (O "__init__") q fd st) (e:P.look (mnm C (O "__init__"))=some fd):∃ a f fdd fd st q,mg C=some (.ref a)/\Mk K a f/\P.look (mnm C (O "__init__"))=some fd/\BodyOk K kl (P.tb.map (·.1)) (O "__init__") q fd st f fdd:=by
 obtain ⟨f,fdd,u1,u2,u3,F⟩:=d;exact ⟨ca,f,fdd,fd,st,q,PySem.W.mg_of X G y,⟨m,u1,u2,k⟩,e,c.bd F⟩
end IV
end
section
namespace IV
open PySem L2 PyProof.Rows
noncomputable abbrev Ml:=Str×Str×Fd×Nat×Nat
variable {K:PySem.W.Frag}{h:Heap}{mg:Str->Option Value}{kl:Kl}{fs:List Str}{C:Str}{ca:Addr}{P:Pg}
theorem Zkm(X:K.In h)(G:h.Ns mainGlobals mg){top:Nat->Stmt}:∀ {l:List (Str×Fd×Nat)},All (fun p=>Zr6 K p.1 (top p.2.2)) l->All (fun p=>Chk kl fs p.1 p.1 p.2.1 (top p.2.2)) l->All (fun p:Str×Fd=>∃ st f fdd,DefOk K mg kl fs p.1 p.2 st f fdd) (l.map fun p=>(p.1,p.2.1))
 | [],_,_=>trivial
 | _::_,d,c=>⟨Zpb X G d.1 c.1,Zkm X G d.2 c.2⟩
theorem Zj3(X:K.In h)(G:h.Ns mainGlobals mg)(y:PySem.W.nsIn K mainGlobals C=some (some (.ref ca)))(cl:Cls K ca){mt:Nat->Nat->Stmt}:∀ {l:List Ml},All (fun p=>Znu K ca p.1 p.2.1 (mt p.2.2.2.1 p.2.2.2.2)) l->All (fun p=>Chk kl (P.tb.map (·.1)) p.1 p.2.1 p.2.2.1 (mt p.2.2.2.1 p.2.2.2.2)) l->All (fun p=>P.look (mnm C p.1)=some p.2.2.1) l->All (fun p:Str×Str=>∃ a f fdd fd st q,mg p.1=some (.ref a)/\Cls K a/\Meth K a p.2 f/\P.look (mnm p.1 p.2)=some fd/\BodyOk K kl (P.tb.map (·.1)) p.2 q fd st f fdd) (l.map fun p=>(C,p.1))
 | [],_,_,_=>trivial
 | _::_,d,c,e=>⟨ZoK X G y cl d.1 c.1 e.1,Zj3 X G y cl d.2 c.2 e.2⟩
theorem ZhW(X:K.In h)(G:h.Ns mainGlobals mg):∀ {l:List Str},All (fun x=>PySem.W.nsIn K mainGlobals x=some none) l->All (fun x=>mg x=none) l
 | [],_=>trivial
 | _::_,d=>⟨PySem.W.mg_none_of X G d.1,ZhW X G d.2⟩
end IV
end
section
set_option tactic.hygienic false
namespace IV
open PySem L2
theorem Zg8(h:Str.ofString a=Str.ofString b):a=b:=by
 have e:∀ s:String,(Str.ofString s).cps.toList=s.toList.map Char.toNat:=fun s=>by
   show (cpsOfBytes 0 0 s.toByteArray.data.toList).toArray.toList=_;rw [cpsOfBytes_string]
 have h1:=congrArg (fun s:Str=>s.cps.toList) h;simp only [e] at h1;have h2:a.toList=b.toList:=by
   have inj:∀ {x y:Char},x.toNat=y.toNat->x=y:=fun {x y} q=>by
     have:x.val=y.val:=UInt32.toNat_inj.mp q;exact Char.ext this
   exact (List.map_inj_right fun x y q=>inj q).mp h1
 exact String.toList_inj.mp h2
@[simp] theorem ofString_eq(a b:String):(Str.ofString a=Str.ofString b)↔a=b:=⟨Zg8,fun h=>h ▸ rfl⟩
@[simp] theorem ZoC(a b:String):(Str.ofString a==Str.ofString b)=(a==b):=by
 rw [Bool.eq_iff_iff];simp
noncomputable def Un(k:γ):Type:=Unit
noncomputable def un:Un k:=()
noncomputable def R.bnd(r:R α)(k:α->Hd->R β)(u:Un k:=un):R β:=r.bind k
@[simp] theorem Zh:R.bnd (.ok a h) k u=k a h:=rfl
@[simp] theorem Zua:R.bnd (R.bad:R α) k u=.bad:=rfl
section
variable {T:Tb}{S:Ev}{h:Hd}
@[simp] theorem bind_ok:(R.ok a h).bind k=k a h:=rfl
@[simp] theorem bind_bad:(R.bad:R α).bind k=.bad:=rfl
@[simp] theorem ofO_some:R.ofO (some a) h=.ok a h:=rfl
@[simp] theorem Zsa:(R.ok a h).plain=.ok a h:=rfl
@[simp] theorem Zu3{i}:ev T (.var i) S h=R.ofO (S[i]?).join h:=rfl
@[simp] theorem ZrI{d}:ev T (.cst d) S h=.ok d h:=rfl
@[simp] theorem ZmZ{x}:ev T (.glo x) S h=R.ofO (T.G x) h:=rfl
@[simp] theorem ZrL{op a b}:ev T (.bin op a b) S h=(ev T a S h).bnd fun x h1=>(ev T b S h1).bnd fun y h2=>opB op x y h2:=rfl
@[simp] theorem ZrJ{op a b}:ev T (.cmp op a b) S h=(ev T a S h).bnd fun x h1=>(ev T b S h1).bnd fun y h2=>opC T.GD op x y h2:=rfl
@[simp] theorem Zu6{a}:ev T (.neg a) S h=(ev T a S h).bnd fun x h1=>match x with
   | .int i=>.ok (.int (-i)) h1
   | _=>.bad:=rfl
@[simp] theorem Zvr{a}:ev T (.nt a) S h=(ev T a S h).bnd fun x h1=>match x with
   | .bl b=>.ok (.bl (!b)) h1
   | _=>.bad:=rfl
@[simp] theorem Zba{es}:ev T (.ands es) S h=evAnd T es S h:=rfl
@[simp] theorem ZrG{es}:ev T (.ors es) S h=evOr T es S h:=rfl
@[simp] theorem Zbr{e}:evAnd T (.cons e .nil) S h=ev T e S h:=rfl
@[simp] theorem Zab{e e' r}:evAnd T (.cons e (.cons e' r)) S h=(ev T e S h).bnd fun x h1=>match x with
     | .bl true=>evAnd T (.cons e' r) S h1
     | .bl false=>.ok (.bl false) h1
     | _=>.bad:=rfl
@[simp] theorem Zm2{e}:evOr T (.cons e .nil) S h=ev T e S h:=rfl
@[simp] theorem Zm1{e e' r}:evOr T (.cons e (.cons e' r)) S h=(ev T e S h).bnd fun x h1=>match x with
     | .bl true=>.ok (.bl true) h1
     | .bl false=>evOr T (.cons e' r) S h1
     | _=>.bad:=rfl
@[simp] theorem ZmY{c a b}:ev T (.ite c a b) S h=(tst T c S h).bnd fun c h1=>if c then ev T a S h1 else ev T b S h1:=rfl
@[simp] theorem Zo5{es}:ev T (.tupl es) S h=(evs T es S h).bnd fun xs h1=>if xs.length<=sizeLine then .ok (.tup xs) h1 else .bad:=rfl
@[simp] theorem Zkk{es}:ev T (.lstl es) S h=(evs T es S h).bnd fun xs h1=>if xs.length<=sizeLine then Za3 (.lst xs) h1 else .bad:=rfl
@[simp] theorem Zkl{a i}:ev T (.ix a i) S h=(ev T a S h).bnd fun x h1=>(ev T i S h1).bnd fun y h2=>Zdr T.GD x y h2:=rfl
@[simp] theorem Zp0{a lo hi}:ev T (.sl a lo hi) S h=(ev T a S h).bnd fun x h1=>(evo T lo S h1).bnd fun l h2=>(evo T hi S h2).bnd fun u h3=>Zk0 x l u h3:=rfl
@[simp] theorem ZrK{f es}:ev T (.blt f es) S h=(evs T es S h).bnd fun xs h1=>Zcq T.GD f xs h1:=rfl
@[simp] theorem Zo8{f es}:ev T (.call f es) S h=(evs T es S h).bnd fun xs h1=>T.C f xs h1:=rfl
@[simp] theorem Zo6{m o es}:ev T (.meth m o es) S h=(ev T o S h).bnd fun x h1=>if ZdB x h1 then (evs T es S h1).bnd fun xs h2=>Zbp m x xs h2 else .bad:=rfl
@[simp] theorem Zo7{NC js it g c e}:ev T (.comp NC js it g c e) S h=(evi T it S h).bnd fun w h1=>(Zu w.src g (tsto T c) (ev T e) w.xs (ZeI js S) [] h1).bnd fun xs h2=>Za3 (.lst xs) h2:=rfl
@[simp] theorem Zt9{e d}:ev T (.maxd e d) S h=(ev T e S h).bnd fun x h1=>(ev T d S h1).bnd fun y h2=>Zqb x y h2:=rfl
@[simp] theorem ZtG{ps}:ev T (.dictl ps) S h=(evs T ps S h).bnd fun xs h1=>match Zc7 xs with
   | some kvs=>if kvs.length<=15 then Za3 (.dic (Zd1 [] kvs)) h1 else .bad
   | none=>.bad:=rfl
@[simp] theorem Zm0{Cs o f}:ev T (.att Cs o f) S h=(ev T o S h).bnd fun x h1=>Zd6 Cs f x h1:=rfl
@[simp] theorem ZtE{C es}:ev T (.mk C es) S h=(evs T es S h).bnd fun xs h1=>Zmx T.C C xs h1:=rfl
@[simp] theorem ZrH{C m o es}:ev T (.mcl C m o es) S h=(ev T o S h).bnd fun x h1=>match ZL x h1 with
   | some (C',fs)=>if C'=C/\fs.lookup m=none then (evs T es S h1).bnd fun xs h2=>T.C (mnm C m) (x::xs) h2 else .bad
   | none=>.bad:=rfl
@[simp] theorem Zt8{e}:ev T (.trev e) S h=(ev T e S h).bnd fun x h1=>Zqa x h1:=rfl
@[simp] theorem Zu4{o e}:ev T (.tix o e) S h=(ev T o S h).bnd fun x h1=>if Ztr x then (ev T e S h1).bnd fun y h2=>ZtT x y h2 else .bad:=rfl
@[simp] theorem ZrE{m o e}:ev T (.tmt m o e) S h=(ev T o S h).bnd fun x h1=>if Zts x then (ev T e S h1).bnd fun y h2=>txm m x y h2 else .bad:=rfl
@[simp] theorem ZrF{a b}:ev T (.sin a b) S h=(ev T a S h).bnd fun x h1=>(ev T b S h1).bnd fun y h2=>Znk x y h2:=rfl
@[simp] theorem Zu2{e}:evi T (.tw e) S h=(ev T e S h).bnd fun x h1=>match x with
   | .str y=>.ok ⟨[],y.cps.toList.map fun c=>.str ⟨#[c]⟩⟩ h1
   | _=>.bad:=rfl
@[simp] theorem Zu7{a b}:ev T (.dne a b) S h=(ev T a S h).bnd fun x h1=>(ev T b S h1).bnd fun y h2=>ZtU T.GD x y h2:=rfl
@[simp] theorem Zsc{Cs o f e}:xs1 T (.seta Cs o f e) S h=(ev T e S h).bnd fun d h1=>(ev T o S h1).bnd fun x h2=>(Zfs Cs f x d h2).bnd fun _ h3=>.ok (.nx,S) h3:=rfl
@[simp] theorem Zls{Cs o f e}:xs1 T (.auga Cs o f e) S h=(ev T o S h).bnd fun x h1=>(Zd6 Cs f x h1).bnd fun v h2=>(ev T e S h2).bnd fun y h3=>match v,y with
   | .int a,.int b=>if (ZL x h1).map (·.1)=(ZL x h3).map (·.1) then (Zfs Cs f x (.int (a+b)) h3).bnd fun _ h4=>.ok (.nx,S) h4 else .bad
   | _,_=>.bad:=rfl
@[simp] theorem Zt6:evs T .nil S h=.ok [] h:=rfl
@[simp] theorem ZmU{e es}:evs T (.cons e es) S h=(ev T e S h).bnd fun x h1=>(evs T es S h1).bnd fun xs h2=>.ok (x::xs) h2:=rfl
@[simp] theorem ZtD:evo T none S h=.ok none h:=rfl
@[simp] theorem ZmV{e}:evo T (some e) S h=(ev T e S h).bnd fun x h1=>match x with
   | .int i=>.ok (some i) h1
   | _=>.bad:=rfl
@[simp] theorem ZlF{e}:tst T (.ex e) S h=(ev T e S h).bnd fun x h1=>R.ofO (Zc6 T.GD x h1) h1:=rfl
@[simp] theorem ZhH{ts}:tst T (.ands ts) S h=tstAnd T ts S h:=rfl
@[simp] theorem Zfc{ts}:tst T (.ors ts) S h=tstOr T ts S h:=rfl
@[simp] theorem Zqo{a}:tst T (.nt a) S h=(tst T a S h).bnd fun c h1=>.ok (!c) h1:=rfl
@[simp] theorem Zqp{t}:tstAnd T (.one t) S h=tst T t S h:=rfl
@[simp] theorem Zes{t ts}:tstAnd T (.cons t ts) S h=(tst T t S h).bnd fun c h1=>if c then tstAnd T ts S h1 else .ok false h1:=rfl
@[simp] theorem Zr9{t}:tstOr T (.one t) S h=tst T t S h:=rfl
@[simp] theorem Zag{t ts}:tstOr T (.cons t ts) S h=(tst T t S h).bnd fun c h1=>if c then .ok true h1 else tstOr T ts S h1:=rfl
@[simp] theorem Zr8:tsto T none S h=.ok true h:=rfl
@[simp] theorem Zr7{t}:tsto T (some t) S h=tst T t S h:=rfl
@[simp] theorem ZmW{e}:evi T (.pl e) S h=(ev T e S h).bnd fun x h1=>R.ofO (Zfk x h1) h1:=rfl
@[simp] theorem Zo3{e}:evi T (.rng e) S h=(ev T e S h).bnd fun x h1=>match x with
   | .int j=>if Zaj j then .ok ⟨[],ZJ 0 j.toNat⟩ h1 else .bad
   | _=>.bad:=rfl
@[simp] theorem Zu5{a b}:ev T (.rpn a b) S h=(ev T a S h).bnd fun x h1=>(shD x h1).bnd fun p h1=>(ev T b S h1).bnd fun y h2=>(shD y h2).bnd fun q h3=>.ok (.bl (!decide (p=q))) h3:=rfl
@[simp] theorem Zo4{e}:evi T (.enu e) S h=(ev T e S h).bnd fun x h1=>R.ofO ((ZhF x h1).map fun w=>⟨w.src,Zb1 w.xs⟩) h1:=rfl
@[simp] theorem Zt7{e}:evi T (.rev e) S h=(ev T e S h).bnd fun x h1=>R.ofO ((Zlx x h1).map fun w=>⟨w.src,w.xs.reverse⟩) h1:=rfl
@[simp] theorem Znw{e}:xs1 T (.ret e) S h=(ev T e S h).bnd fun x h1=>.ok (.rt x,S) h1:=rfl
@[simp] theorem Znv{g e}:xs1 T (.set g e) S h=(ev T e S h).bnd fun x h1=>(R.ofO (Zbt g x S) h1).bnd fun ρ1 h2=>.ok (.nx,ρ1) h2:=rfl
@[simp] theorem Znx{o i e}:xs1 T (.put o i e) S h=(ev T e S h).bnd fun x h1=>(ev T o S h1).bnd fun y h2=>(ev T i S h2).bnd fun z h3=>(ZbU y z x h3).bnd fun _ h4=>.ok (.nx,S) h4:=rfl
@[simp] theorem Zny{e}:xs1 T (.drp e) S h=(ev T e S h).bnd fun _ h1=>.ok (.nx,S) h1:=rfl
@[simp] theorem Zjv{c a b}:xs1 T (.iff c a b) S h=(tst T c S h).bnd fun t h1=>if t then xs2 T a S h1 else xs2 T b S h1:=rfl
@[simp] theorem Zt0{c b}:xs1 T (.whl c b) S h=Z7 (tst T c) (xs2 T b) T.L S h:=rfl
@[simp] theorem Zlr{g it b}:xs1 T (.forr g it b) S h=(evi T it S h).bnd fun w h1=>ZN w.src g (xs2 T b) w.xs S h1:=rfl
@[simp] theorem ZtZ:xs2 T .nil S h=.ok (.nx,S) h:=rfl
@[simp] theorem ZhD{s r}:xs2 T (.cons s r) S h=(xs1 T s S h).bnd fun p h1=>match p with
   | (.nx,ρ1)=>xs2 T r ρ1 h1
   | p=>.ok p h1:=rfl
theorem Za(e:xs1 T s S h=.ok (.nx,ρ1) h1):xs2 T (.cons s r) S h=xs2 T r ρ1 h1:=by rw [ZhD,e];rfl
theorem Zc(e:xs1 T s S h=.ok (.rt d,ρ1) h1):xs2 T (.cons s r) S h=.ok (.rt d,ρ1) h1:=by rw [ZhD,e];rfl
@[simp] theorem Zub{i d}:Zbt (.nm i) d S=some (S.set i (some d)):=rfl
@[simp] theorem ZtS{i j a b}:Zbt (.two i j) (.tup [a,b]) S=some ((S.set i (some a)).set j (some b)):=rfl
@[simp] theorem ZuA:Ze (.ok (.rt d,S) h)=.ok d h:=rfl
@[simp] theorem ZuB:Ze (.ok (.nx,S) h)=.ok .non h:=rfl
end
@[simp] theorem ZgC:seqOf (.tup xs) h=some xs:=rfl
@[simp] theorem Zs5:Zg6 f (.int i) (.int j) h=.ok (.bl (f i j)) h:=rfl
section
variable {GD:Str->Option (List (Key×D))}{h:Hd}
@[simp] theorem Zby{x y}:opC GD .Eq x y h=Zdt false x y h:=rfl
@[simp] theorem Zi5{x y}:opC GD .NotEq x y h=Zdt true x y h:=rfl
@[simp] theorem ZuO{i j}:opC GD .Lt (.int i) (.int j) h=.ok (.bl (decide (i<j))) h:=rfl
@[simp] theorem ZuP{i j}:opC GD .LtE (.int i) (.int j) h=.ok (.bl (decide (i<=j))) h:=rfl
@[simp] theorem ZuR{i j}:opC GD .Gt (.int i) (.int j) h=.ok (.bl (decide (j<i))) h:=rfl
@[simp] theorem ZuS{i j}:opC GD .GtE (.int i) (.int j) h=.ok (.bl (decide (j<=i))) h:=rfl
@[simp] theorem ZuQ{x}:opC GD .Is x .non h=.ok (.bl (decide (x=.non))) h:=rfl
@[simp] theorem Zs7{x}:opC GD .IsNot x .non h=.ok (.bl (!decide (x=.non))) h:=rfl
@[simp] theorem Zg7{s n}:opC GD .NotIn (.str s) (.kd n) h=match GD n with
   | some kvs=>.ok (.bl (!(Zad kvs (.inr s)).isSome)) h
   | none=>.bad:=by
 show Za5 GD true (.str s) (.kd n) h=_;unfold Za5;simp only [seqOf,lstOf,dicOf,keyOf];cases GD n<;>rfl
theorem Zfj(ss:List Str):(ss.map D.str).all D.flat=true:=by
 rw [OC];intro x hx;obtain ⟨s,_,rfl⟩:=List.mem_map.mp hx;rfl
theorem any_words(ss:List Str)(x:Str):((ss.map D.str).any fun z=>eqF z (.str x))=decide (x∈ss):=by
 induction ss with
 | nil=>rfl
 | cons s r ih =>
   rw [Op,List.any_cons,ih];show ((s==x) || decide (x∈r))=_;by_cases e:s=x
   . subst e;simp
   . have:(s==x)=false:=by simpa using e
     rw [this];have e':¬ x=s:=fun q=>e q.symm;simp [e']
theorem Zdu{ss:List Str}{x:Str}:opC GD .In (.str x) (.tup (ss.map .str)) h=.ok (.bl (decide (x∈ss))) h:=by
 show Za5 GD false (.str x) (.tup (ss.map .str)) h=_;unfold Za5;rw [ZgC];simp only [Zfj,any_words];rfl
theorem ZbG{ss:List Str}{x:Str}:opC GD .NotIn (.str x) (.tup (ss.map .str)) h=.ok (.bl (!decide (x∈ss))) h:=by
 show Za5 GD true (.str x) (.tup (ss.map .str)) h=_;unfold Za5;rw [ZgC];simp only [Zfj,any_words];rfl
@[simp] theorem Zmt{xs i}:Zdr GD (.tup xs) (.int i) h=R.ofO (atI xs i) h:=rfl
@[simp] theorem Zt3{xs i}:Zdr GD (.ro xs) (.int i) h=R.ofO (atI xs i) h:=rfl
@[simp] theorem Zow{n s}:Zdr GD (.kd n) (.str s) h=match GD n with
   | some kvs=>R.ofO (Zad kvs (.inr s)) h
   | none=>.bad:=rfl
theorem ZG{i k xs}(e:h[i]? = some (.lst xs)):Zdr GD (.ref i) (.int k) h=R.ofO (atI xs k) h:=by
 unfold Zdr;simp only [seqOf,lstOf,e]
@[simp] theorem ZkA{α:Type}{x:α}{l:List α}:atI (x::l) 0=some x:=by simp [atI,ixN]
theorem ZbE{α:Type}{l:List α}{k:Nat}:atI l (k:Int)=l[k]? := by
 unfold atI ixN;by_cases hk:k<l.length
 . simp [hk]
 . simp [hk]
@[simp] theorem Zvu{α:Type}{x y:α}{l:List α}:atI (x::y::l) 1=some y:=ZbE (k:=1)
@[simp] theorem Zvt{α:Type}{x y z:α}{l:List α}:atI (x::y::z::l) 2=some z:=ZbE (k:=2)
@[simp] theorem Zvs{α:Type}{x y z w:α}{l:List α}:atI (x::y::z::w::l) 3=some w:=ZbE (k:=3)
@[simp] theorem Zmr{xs l u}:Zk0 (.tup xs) l u h=.ok (.tup (cutD xs l u)) h:=rfl
@[simp] theorem Zsb{x:D}{l:List D}:cutD (x::l) (some 1) none=l:=by
 simp [cutD,HT.sIx]
@[simp] theorem Zt2{b}:Zc6 GD (.bl b) h=some b:=rfl
@[simp] theorem Zso{i}:Zc6 GD (.int i) h=some (i != 0):=rfl
@[simp] theorem Zsm{xs}:Zc6 GD (.tup xs) h=some (!xs.isEmpty):=rfl
@[simp] theorem Zsn:Zc6 GD .non h=some false:=rfl
@[simp] theorem Zt5{i j}:opB .Add (.int i) (.int j) h=.ok (.int (i+j)) h:=rfl
@[simp] theorem Zt4{i j}:opB .Sub (.int i) (.int j) h=.ok (.int (i - j)) h:=rfl
theorem Z1(hj:0<j):opB .Mod (.int i) (.int j) h=.ok (.int (i % j)) h:=if_pos hj
theorem Zch(hj:0<j/\j<1073741824):opB .FloorDiv (.int i) (.int j) h=.ok (.int (i / j)) h:=if_pos hj
theorem Zcg(hj:i.natAbs<2 ^ 2000/\j.natAbs<2 ^ 2000):opB .Mult (.int i) (.int j) h=.ok (.int (i * j)) h:=if_pos hj
theorem ZjY(hl:xs.length+ys.length<=sizeLine):opB .Add (.tup xs) (.tup ys) h=.ok (.tup (xs++ys)) h:=if_pos hl
@[simp] theorem Zam:Zdt n (.str x) (.str y) h=.ok (.bl (if n then !decide (x=y) else decide (x=y))) h:=by
 have e:PyData.eqv (.str x) (.str y)=decide (x=y):=by
   show (x==y)=_;rw [Bool.beq_eq_decide_eq]
 have q:Zdt n (.str x) (.str y) h=if min (PyData.str x).depth (PyData.str y).depth<=1100 then .ok (.bl (if n then !PyData.eqv (.str x) (.str y) else PyData.eqv (.str x) (.str y))) h else .bad:=rfl;rw [q,if_pos (by simp [PyData.depth]),e]
@[simp] theorem Zds:Zdt n (.int x) (.int y) h=.ok (.bl (if n then !decide (x=y) else decide (x=y))) h:=by
 have e:PyData.eqv (.int x) (.int y)=decide (x=y):=by
   show (x==y)=_;rw [Bool.beq_eq_decide_eq]
 have q:Zdt n (.int x) (.int y) h=if min (PyData.int x).depth (PyData.int y).depth<=1100 then .ok (.bl (if n then !PyData.eqv (.int x) (.int y) else PyData.eqv (.int x) (.int y))) h else .bad:=rfl;rw [q,if_pos (by simp [PyData.depth]),e]
end
theorem Zj(e:P.tb.lookup f=some fd)(hl:ds.length=fd.ps.length):run P (n+1) f ds h=Ze (xs2 ⟨P.G,P.GD,run P n,P.L⟩ fd.body (ZaG fd.N ds) h):=by
 rw [run,show P.look f=some fd by unfold Pg.look;rw [e]];simp only;rw [if_pos hl]
theorem ZdW(hn:P.tb.lookup f=none)(e:P.ms.lookup f=some fd)(hl:ds.length=fd.ps.length):run P (n+1) f ds h=Ze (xs2 ⟨P.G,P.GD,run P n,P.L⟩ fd.body (ZaG fd.N ds) h):=by
 rw [run,show P.look f=some fd by unfold Pg.look;rw [hn];exact e];simp only;rw [if_pos hl]
end IV
namespace IV
open PySem L2
section
variable {h:Hd}{x y z w:DO}{r:List DO}
@[simp] theorem Znn:(h++x::r)[h.length]? = some x:=by simp
end
@[simp] theorem ZoH:Za3 o h=.ok (.ref h.length) (h++[o]):=rfl
section
variable {h:Hd}
theorem Zdw(e:h[i]? = some (.lst ys))(hz:ys.length<sizeLine):Zbp .app (.ref i) [d] h=.ok .non (h.set i (.lst (ys++[d]))):=by
 simp only [Zbp,e,ZfA,ZmC];rw [if_pos hz]
theorem Zlc(e:h[i]? = some (.lst ys)):ZdB (.ref i) h=true:=by simp [ZdB,e]
theorem ZnD(e:h[i]? = some (.lst ys)):Zc6 GD (.ref i) h=some (!ys.isEmpty):=by simp [Zc6,e]
@[simp] theorem Ztz:ZN [] g body [] S h=.ok (.nx,S) h:=rfl
theorem ZgL:ZN [] g body (d::ds) S h=match Zbt g d S with
     | none=>.bad
     | some ρ1=>(body ρ1 h).bnd fun p h2=>match p with
       | (.nx,ρ2)=>ZN [] g body ds ρ2 h2
       | (.ct,ρ2)=>ZN [] g body ds ρ2 h2
       | (.bk,ρ2)=>.ok (.nx,ρ2) h2
       | (.rt d,ρ2)=>.ok (.rt d,ρ2) h2:=rfl
theorem Z8:Zu src g test elt (d::ds) S acc h=if Wk.stays src h/\acc.length<sizeLine then match Zbt g d S with
     | none=>.bad
     | some ρ1=>(test ρ1 h).plain.bnd fun b h1=>if b then (elt ρ1 h1).plain.bnd fun x h2=>Zu src g test elt ds S (acc++[x]) h2 else Zu src g test elt ds S acc h1
   else .bad:=rfl
theorem Za4:Z7 test body (n+1) S h=(test S h).bnd fun b h1=>if b then (body S h1).bnd fun p h2=>match p with
     | (.nx,ρ2)=>Z7 test body n ρ2 h2
     | (.ct,ρ2)=>Z7 test body n ρ2 h2
     | (.bk,ρ2)=>.ok (.nx,ρ2) h2
     | (.rt d,ρ2)=>.ok (.rt d,ρ2) h2
   else .ok (.nx,S) h1:=rfl
end
inductive Wd where
 | add|sub|mul|lt
 deriving DecidableEq
noncomputable def Wd.s:Wd->Str
 | .add=>O "+"
 | .sub=>O "-"
 | .mul=>O "*"
 | .lt=>O "<"
inductive T where
 | num (n:Int)|name (x:Str)|fn (x:Str) (e:T)|rcc (f x:Str) (e:T)|call (f a:T)|iff (c t e:T)|op (w:Wd) (a b:T)
noncomputable def T.d:T->D
 | .num n=>.tup [.str (O "num"),.int n]
 | .name x=>.tup [.str (O "name"),.str x]
 | .fn x e=>.tup [.str (O "fn"),.str x,e.d]
 | .rcc f x e=>.tup [.str (O "rec"),.str f,.str x,e.d]
 | .call f a=>.tup [.str (O "call"),f.d,a.d]
 | .iff c t e=>.tup [.str (O "if"),c.d,t.d,e.d]
 | .op w a b=>.tup [.str w.s,a.d,b.d]
noncomputable def T.parts:T->List T
 | .num _|.name _=>[]
 | .fn _ e|.rcc _ _ e=>[e]
 | .call f a=>[f,a]
 | .iff c t e=>[c,t,e]
 | .op _ a b=>[a,b]
noncomputable def T.places:T->List T
 | .num n=>[.num n]
 | .name x=>[.name x]
 | .fn x e=>.fn x e::e.places
 | .rcc f x e=>.rcc f x e::e.places
 | .call f a=>.call f a::(f.places++a.places)
 | .iff c t e=>.iff c t e::(c.places++(t.places++e.places))
 | .op w a b=>.op w a b::(a.places++b.places)
noncomputable def T.size(t:T):Nat:=t.places.length
theorem T.places_parts(t:T):t.places=t::t.parts.flatMap T.places:=by
 cases t<;>simp [T.places,T.parts]
end IV
end
section
namespace IV
open PySem L2
section
variable {U:Tb}{S:Ev}{h h1:Hd}{f:Str}{as:List D}{r:R D}
theorem Zaa(e:tst U c S h=.ok true h1):xs1 U (.iff c a b) S h=xs2 U a S h1:=by rw [Zjv,e];rfl
theorem Zx(e:tst U c S h=.ok false h1):xs1 U (.iff c a b) S h=xs2 U b S h1:=by rw [Zjv,e];rfl
theorem Zo(q:ev U e S h=.ok d h1):xs1 U (.ret e) S h=.ok (.rt d,S) h1:=by rw [Znw,q];rfl
theorem Zw(q:ev U e S h=.ok d h1):xs1 U (.set (.nm i) e) S h=.ok (.nx,S.set i (some d)) h1:=by rw [Znv,q];rfl
theorem ZaQ(q:evi U it S h=.ok w h1):xs1 U (.forr g it b) S h=ZN w.src g (xs2 U b) w.xs S h1:=by rw [Zlr,q];rfl
theorem Zd(p:ev U a S h=.ok x h1)(q:ev U b S h1=.ok y h2):ev U (.bin op a b) S h=opB op x y h2:=by rw [ZrL,p];simp only [Zh,q]
theorem Zs(p:ev U a S h=.ok x h1)(q:ev U b S h1=.ok y h2):ev U (.cmp op a b) S h=opC U.GD op x y h2:=by rw [ZrJ,p];simp only [Zh,q]
theorem Zao(q:ev U e S h=.ok (.bl b) h1):tst U (.ex e) S h=.ok b h1:=by rw [ZlF,q];rfl
theorem ZP{b c:Bool}{y:R Bool}(q:y=.ok b h1)(e:b=c):y=.ok c h1:=e ▸ q
noncomputable def tlS:Sxs->Sxs
 | .cons _ r=>r
 | .nil=>.nil
theorem Zb(p:ev U a S h=.ok x h1)(q:evs U es S h1=.ok xs h2):evs U (.cons a es) S h=.ok (x::xs) h2:=by rw [ZmU,p,Zh,q];rfl
theorem Zu8(p:evs U es S h=.ok xs h1):ev U (.call g es) S h=U.C g xs h1:=by rw [Zo8,p];rfl
theorem Zp8(a:atI xs z=some d)(p:evs U es S h=.ok xs h)(q:ev U e S (h++[.lst xs])=.ok (.int z) (h++[.lst xs]))(hz:xs.length<=1000):ev U (.ix (.lstl es) e) S h=.ok d (h++[.lst xs]):=by
 rw [Zkl,Zkk,p,Zh,if_pos (OE hz (by decide)),ZoH,Zh,q,Zh,ZG (xs:=xs) (by simp),a];rfl
theorem Zn(e:U.C g xs h1=y)(p:evs U es S h=.ok xs h1):ev U (.call g es) S h=y:=(Zu8 p).trans e
theorem Zcp(p:evs U es S h=.ok xs h1)(hz:xs.length<=1000):ev U (.tupl es) S h=.ok (.tup xs) h1:=by rw [Zo5,p,Zh,if_pos (OE hz (by decide))]
theorem Zgc(p:ev U a S h=.ok (.str x) h1)(q:ev U b S h1=.ok (.str y) h2):tst U (.ex (.cmp .Eq a b)) S h=.ok (decide (x=y)) h2:=Zao ((Zs p q).trans (by rw [Zby,Zam];rfl))
theorem Zjl(p:ev U a S h=.ok (.int x) h1)(q:ev U b S h1=.ok (.int y) h2):tst U (.ex (.cmp .Eq a b)) S h=.ok (decide (x=y)) h2:=Zao ((Zs p q).trans (by rw [Zby,Zds];rfl))
theorem ZH(p:ev U a S h=.ok x h1)(q:ev U b S h1=.ok y h2):ev U (.ix a b) S h=Zdr U.GD x y h2:=by rw [Zkl,p,Zh,q,Zh]
theorem Znp(p:tst U a S h=.ok true h1)(q:tst U b S h1=.ok c h2):tst U (.ands (.cons a (.one b))) S h=.ok c h2:=by rw [ZhH,Zes,p];exact q
theorem Znq(p:tst U a S h=.ok false h1):tst U (.ands (.cons a (.one b))) S h=.ok false h1:=by rw [ZhH,Zes,p];rfl
theorem ZuN(p:tst U a S h=.ok true h1):tst U (.ors (.cons a (.one b))) S h=.ok true h1:=by rw [Zfc,Zag,p];rfl
theorem ZsZ(p:tst U a S h=.ok false h1)(q:tst U b S h1=.ok c h2):tst U (.ors (.cons a (.one b))) S h=.ok c h2:=by rw [Zfc,Zag,p];exact q
end
end IV
end
section
set_option tactic.hygienic false
namespace Gn
open PySem L2 IV
noncomputable def ZaV:Sxs:=(.cons (.iff (.ex (.cmp .NotIn (.ix (.var 0) (.cst (.int 0))) (.glo (O "FORMS")))) (.cons (.ret (.tupl .nil)) .nil) .nil) (.cons (.ret (.sl (.var 0) (some (.bin .Add (.cst (.int 1)) (.ix (.ix (.glo (O "FORMS")) (.ix (.var 0) (.cst (.int 0)))) (.cst (.int 0))))) none)) .nil))
noncomputable def ZfL:Fd:=⟨[(O "E")],[(O "E")],ZaV⟩
noncomputable def ZiB:Sxs:=(.cons (.set (.nm 1) (.lstl .nil)) (.cons (.set (.nm 2) (.lstl (.cons (.var 0) .nil))) (.cons (.whl (.ex (.var 2)) (.cons (.set (.nm 3) (.meth .pop (.var 2) .nil)) (.cons (.drp (.meth .app (.var 1) (.cons (.var 3) .nil))) (.cons (.forr (.nm 4) (.rev (.call (O "parts_of") (.cons (.var 3) .nil))) (.cons (.drp (.meth .app (.var 2) (.cons (.var 4) .nil))) .nil)) .nil)))) (.cons (.ret (.var 1)) .nil))))
noncomputable def ZdE:Fd:=⟨[(O "E")],[(O "E"),(O "found"),(O "waiting"),(O "place"),(O "part")],ZiB⟩
noncomputable def ZaA:List (Key×D):=[(.inr (O "fn"),.tup [.int 1,.int 1]),(.inr (O "rec"),.tup [.int 2,.int 1]),(.inr (O "call"),.tup [.int 0,.int 2]),(.inr (O "if"),.tup [.int 0,.int 3]),(.inr (O "+"),.tup [.int 0,.int 2]),(.inr (O "-"),.tup [.int 0,.int 2]),(.inr (O "*"),.tup [.int 0,.int 2]),(.inr (O "<"),.tup [.int 0,.int 2])]
structure Tre(P:Pg):Prop where
 parts:P.tb.lookup (O "parts_of")=some ZfL
 g:P.G (O "FORMS")=some (.kd (O "FORMS"))
 gd:P.GD (O "FORMS")=some ZaA
 big:1000000<=P.L
theorem Zdv (H:Tre P) (hU:U.G=P.G/\U.GD=P.GD) (q:ev U e S h=.ok (.str w) h) (f:Zad ZaA (.inr w)=x):tst U (.ex (.cmp .NotIn e (.glo (O "FORMS")))) S h=.ok (!x.isSome) h:=by
 have g:ev U (.glo (O "FORMS")) S h=.ok (.kd (O "FORMS")) h:=by
   rw [ZmZ,hU.1,H.g];rfl
 refine Zao ((Zs q g).trans ?_);rw [Zg7,hU.2,H.gd];simp only [f]
theorem Zki (H:Tre P) (hU:U.G=P.G/\U.GD=P.GD) (q:ev U e S h=.ok (.str w) h) (f:Zad ZaA (.inr w)=some x):ev U (.ix (.glo (O "FORMS")) e) S h=.ok x h:=by
 have g:ev U (.glo (O "FORMS")) S h=.ok (.kd (O "FORMS")) h:=by
   rw [ZmZ,hU.1,H.g];rfl
 rw [Zkl,g,Zh,q,Zh,Zow,hU.2,H.gd];simp only [f];rfl
theorem Zh8:ev U (.ix (.var 0) (.cst (.int 0))) (some (.tup (.str w::ds))::S) h=.ok (.str w) h:=by
 show R.ofO (atI (D.str w::ds) 0) h=_;rw [ZkA];rfl
theorem ZmR (H:Tre P) (hU:U.G=P.G/\U.GD=P.GD) (e:Zad ZaA (.inr w)=some (.tup [.int a,.int b])):ev U (.bin .Add (.cst (.int 1)) (.ix (.ix (.glo (O "FORMS")) (.ix (.var 0) (.cst (.int 0)))) (.cst (.int 0)))) [some (.tup (.str w::ds))] h=.ok (.int (1+a)) h:=by
 refine (Zd (x:=.int 1) (y:=.int a) rfl ?_).trans rfl;rw [Zkl,Zki H hU Zh8 e];rfl
theorem Zhk(q:ev U e S h=.ok (.int l) h):evo U (some e) S h=.ok (some l) h:=by
 rw [ZmV,q];rfl
theorem ZlT(p:ev U a S h=.ok x h)(q:evo U lo S h=.ok l h)(r:evo U hi S h=.ok u h):ev U (.sl a lo hi) S h=Zk0 x l u h:=by
 simp only [Zp0,p,Zh,q,r]
theorem ZhS (H:Tre P) (n:Nat) (h:Hd) (w:Str) (ds:List D) (e:Zad ZaA (.inr w)=none):run P (n+1) (O "parts_of") [.tup (.str w::ds)] h=.ok (.tup []) h:=by
 rw [Zj H.parts rfl];show Ze (xs2 (P.tbl n) ZaV [some (.tup (.str w::ds))] h)=_;rw [ZaV,Zc ((Zaa (Zdv H ⟨rfl,rfl⟩ Zh8 e)).trans (Zc (Zo (d:=.tup []) rfl)))];rfl
theorem Zbo (H:Tre P) (n:Nat) (h:Hd) (w:Str) (ds:List D) (a b:Int) (e:Zad ZaA (.inr w)=some (.tup [.int a,.int b])):run P (n+1) (O "parts_of") [.tup (.str w::ds)] h=.ok (.tup (cutD (.str w::ds) (some (1+a)) none)) h:=by
 rw [Zj H.parts rfl];show Ze (xs2 (P.tbl n) ZaV [some (.tup (.str w::ds))] h)=_;have q:=ZmR H (U:=P.tbl n) ⟨rfl,rfl⟩ (ds:=ds) (h:=h) e;have r:ev (P.tbl n) (.sl (.var 0) (some (.bin .Add (.cst (.int 1)) (.ix (.ix (.glo (O "FORMS")) (.ix (.var 0) (.cst (.int 0)))) (.cst (.int 0))))) none) [some (.tup (.str w::ds))] h=.ok (.tup (cutD (.str w::ds) (some (1+a)) none)) h:=by
   exact (ZlT (a:=.var 0) (x:=.tup (.str w::ds)) rfl (Zhk q) rfl).trans rfl
 rw [ZaV,Za ((Zx (Zdv H ⟨rfl,rfl⟩ Zh8 e)).trans rfl),Zc (Zo r)];rfl
theorem ZjN (H:Tre P) (n:Nat) (t:T) (h:Hd):run P (n+1) (O "parts_of") [t.d] h=.ok (.tup (t.parts.map T.d)) h:=by
 cases t with
 | num z=>exact ZhS H n h (O "num") _ rfl
 | name x=>exact ZhS H n h (O "name") _ rfl
 | fn x e=>exact Zbo H n h (O "fn") _ 1 1 rfl
 | rcc f x e=>exact Zbo H n h (O "rec") _ 2 1 rfl
 | call f a=>exact Zbo H n h (O "call") _ 0 2 rfl
 | iff c a b=>exact Zbo H n h (O "if") _ 0 3 rfl
 | op w a b=>exact Zbo H n h w.s _ 0 2 (by cases w<;>rfl)
theorem Zew(p:Option D):∀ (ps:List D) (W:List D) (q:Option D),W.length+ps.length<=1000000->∃ q',
   ZN [] (.nm 4) (xs2 U (.cons (.drp (.meth .app (.var 2) (.cons (.var 4) .nil))) .nil)) ps [some E,some (.ref h.length),some (.ref (h.length+1)),p,q] (h++[.lst F,.lst W])
     = .ok (.nx,[some E,some (.ref h.length),some (.ref (h.length+1)),p,q']) (h++[.lst F,.lst (W++ps)])
 | [],W,q,hz=>⟨q,by simp⟩
 | d::ds,W,q,hz=>by
   obtain ⟨q',e⟩:=Zew (U:=U) (h:=h) (F:=F) (E:=E) p ds (W++[d]) (some d) (by simp at hz ⊢;lia);refine ⟨q',?_⟩;have hz2:W.length<sizeLine:=by simp at hz;rw [sizeLine_eq];lia
   rw [ZgL];simp [ZdB,Zbp,ZfA,ZmC,hz2,e]
theorem Zfv(t:T):1<=t.places.length:=by rw [T.places_parts];simp
theorem ZcC:∀ W:List T,W.length<=(W.flatMap T.places).length
 | []=>by simp
 | t::W=>by
   have:=Zfv t;have:=ZcC W;rw [List.flatMap_cons,OA,Os]
   lia
theorem Zh3(H:Tre P)(n:Nat):∀ (fuel:Nat) (W:List T) (F:List D) (p q:Option D),(W.flatMap T.places).length<fuel->F.length+(W.flatMap T.places).length<=900000->∃ p' q',
   Z7 (tst ⟨P.G,P.GD,run P (n+1),P.L⟩ (.ex (.var 2))) (xs2 ⟨P.G,P.GD,run P (n+1),P.L⟩ (.cons (.set (.nm 3) (.meth .pop (.var 2) .nil)) (.cons (.drp (.meth .app (.var 1) (.cons (.var 3) .nil))) (.cons (.forr (.nm 4) (.rev (.call (O "parts_of") (.cons (.var 3) .nil))) (.cons (.drp (.meth .app (.var 2) (.cons (.var 4) .nil))) .nil)) .nil))))
     fuel [some E,some (.ref h.length),some (.ref (h.length+1)),p,q] (h++[.lst F,.lst (W.map T.d).reverse])
     = .ok (.nx,[some E,some (.ref h.length),some (.ref (h.length+1)),p',q']) (h++[.lst (F++(W.flatMap T.places).map T.d),.lst []])
 | 0,W,F,p,q,h1,h2=>by lia
 | fuel+1,[],F,p,q,h1,h2=>⟨p,q,by rw [Za4];simp [Zc6]⟩
 | fuel+1,t::W,F,p,q,h1,h2=>by
   have e0:((t::W).flatMap T.places)=t::((t.parts++W).flatMap T.places):=by
     rw [List.flatMap_cons,T.places_parts t,List.flatMap_append];simp
   rw [e0] at h1 h2 ⊢;have hp:t.parts.length<=3:=by cases t<;>simp [T.parts]
   simp only [Os] at h1 h2;have h3:=ZcC (t.parts++W);rw [OA] at h3;obtain ⟨q1,e1⟩:=Zew (U:=⟨P.G,P.GD,run P (n+1),P.L⟩) (h:=h) (F:=F++[t.d]) (E:=E) (some t.d) (t.parts.map T.d).reverse (W.map T.d).reverse q (by simp;lia);obtain ⟨p',q',e2⟩:=Zh3 H (h:=h) (E:=E) n fuel (t.parts++W) (F++[t.d]) (some t.d) q1 (by lia) (by rw [OA,List.length_singleton];lia);refine ⟨p',q',?_⟩;have hz2:F.length<sizeLine:=by rw [sizeLine_eq];lia
   rw [Za4];simp [Zc6,ZdB,Zbp,ZfA,ZmC,Zrf,hz2,ZjN H,Zlx,e1];simpa using e2
theorem Zft (H:Tre P) (hp:P.tb.lookup (O "places")=some ZdE) (n:Nat) (t:T) (h:Hd) (hz:t.size<=800000):run P (n+2) (O "places") [t.d] h=.ok (.ref h.length) (h++[.lst (t.places.map T.d),.lst []]):=by
 rw [Zj hp (by rfl)];obtain ⟨p',q',e⟩:=Zh3 H (h:=h) (E:=t.d) n P.L [t] [] none none (by have:=H.big;unfold T.size at hz;simp;lia) (by unfold T.size at hz;simp;lia);simp at e;simp [ZdE,ZiB,ZaG,sizeLine_eq,e]
end Gn
end
section
namespace IV
open PySem L2
section
variable {U:Tb}{S:Ev}{h h1 h2 h3:Hd}
theorem Zlj(p:ev U o S h=.ok (.ref i) h1)(l:h1[i]? = some (.lst ys))(q:evs U es S h1=.ok xs h2)(e:Zbp m (.ref i) xs h2=r):ev U (.meth m o es) S h=r:=by rw [Zo6,p,Zh,Zlc l,if_pos rfl,q];exact e
theorem ZeG(q:ev U e S h=.ok d h1):xs1 U (.drp e) S h=.ok (.nx,S) h1:=by rw [Zny,q];rfl
theorem ZtF(p:ev U o S h=.ok (.ref i) h1)(l:h1[i]? = some (.ins C fs))(f:fs.lookup m=none)(q:evs U es S h1=.ok xs h2)(e:U.C (mnm C m) (.ref i::xs) h2=r):ev U (.mcl C m o es) S h=r:=by
 rw [ZrH,p,Zh,show ZL (.ref i) h1=some (C,fs) by simp [ZL,l]];simp only [f,and_self,if_true,q];exact e
theorem ZfO(p:evi U it S h=.ok w h1)(q:Zu w.src g (tsto U c) (ev U e) w.xs (ZeI js S) [] h1=.ok xs h2):ev U (.comp NC js it g c e) S h=.ok (.ref h2.length) (h2++[.lst xs]):=by rw [Zo7,p,Zh,q];rfl
theorem Zhj(p:ev U e S h=.ok (.tup xs) h1):evi U (.pl e) S h=.ok ⟨[],xs⟩ h1:=by rw [ZmW,p];rfl
theorem Zhl(p:evs U es S h=.ok xs h1)(hz:xs.length<=1000):ev U (.lstl es) S h=.ok (.ref h1.length) (h1++[.lst xs]):=by rw [Zkk,p,Zh,if_pos (OE hz (by decide))];rfl
theorem Zae(p:evs U es S h=.ok xs h1)(q:Zcq U.GD f xs h1=r):ev U (.blt f es) S h=r:=by rw [ZrK,p];exact q
theorem ZgF(e:h[i]? = some (.lst ys)):Zcq GD .len [.ref i] h=.ok (.int ys.length) h:=by simp only [Zcq,Zpv,seqOf,lstOf,e];rfl
theorem ZjB(e:h[i]? = some (.lst ys)):Zcq GD .tup [.ref i] h=.ok (.tup ys) h:=by simp only [Zcq,Zpt,lstOf,e];rfl
theorem ZlG(p:ev U e S h=.ok (.ref i) h1)(l:h1[i]? = some (.lst ys)):tst U (.ex e) S h=.ok (!ys.isEmpty) h1:=by rw [ZlF,p,Zh,ZnD l];rfl
theorem Zjy(e:test S h=.ok true h1)(q:body S h1=.ok (.nx,ρ1) h2):Z7 test body (n+1) S h=Z7 test body n ρ1 h2:=by rw [Za4,e,Zh,if_pos rfl,q];rfl
theorem Zjz(e:test S h=.ok false h1):Z7 test body (n+1) S h=.ok (.nx,S) h1:=by rw [Za4,e];rfl
theorem ZrA(p:ev U a S h=.ok (.int x) h1)(q:ev U b S h1=.ok (.int y) h2):tst U (.ex (.cmp .Gt a b)) S h=.ok (decide (y<x)) h2:=Zao (Zs p q)
theorem Zrg(p:ev U a S h=.ok (.int x) h1)(q:ev U b S h1=.ok (.int y) h2):tst U (.ex (.cmp .Lt a b)) S h=.ok (decide (x<y)) h2:=Zao (Zs p q)
theorem Zda(b:Zbt g d S=some ρ1)(q:body ρ1 h=.ok (.nx,ρ2) h2):ZN [] g body (d::ds) S h=ZN [] g body ds ρ2 h2:=by rw [ZgL,b];simp only;rw [q];rfl
variable {c:Str}
end
end IV
end
section
set_option tactic.hygienic false
set_option exponentiation.threshold 3000
namespace Gn
open PySem L2 IV
noncomputable def Up(i:Nat)(h h':Hd):Prop:=h.length<=h'.length/\∀ m,m<h.length->m≠i->h'[m]? = h[m]?
theorem Up.refl:Up i h h:=⟨Oq _,fun _ _ _=>rfl⟩
theorem Up.trans(x:Up i a b)(y:Up i b c):Up i a c :=
 ⟨OE x.1 y.1,fun m h1 h2=>(y.2 m (Ot h1 x.1) h2).trans (x.2 m h1 h2)⟩
theorem Up.set:Up i h (h.set i o):=⟨by simp,fun m _ h2=>by rw [Oc (Ne.symm h2)]⟩
theorem Up.app:Up i h (h++g):=⟨by simp,fun m h1 _=>Oe h1⟩
theorem Zl{h:Hd}(e:h[i]? = some o):i<h.length:=(Ob.mp e).1
theorem Up.at{i m:Nat}(u:Up i h h')(e:h[m]? = some o)(ne:m≠i):h'[m]? = some o:=(u.2 m (Zl e) ne).trans e
noncomputable def Alk(P:Pg)(f:Str)(fd:Fd):Prop:=∃ ps N,ps.length=fd.ps.length/\N.length=fd.N.length/\P.tb.lookup f=some ⟨ps,N,fd.body⟩
theorem ZnR(e:Alk P f fd)(hl:ds.length=fd.ps.length):run P (n+1) f ds h=Ze (xs2 ⟨P.G,P.GD,run P n,P.L⟩ fd.body (ZaG fd.N ds) h):=by
 obtain ⟨ps,N,h1,h2,e⟩:=e;rw [Zj e (hl.trans h1.symm)];unfold ZaG;rw [h2]
theorem Zy(h:-(2 ^ 128)<i)(h2:i<2 ^ 128):i.natAbs<2 ^ 2000:=by
 have:i.natAbs<2 ^ 128:=by lia
 exact Ot this (Nat.pow_le_pow_right (by decide) (by decide))
noncomputable def Wl(n:Nat)(x:Str):Prop:=PyData.strOk x=true/\x.length<=n
noncomputable def dep:T->Nat
 | .num _|.name _=>0
 | .fn _ e|.rcc _ _ e=>dep e+1
 | .call f a=>max (dep f) (dep a)+1
 | .iff c t e=>max (dep c) (max (dep t) (dep e))+1
 | .op _ a b=>max (dep a) (dep b)+1
theorem at4(k:Int)(h0:0<=k)(h4:k<4):∃ v,atI [D.int a,.int b,.int c,.int d] k=some (.int v)/\(v=a\/v=b\/v=c\/v=d):=by
 have:k=0\/k=1\/k=2\/k=3:=by lia
 rcases this with rfl|rfl|rfl|rfl
 . exact ⟨a,by simp,.inl rfl⟩
 . exact ⟨b,by simp,.inr (.inl rfl)⟩
 . exact ⟨c,by simp,.inr (.inr (.inl rfl))⟩
 . exact ⟨d,by simp,.inr (.inr (.inr rfl))⟩
noncomputable def Zt:Str:=O "abcdefghijklmnopqrstuvwxyz"
theorem Zh1:Zt.length=26:=by decide +kernel
theorem Zjf:PyData.strOk Zt=true:=by decide +kernel
noncomputable def ltr(k:Int):Nat:=Zt.cps.toList.getD k.toNat 0
noncomputable def lt1(k:Int):Str:=⟨#[ltr k]⟩
theorem Zrh(k:Int)(h0:0<=k)(h1:k<26):Zdr GD (.str Zt) (.int k) h=.ok (.str (lt1 k)) h/\Wl 1 (lt1 k):=by
 obtain ⟨m,rfl⟩:∃ m:Nat,k=m:=⟨k.toNat,by lia⟩
 have hl:Zt.cps.toList.length=26:=by decide +kernel
 have hm:m<Zt.cps.toList.length:=by lia
 have el:ltr m=Zt.cps.toList[m]:=by
   show Zt.cps.toList.getD (m:Int).toNat 0=_;rw [Int.toNat_natCast,List.getD_eq_getElem?_getD,Og hm];rfl
 have e:atI Zt.cps.toList (m:Int)=some Zt.cps.toList[m]:=by rw [IV.ZbE,Og hm]
 unfold lt1;rw [el];refine ⟨?_,Zi6 Zjf (List.getElem_mem hm),by show (#[Zt.cps.toList[m]]:Array Nat).size<=1;simp⟩;have q:Zdr GD (.str Zt) (.int (m:Int)) h=if Zt.length<=sizeLine then R.ofO ((atI Zt.cps.toList (m:Int)).map fun c=>.str ⟨#[c]⟩) h else .bad:=rfl;rw [q,if_pos (by rw [Zh1,sizeLine_eq];decide),e];rfl
theorem len_cat{x y:Str}:(x++y).length=x.length+y.length:=by
 show (x.cps++y.cps).size=_;rw [Array.size_append];rfl
theorem Zph{x y:Str}(hx:Wl a x)(hy:Wl b y)(hz:a+b<=1000):opB .Add (.str x) (.str y) h=.ok (.str (x++y)) h/\Wl (a+b) (x++y):=by
 have hl:(x++y).length=x.length+y.length:=len_cat;refine ⟨if_pos (by rw [sizeLine_eq];have:=hx.2;have:=hy.2;lia),ZgD hx.1 hy.1,by rw [hl];have:=hx.2;have:=hy.2;lia⟩
theorem in4:opC GD .In (.str x) (.tup [.str (O "fn"),.str (O "rec"),.str (O "call"),.str (O "if")]) h=.ok (.bl (decide (x∈[O "fn",O "rec",O "call",O "if"]))) h :=
 Zdu (ss:=[O "fn",O "rec",O "call",O "if"])
theorem ZpP (hx:Wl m x) (hm:m<=1000):opB .Mult (.str (O "q")) (.int x.length) h=.ok (.str (ZdX (O "q") x.length)) h/\Wl m (ZdX (O "q") x.length):=by
 have hq:(O "q").length=1:=by decide +kernel
 have:=hx.2;refine ⟨if_pos ⟨by lia,by lia,by rw [hq];decide⟩,Zmv (by decide +kernel) _,?_⟩;rw [Zdq,hq]
 lia
noncomputable def nmQ (w:Str):Str:=if w∈[O "fn",O "rec",O "call",O "if"] then ZdX (O "q") w.length else w
theorem Zro:∀ k∈[[102,110],[114,101,99],[99,97,108,108],[105,102]],∀ l∈[[102,110],[114,101,99],[99,97,108,108],[105,102],List.replicate k.length 113],k=l\/k.length≠l.length\/∀ i,i<4->∃ j,j<4/\j≠i/\k[j]?≠l[j]? := by decide +kernel
theorem Zj9(ne:x≠y)(a:List Nat)(h:a++x::b∈[[102,110],[114,101,99],[99,97,108,108],[105,102]]):a++y::b ∉ [[102,110],[114,101,99],[99,97,108,108],[105,102]]/\a++y::b≠List.replicate (a++x::b).length 113:=by
 have l4:(a++x::b).length<=4:=by
   have:∀ k∈[[102,110],[114,101,99],[99,97,108,108],[105,102]],k.length<=4:=by decide
   exact this _ h
 have sl:(a++x::b).length=(a++y::b).length:=by simp
 have no:∀ l∈[[102,110],[114,101,99],[99,97,108,108],[105,102],List.replicate (a++x::b).length 113],a++y::b≠l:=fun l hl e=>by
   rcases Zro _ h l hl with q|q|q
   . rw [<- e] at q;exact ne (List.cons.inj (List.append_cancel_left q)).1
   . exact q (by rw [<- e];exact sl)
   . obtain ⟨j,_,nj,d⟩:=q a.length (by simp at l4;lia);rw [<- e] at d;rcases Nat.lt_or_ge j a.length with z|z
     . exact d (by rw [Oe z,Oe z])
     . rw [Om z,Om z] at d;obtain ⟨m,hm⟩:∃ m,j - a.length=m+1:=⟨j - a.length - 1,by lia⟩
       rw [hm] at d;exact d rfl
 refine ⟨fun m=>no _ (List.mem_append_left [List.replicate (a++x::b).length 113] m) rfl,no _ (Ov [[102,110],[114,101,99],[99,97,108,108],[105,102]] (Ox.mpr rfl))⟩
theorem Zh5:w∈[O "fn",O "rec",O "call",O "if"]↔w.cps.toList∈[[102,110],[114,101,99],[99,97,108,108],[105,102]]:=by
 have e:[[102,110],[114,101,99],[99,97,108,108],[105,102]]=[O "fn",O "rec",O "call",O "if"].map (·.cps.toList):=by decide +kernel
 rw [e];refine ⟨fun h=>List.mem_map_of_mem h,fun h=>?_⟩;obtain ⟨v,hv,q⟩:=List.mem_map.mp h;have:v=w:=by
   obtain ⟨⟨v⟩⟩:=v;obtain ⟨⟨w⟩⟩:=w;cases q;rfl
 exact this ▸ hv
theorem Zdp:∀ n,(ZdX (O "q") n).cps.toList=List.replicate n 113
 | n=>by
   have:∀ (n:Nat) (a:Array Nat),((List.replicate n (O "q").cps).foldl (·++·) a).toList=a.toList++List.replicate n 113:=by
     intro n;induction n with
     | zero=>intro a;simp
     | succ n ih=>intro a;rw [List.replicate_succ,List.foldl_cons,ih,Array.toList_append,Oz,List.replicate_succ];rfl
   have q:=this n #[];simpa [ZdX] using q
theorem nq(hv:v.cps.toList=a++x::b)(hw:w.cps.toList=a++y::b)(ne:x≠y):nmQ v≠nmQ w:=by
 have hl:v.length=(a++x::b).length/\w.length=(a++y::b).length:=by rw [<- hv,<- hw];exact ⟨by simp [Str.length],by simp [Str.length]⟩
 unfold nmQ;intro e;have e':=congrArg (·.cps.toList) e;simp only [Zh5] at e';split at e'
 . rename_i kv;rw [hv] at kv;obtain ⟨k1,k2⟩:=Zj9 ne a kv;rw [if_neg (by rw [hw];exact k1),Zdp,hw,hl.1] at e';exact k2 e'.symm
 . split at e'
   . rename_i kw;rw [hw] at kw;obtain ⟨k1,k2⟩:=Zj9 (Ne.symm ne) a kw;rw [Zdp,hv,hl.2] at e';exact k2 e'
   . rw [hv,hw] at e';have:=List.append_cancel_left e';exact ne (List.cons.inj this).1
theorem Zj2(w:Str):(nmQ w).length=w.length:=by
 unfold nmQ;split
 . rw [Zdq,show (O "q").length=1 by decide +kernel,Nat.mul_one]
 . rfl
theorem ZoP:∀ i j:Fin 26,ltr (i.val:Int)=ltr (j.val:Int)->i=j:=by decide +kernel
end Gn
end
section
namespace Gn
open PySem L2 IV
noncomputable def Zty:T->List D
 | .num n=>[.str (O "num"),.int n]
 | .name x=>[.str (O "name"),.str x]
 | .fn x _=>[.str (O "fn"),.str x]
 | .rcc f x _=>[.str (O "rec"),.str f,.str x]
 | .call _ _=>[.str (O "call")]
 | .iff _ _ _=>[.str (O "if")]
 | .op w _ _=>[.str w.s]
theorem Zu9(t:T):t.d=.tup (Zty t++t.parts.map T.d):=by cases t<;>rfl
noncomputable def ZaN:D->Bool
 | .str _|.int _=>true
 | _=>false
theorem Zic (hf:ZaN d=true):Zcq GD .isi [d,.ty "tuple"] h=.ok (.bl false) h:=by
 cases d with
 | str x=>rfl
 | int x=>rfl
 | _=>cases hf
theorem ZoX:Zcq GD .isi [.tup xs,.ty "tuple"] h=.ok (.bl true) h:=rfl
noncomputable abbrev isT:Tx:=.ex (.blt .isi (.cons (.var 0) (.cons (.cst (.ty "tuple")) .nil)))
theorem ZfT{U:Tb}{acc rest:List D}:∀ ds:List D,(∀ d∈ds,ZaN d=true)->acc.length<sizeLine->Zu [] (.nm 0) (tsto U (some isT)) (ev U e) (ds++rest) [none] acc h=Zu [] (.nm 0) (tsto U (some isT)) (ev U e) rest [none] acc h
 | [],_,_=>rfl
 | d::ds,hd,hz=>by
   have:=Zic (GD:=U.GD) (h:=h) (hd d (by simp));rw [List.cons_append,Z8];simp [Wk.stays,hz,this];exact ZfT ds (fun x hx=>hd x (by simp [hx])) hz
theorem ZfR{U:Tb}{f:T->Int}:∀ (ts:List T) (acc:List D) (h:Hd),(∀ t∈ts,∀ h,∃ g,ev U e [some t.d] h=.ok (.int (f t)) (h++g))->acc.length+ts.length<=1000->∃ g,Zu [] (.nm 0) (tsto U (some isT)) (ev U e) (ts.map T.d) [none] acc h=.ok (acc++ts.map fun t=>.int (f t)) (h++g)
 | [],acc,h,_,_=>⟨[],by simp [Zu,Wk.stays]⟩
 | t::ts,acc,h,ht,hz=>by
   simp only [Os] at hz;obtain ⟨g1,e1⟩:=ht t (by simp) h;obtain ⟨g2,e2⟩:=ZfR (U:=U) (e:=e) (f:=f) ts (acc++[.int (f t)]) (h++g1) (fun x hx=>ht x (by simp [hx])) (by simp;lia);refine ⟨g1++g2,?_⟩;have hz2:acc.length<sizeLine:=by rw [sizeLine_eq];lia
   have it:Zcq U.GD .isi [t.d,.ty "tuple"] h=.ok (.bl true) h:=by rw [Zu9];exact ZoX
   rw [Op,Z8];simp [Wk.stays,hz2,it,e1,e2]
theorem ints_map(f:T->Int):∀ ts:List T,intsOf (ts.map fun s=>D.int (f s))=some (ts.map f)
 | []=>rfl
 | t::ts=>by rw [Op,intsOf,ints_map f ts];rfl
variable {P:Pg}
theorem ZnM(t:T):(t.size:Int)=1+(t.parts.map fun s=>(s.size:Int)).sum:=by
 unfold T.size;rw [T.places_parts];have:∀ ts:List T,((ts.flatMap T.places).length:Int)=(ts.map fun s=>(s.places.length:Int)).sum:=by
   intro ts;induction ts with
   | nil=>rfl
   | cons t ts ih=>rw [List.flatMap_cons,OA,Op,OI,<- ih];lia
 rw [Os,<- this]
 lia
theorem Zm{t s:T}(hs:s∈t.parts):dep s<dep t:=by
 cases t<;>simp [T.parts] at hs<;>simp only [dep]
 . subst hs;lia
 . subst hs;lia
 . rcases hs with rfl|rfl<;>lia
 . rcases hs with rfl|rfl|rfl<;>lia
 . rcases hs with rfl|rfl<;>lia
end Gn
end
section
namespace Tm
open PySem L2 IV
noncomputable def ZC:Sxs:=(.cons (.iff (.ex (.cmp .NotIn (.ix (.var 0) (.cst (.int 0))) (.glo (O "FORMS")))) (.cons (.ret (.tupl .nil)) .nil) .nil) (.cons (.ret (.sl (.var 0) (some (.cst (.int 1))) (some (.bin .Add (.cst (.int 1)) (.ix (.ix (.glo (O "FORMS")) (.ix (.var 0) (.cst (.int 0)))) (.cst (.int 0))))))) .nil))
noncomputable def Zal:Fd:=⟨[(O "E")],[(O "E")],ZC⟩
end Tm
end
section
namespace Tm
open PySem L2 IV
variable {P:Pg}{h:Hd}
section
variable {w:Wd}
@[simp] theorem Zud:(w.s=O "num")↔False:=by cases w<;>simp [Wd.s]
@[simp] theorem Zt1:(w.s=O "name")↔False:=by cases w<;>simp [Wd.s]
@[simp] theorem Zuc:(w.s=O "rec")↔False:=by cases w<;>simp [Wd.s]
@[simp] theorem Zlw:Zad Gn.ZaA (.inr w.s)=some (.tup [.int 0,.int 2]):=by cases w<;>rfl
end
noncomputable def bnd:T->List Str
 | .fn x _=>[x]
 | .rcc f x _=>[f,x]
 | _=>[]
noncomputable def fr:T->List D
 | .num n=>[.str (O "num"),.int n]
 | .name x=>[.str (O "name"),.str x]
 | .fn x _=>[.str (O "fn"),.str x]
 | .rcc f x _=>[.str (O "rec"),.str f,.str x]
 | .call _ _=>[.str (O "call")]
 | .iff _ _ _=>[.str (O "if")]
 | .op w _ _=>[.str w.s]
theorem ZtM(t:T):t.d=.tup (fr t++t.parts.map T.d):=by cases t<;>rfl
theorem ZpQ (H:Gn.Tre P) (hb:P.tb.lookup (O "bound_names")=some Zal) (n:Nat) (t:T) (h:Hd):run P (n+1) (O "bound_names") [t.d] h=.ok (.tup ((bnd t).map .str)) h:=by
 have no:∀ (w:Str) (ds:List D),Zad Gn.ZaA (.inr w)=none->run P (n+1) (O "bound_names") [.tup (.str w::ds)] h=.ok (.tup []) h:=fun w ds e=>by
   rw [Zj hb rfl];show Ze (xs2 (P.tbl n) ZC [some (.tup (.str w::ds))] h)=_;rw [ZC,Zc ((Zaa (Gn.Zdv H ⟨rfl,rfl⟩ Gn.Zh8 e)).trans (Zc (Zo (d:=.tup []) rfl)))];rfl
 have yes:∀ (w:Str) (ds:List D) (a b:Int),Zad Gn.ZaA (.inr w)=some (.tup [.int a,.int b])->run P (n+1) (O "bound_names") [.tup (.str w::ds)] h=.ok (.tup (cutD (.str w::ds) (some 1) (some (1+a)))) h:=fun w ds a b e=>by
   rw [Zj hb rfl];show Ze (xs2 (P.tbl n) ZC [some (.tup (.str w::ds))] h)=_;have q:=Gn.ZmR H (U:=P.tbl n) ⟨rfl,rfl⟩ (ds:=ds) (h:=h) e;have r:ev (P.tbl n) (.sl (.var 0) (some (.cst (.int 1))) (some (.bin .Add (.cst (.int 1)) (.ix (.ix (.glo (O "FORMS")) (.ix (.var 0) (.cst (.int 0)))) (.cst (.int 0)))))) [some (.tup (.str w::ds))] h=.ok (.tup (cutD (.str w::ds) (some 1) (some (1+a)))) h:=(Gn.ZlT (a:=.var 0) (x:=.tup (.str w::ds)) rfl rfl (Gn.Zhk q)).trans rfl;rw [ZC,Za ((Zx (Gn.Zdv H ⟨rfl,rfl⟩ Gn.Zh8 e)).trans rfl),Zc (Zo r)];rfl
 cases t with
 | num z=>exact no (O "num") _ rfl
 | name x=>exact no (O "name") _ rfl
 | fn x e=>exact yes (O "fn") _ 1 1 rfl
 | rcc f x e=>exact yes (O "rec") _ 2 1 rfl
 | call f a=>exact yes (O "call") _ 0 2 rfl
 | iff c a b=>exact yes (O "if") _ 0 3 rfl
 | op w a b=>exact yes w.s _ 0 2 Zlw
end Tm
end
section
namespace Fr
open PySem L2 IV Tm
noncomputable def lf:T->List Str
 | .num _=>[]
 | .name x=>[x]
 | .fn x e=>(lf e).filter fun y=>decide (y≠x)
 | .rcc f x e=>(lf e).filter fun y=>decide (y≠f/\y≠x)
 | .call f a=>lf f++lf a
 | .iff c a b=>lf c++(lf a++lf b)
 | .op _ a b=>lf a++lf b
noncomputable def Fp(p:T×List Str)(x:Str):Prop:=x∈lf p.1/\x ∉ p.2
noncomputable def ben(p:T×List Str):List (T×List Str):=p.1.parts.map fun s=>(s,p.2++bnd p.1)
noncomputable def own(p:T×List Str):Option Str:=match p.1 with
 | .name x=>if x∈p.2 then none else some x
 | _=>none
theorem Zhh(p:T×List Str)(x:Str):Fp p x↔own p=some x\/∃ q∈ben p,Fp q x:=by
 obtain ⟨t,b⟩:=p;cases t with
 | num n=>simp [Fp,lf,own,ben,T.parts]
 | name y =>
   by_cases h:y∈b
   . simp only [Fp,lf,own,ben,T.parts,if_pos h,Ox,Oy];exact ⟨fun ⟨e,n⟩=>absurd (e ▸ h) n,fun z=>by rcases z with z|⟨q,hq,_⟩;cases z;cases hq⟩
   . simp only [Fp,lf,own,ben,T.parts,if_neg h,Ox,Oy];exact ⟨fun ⟨e,n⟩=>.inl (by rw [e]),fun z=>by rcases z with z|⟨q,hq,_⟩;cases z;exact ⟨rfl,h⟩;cases hq⟩
 | fn y e =>
   simp [Fp,lf,own,ben,T.parts,bnd];exact ⟨fun ⟨⟨a,b⟩,c⟩=>⟨a,c,b⟩,fun ⟨a,c,b⟩=>⟨⟨a,b⟩,c⟩⟩
 | rcc f y e =>
   simp [Fp,lf,own,ben,T.parts,bnd];exact ⟨fun ⟨⟨a,b,c⟩,d⟩=>⟨a,d,b,c⟩,fun ⟨a,d,b,c⟩=>⟨⟨a,b,c⟩,d⟩⟩
 | call f a=>simp [Fp,lf,own,ben,T.parts,bnd,or_and_right,exists_or,and_assoc]
 | iff c a d=>simp [Fp,lf,own,ben,T.parts,bnd,or_and_right,exists_or,and_assoc]
 | op w f a=>simp [Fp,lf,own,ben,T.parts,bnd,or_and_right,exists_or,and_assoc]
theorem Zje(L:List (T×List Str))(x:Str):(∃ p∈L,Fp p x)↔(∃ p∈L,own p=some x)\/∃ q∈L.flatMap ben,Fp q x:=by
 constructor
 . rintro ⟨p,hp,h⟩;rcases (Zhh p x).mp h with h|⟨q,hq,h⟩
   . exact .inl ⟨p,hp,h⟩
   . exact .inr ⟨q,List.mem_flatMap.mpr ⟨p,hp,hq⟩,h⟩
 . rintro (⟨p,hp,h⟩|⟨q,hq,h⟩)
   . exact ⟨p,hp,(Zhh p x).mpr (.inl h)⟩
   . obtain ⟨p,hp,hq⟩:=List.mem_flatMap.mp hq;exact ⟨p,hp,(Zhh p x).mpr (.inr ⟨q,hq,h⟩)⟩
end Fr
end
section
namespace K02L
open PySem L2 IV
noncomputable def Ze0:Tx:=(.ex (.cmp .NotIn (.ix (.var 0) (.cst (.int 0))) (.glo (O "FORMS"))))
noncomputable def Zdj:Sx:=(.ret (.tupl .nil))
noncomputable def ZeS:Sxs:=(.cons Zdj .nil)
noncomputable def Zfb:Sx:=.iff Ze0 ZeS .nil
noncomputable def Zfa:Sx:=(.ret (.sl (.var 0) (some (.cst (.int 1))) (some (.bin .Add (.cst (.int 1)) (.ix (.ix (.glo (O "FORMS")) (.ix (.var 0) (.cst (.int 0)))) (.cst (.int 0)))))))
noncomputable def ZC:Sxs:=(.cons Zfb (.cons Zfa .nil))
noncomputable def Zal:Fd:=⟨[(O "E")],[(O "E")],ZC⟩
noncomputable def Zb7:Sx:=(.set (.nm 1) (.dictl .nil))
noncomputable def Zb6:Sx:=(.set (.nm 2) (.lstl (.cons (.tupl (.cons (.var 0) (.cons (.tupl .nil) .nil))) .nil)))
noncomputable def Zb2:Tx:=(.ex (.var 2))
noncomputable def Zbu:Sx:=(.set (.nm 3) (.lstl .nil))
noncomputable def Zd5:Ix:=(.pl (.var 2))
noncomputable def ZaT:Tx:=(.ands (.cons (.ex (.cmp .Eq (.ix (.var 4) (.cst (.int 0))) (.cst (.str (O "name"))))) (.one (.ex (.cmp .NotIn (.ix (.var 4) (.cst (.int 1))) (.var 5))))))
noncomputable def ZbS:Sx:=(.put (.var 1) (.ix (.var 4) (.cst (.int 1))) (.cst (.bl true)))
noncomputable def Zc9:Sxs:=(.cons ZbS .nil)
noncomputable def Z9:Sx:=.iff ZaT Zc9 .nil
noncomputable def ZaX:Sx:=(.set (.nm 6) (.bin .Add (.var 5) (.call (O "bound_names") (.cons (.var 4) .nil))))
noncomputable def ZaW:Sx:=(.drp (.meth .ext (.var 3) (.cons (.comp [(O "part"),(O "inner")] [none,some 6] (.pl (.call (O "parts_of") (.cons (.var 4) .nil))) (.nm 0) none (.tupl (.cons (.var 0) (.cons (.var 1) .nil)))) .nil)))
noncomputable def Zah:Sxs:=(.cons Z9 (.cons ZaX (.cons ZaW .nil)))
noncomputable def Zer:Sx:=.forr (.two 4 5) Zd5 Zah
noncomputable def Zeq:Sx:=(.set (.nm 2) (.var 3))
noncomputable def ZbY:Sxs:=(.cons Zbu (.cons Zer (.cons Zeq .nil)))
noncomputable def Zb5:Sx:=.whl Zb2 ZbY
noncomputable def ZfZ:Sx:=(.ret (.blt .srt (.cons (.var 1) .nil)))
noncomputable def ZdP:Sxs:=(.cons Zb7 (.cons Zb6 (.cons Zb5 (.cons ZfZ .nil))))
noncomputable def ZdG:Fd:=⟨[(O "E")],[(O "E"),(O "found"),(O "level"),(O "beneath"),(O "place"),(O "bound"),(O "inner")],ZdP⟩
noncomputable def ZcU:Sx:=(.set (.nm 2) (.bin .Mod (.bin .Mult (.bin .Add (.bin .Mod (.var 0) (.cst (.int 1000003))) (.cst (.int 1))) (.bin .Add (.cst (.int 48271)) (.bin .Mult (.bin .Mult (.cst (.int 2)) (.var 1)) (.var 1)))) (.cst (.int 2147483647))))
noncomputable def Zgs:Sx:=(.ret (.bin .Mod (.bin .Mult (.var 2) (.bin .Add (.bin .Mod (.var 2) (.cst (.int 65537))) (.var 1))) (.cst (.int 2147483629))))
noncomputable def ZeL:Sxs:=(.cons ZcU (.cons Zgs .nil))
noncomputable def ZeB:Fd:=⟨[(O "_law_cell"),(O "_law_k")],[(O "_law_cell"),(O "_law_k"),(O "_law_one")],ZeL⟩
noncomputable def ZdM:Sx:=(.set (.nm 1) (.ix (.var 0) (.cst (.int 1))))
noncomputable def ZdL:Sx:=(.put (.var 0) (.cst (.int 1)) (.bin .Add (.var 1) (.cst (.int 1))))
noncomputable def ZdH:Tx:=(.ex (.cmp .Lt (.var 1) (.blt .len (.cons (.ix (.var 0) (.cst (.int 0))) .nil))))
noncomputable def Ze4:Sx:=(.ret (.ix (.ix (.var 0) (.cst (.int 0))) (.var 1)))
noncomputable def Zhc:Sxs:=(.cons Ze4 .nil)
noncomputable def Zhx:Sx:=.iff ZdH Zhc .nil
noncomputable def Zhw:Sx:=(.ret (.cst (.int 0)))
noncomputable def Zdf:Sxs:=(.cons ZdM (.cons ZdL (.cons Zhx (.cons Zhw .nil))))
noncomputable def ZfN:Fd:=⟨[(O "_law_state")],[(O "_law_state"),(O "_law_at")],Zdf⟩
noncomputable def Zgr:Sx:=(.set (.nm 1) (.cst (.str (O "abcdefghijklmnopqrstuvwxyz"))))
noncomputable def ZcT:Sx:=(.set (.nm 2) (.bin .Add (.cst (.int 1)) (.bin .Mod (.var 0) (.cst (.int 8)))))
noncomputable def ZcS:Sx:=(.set (.nm 3) (.bin .Mod (.bin .FloorDiv (.var 0) (.cst (.int 8))) (.var 2)))
noncomputable def ZcR:Sx:=(.set (.nm 4) (.lstl .nil))
noncomputable def Zgb:Ix:=(.rng (.cst (.int 5)))
noncomputable def Ze6:Sx:=(.set (.nm 6) (.cst (.str (O ""))))
noncomputable def ZbJ:Ix:=(.rng (.var 2))
noncomputable def ZdN:Sx:=(.set (.nm 6) (.bin .Add (.var 6) (.ix (.var 1) (.bin .Mod (.bin .Add (.call (O "_law_mixed") (.cons (.var 0) (.cons (.var 7) .nil))) (.bin .Mult (.bin .Mult (.var 5) (.cst (.int 4))) (.blt .int (.cons (.cmp .Eq (.var 7) (.var 3)) .nil)))) (.cst (.int 26))))))
noncomputable def ZbH:Sxs:=(.cons ZdN .nil)
noncomputable def ZbN:Sx:=.forr (.nm 7) ZbJ ZbH
noncomputable def ZbL:Tx:=(.ex (.cmp .In (.var 6) (.tupl (.cons (.cst (.str (O "fn"))) (.cons (.cst (.str (O "rec"))) (.cons (.cst (.str (O "call"))) (.cons (.cst (.str (O "if"))) .nil)))))))
noncomputable def Zdg:Sx:=(.set (.nm 6) (.bin .Mult (.cst (.str (O "q"))) (.var 2)))
noncomputable def ZeQ:Sxs:=(.cons Zdg .nil)
noncomputable def ZbM:Sx:=.iff ZbL ZeQ .nil
noncomputable def Ze5:Sx:=(.drp (.meth .app (.var 4) (.cons (.var 6) .nil)))
noncomputable def ZcD:Sxs:=(.cons Ze6 (.cons ZbN (.cons ZbM (.cons Ze5 .nil))))
noncomputable def ZcQ:Sx:=.forr (.nm 5) Zgb ZcD
noncomputable def Zgq:Sx:=(.ret (.var 4))
noncomputable def Zb4:Sxs:=(.cons Zgr (.cons ZcT (.cons ZcS (.cons ZcR (.cons ZcQ (.cons Zgq .nil))))))
noncomputable def Zan:Fd:=⟨[(O "_law_cell")],[(O "_law_cell"),(O "_law_letters"),(O "_law_size"),(O "_law_at"),(O "_law_found"),(O "_law_k"),(O "_law_text"),(O "_law_j")],Zb4⟩
noncomputable def Zc2:Sx:=(.set (.nm 3) (.call (O "_law_next") (.cons (.var 0) .nil)))
noncomputable def Zc1:Sx:=(.set (.nm 4) (.bin .FloorDiv (.var 3) (.cst (.int 11))))
noncomputable def ZcN:Tx:=(.ors (.cons (.ex (.cmp .Lt (.bin .Mod (.var 3) (.cst (.int 11))) (.cst (.int 2)))) (.cons (.ex (.cmp .Eq (.var 2) (.cst (.int 0)))) (.one (.ex (.cmp .Gt (.ix (.var 0) (.cst (.int 1))) (.blt .len (.cons (.ix (.var 0) (.cst (.int 0))) .nil))))))))
noncomputable def Zbs:Tx:=(.ex (.cmp .Eq (.bin .Mod (.var 4) (.cst (.int 3))) (.cst (.int 0))))
noncomputable def Zct:Sx:=(.ret (.tupl (.cons (.cst (.str (O "num"))) (.cons (.ix (.lstl (.cons (.cst (.int 0)) (.cons (.cst (.int 999999)) (.cons (.bin .Mod (.bin .FloorDiv (.var 4) (.cst (.int 12))) (.cst (.int 1000000))) (.cons (.bin .Mod (.bin .FloorDiv (.var 4) (.cst (.int 12))) (.cst (.int 10))) .nil))))) (.bin .Mod (.bin .FloorDiv (.var 4) (.cst (.int 3))) (.cst (.int 4)))) .nil))))
noncomputable def Zd2:Sxs:=(.cons Zct .nil)
noncomputable def Zek:Sx:=.iff Zbs Zd2 .nil
noncomputable def Zej:Sx:=(.ret (.tupl (.cons (.cst (.str (O "name"))) (.cons (.ix (.var 1) (.bin .Mod (.bin .FloorDiv (.var 4) (.cst (.int 3))) (.cst (.int 5)))) .nil))))
noncomputable def Zf7:Sxs:=(.cons Zek (.cons Zej .nil))
noncomputable def Zc0:Sx:=.iff ZcN Zf7 .nil
noncomputable def ZcZ:Sx:=(.set (.nm 5) (.call (O "_law_drawn") (.cons (.var 0) (.cons (.var 1) (.cons (.bin .Sub (.var 2) (.cst (.int 1))) .nil)))))
noncomputable def ZcM:Tx:=(.ors (.cons (.ex (.cmp .Eq (.bin .Mod (.var 3) (.cst (.int 11))) (.cst (.int 2)))) (.one (.ex (.cmp .Eq (.bin .Mod (.var 3) (.cst (.int 11))) (.cst (.int 3)))))))
noncomputable def Zei:Sx:=(.ret (.tupl (.cons (.cst (.str (O "fn"))) (.cons (.ix (.var 1) (.bin .Mod (.var 4) (.cst (.int 5)))) (.cons (.var 5) .nil)))))
noncomputable def Zf6:Sxs:=(.cons Zei .nil)
noncomputable def ZcY:Sx:=.iff ZcM Zf6 .nil
noncomputable def ZcL:Tx:=(.ex (.cmp .Eq (.bin .Mod (.var 3) (.cst (.int 11))) (.cst (.int 4))))
noncomputable def Zeh:Sx:=(.ret (.tupl (.cons (.cst (.str (O "rec"))) (.cons (.ix (.var 1) (.bin .Mod (.var 4) (.cst (.int 5)))) (.cons (.ix (.var 1) (.bin .Mod (.bin .FloorDiv (.var 4) (.cst (.int 5))) (.cst (.int 5)))) (.cons (.var 5) .nil))))))
noncomputable def Zf5:Sxs:=(.cons Zeh .nil)
noncomputable def ZcX:Sx:=.iff ZcL Zf5 .nil
noncomputable def ZcW:Sx:=(.set (.nm 6) (.call (O "_law_drawn") (.cons (.var 0) (.cons (.var 1) (.cons (.bin .Sub (.var 2) (.cst (.int 1))) .nil)))))
noncomputable def ZcK:Tx:=(.ex (.cmp .Eq (.bin .Mod (.var 3) (.cst (.int 11))) (.cst (.int 5))))
noncomputable def Zeg:Sx:=(.ret (.tupl (.cons (.cst (.str (O "if"))) (.cons (.var 5) (.cons (.var 6) (.cons (.call (O "_law_drawn") (.cons (.var 0) (.cons (.var 1) (.cons (.bin .Sub (.var 2) (.cst (.int 1))) .nil)))) .nil))))))
noncomputable def Zf4:Sxs:=(.cons Zeg .nil)
noncomputable def ZcV:Sx:=.iff ZcK Zf4 .nil
noncomputable def Zgt:Sx:=(.ret (.tupl (.cons (.ix (.lstl (.cons (.cst (.str (O "+"))) (.cons (.cst (.str (O "-"))) (.cons (.cst (.str (O "*"))) (.cons (.cst (.str (O "<"))) (.cons (.cst (.str (O "call"))) .nil)))))) (.bin .Sub (.bin .Mod (.var 3) (.cst (.int 11))) (.cst (.int 6)))) (.cons (.var 5) (.cons (.var 6) .nil)))))
noncomputable def ZU:Sxs:=(.cons Zc2 (.cons Zc1 (.cons Zc0 (.cons ZcZ (.cons ZcY (.cons ZcX (.cons ZcW (.cons ZcV (.cons Zgt .nil)))))))))
noncomputable def ZeC:Fd:=⟨[(O "_law_state"),(O "_law_names_here"),(O "_law_room")],[(O "_law_state"),(O "_law_names_here"),(O "_law_room"),(O "_law_cell"),(O "_law_rest"),(O "_law_one"),(O "_law_other")],ZU⟩
noncomputable def Zc4:Sx:=(.set (.nm 2) (.comp [(O "_law_part"),(O "_law_names_here")] [none,some 1] (.pl (.var 0)) (.nm 0) none (.ite (.ex (.blt .isi (.cons (.var 0) (.cons (.cst (.ty "tuple")) .nil)))) (.call (O "_law_apart") (.cons (.var 0) (.cons (.var 1) .nil))) (.var 0))))
noncomputable def ZcO:Tx:=(.ands (.cons (.ex (.cmp .Eq (.ix (.var 0) (.cst (.int 0))) (.cst (.str (O "rec"))))) (.one (.ex (.cmp .Eq (.ix (.var 0) (.cst (.int 1))) (.ix (.var 0) (.cst (.int 2))))))))
noncomputable def Zel:Sx:=(.put (.var 2) (.cst (.int 1)) (.ix (.comp [(O "_law_name"),(O "_law_told")] [none,some 0] (.pl (.var 1)) (.nm 0) (some (.ex (.cmp .NotEq (.var 0) (.ix (.var 1) (.cst (.int 2)))))) (.var 0)) (.cst (.int 0))))
noncomputable def Zf8:Sxs:=(.cons Zel .nil)
noncomputable def Zc3:Sx:=.iff ZcO Zf8 .nil
noncomputable def Zgu:Sx:=(.ret (.blt .tup (.cons (.var 2) .nil)))
noncomputable def Zbd:Sxs:=(.cons Zc4 (.cons Zc3 (.cons Zgu .nil)))
noncomputable def ZeD:Fd:=⟨[(O "_law_told"),(O "_law_names_here")],[(O "_law_told"),(O "_law_names_here"),(O "_law_parts")],Zbd⟩
structure Mak(P:Pg):Prop where
 law_mixed:P.tb.lookup (O "_law_mixed")=some ZeB
 law_next:P.tb.lookup (O "_law_next")=some ZfN
 law_names:Gn.Alk P (O "_law_names") Zan
 law_drawn:P.tb.lookup (O "_law_drawn")=some ZeC
 law_apart:P.tb.lookup (O "_law_apart")=some ZeD
end K02L
end
section
namespace Fr
open PySem L2 IV Tm K02L
open Gn (dep Zm)
variable {P:Pg}
structure Fre(P:Pg):Prop where
 t:Gn.Tre P
 bound_names:P.tb.lookup (O "bound_names")=some Tm.Zal
 free_names:P.tb.lookup (O "free_names")=some ZdG
noncomputable def pd(p:T×List Str):D:=.tup [p.1.d,.tup (p.2.map .str)]
noncomputable def kd(ks:List Str):List (Key×D):=ks.map fun x=>(.inr x,.bl true)
noncomputable def ad(ks:List Str)(x:Str):List Str:=if x∈ks then ks else ks++[x]
noncomputable def add(ks:List Str)(p:T×List Str):List Str:=match own p with
 | some x=>ad ks x
 | none=>ks
theorem Zru(ks:List Str)(x:Str):putD (kd ks) (.inr x) (.bl true)=kd (ad ks x):=by
 have a:((kd ks).any fun kv=>decide (kv.1=.inr x))=decide (x∈ks):=by
   rw [Bool.eq_iff_iff];simp only [kd,List.any_eq_true,List.mem_map,decide_eq_true_eq];constructor
   . rintro ⟨_,⟨y,hy,rfl⟩,e⟩;cases e;exact hy
   . intro hx;exact ⟨_,⟨x,hx,rfl⟩,rfl⟩
 unfold putD ad;rw [a];by_cases hx:x∈ks
 . rw [if_pos (decide_eq_true hx),if_pos hx];unfold kd;rw [List.map_map];refine List.map_congr_left fun y _=>?_;show (if (Sum.inr y:Key)=.inr x then ((Sum.inr y:Key),D.bl true) else (.inr y,.bl true))=_;split<;>rfl
 . rw [if_neg (by simpa using hx),if_neg hx];simp [kd]
theorem Zkb:∀ ks:List Str,ZbB (kd ks)=some ks
 | []=>rfl
 | x::r=>by show (ZbB (kd r)).map _=_;rw [Zkb r];rfl
theorem Zr3:y∈ad ks x↔y∈ks\/x=y:=by
 unfold ad;split
 . rename_i hx;exact ⟨.inl,fun z=>by rcases z with z|rfl;exact z;exact hx⟩
 . simp [eq_comm]
theorem ZtW(n:ks.Nodup):(ad ks x).Nodup:=by
 unfold ad;split
 . exact n
 . rename_i hx;exact List.nodup_append.mpr ⟨n,by simp,fun a ha b hb=>by rw [Ox.mp hb];exact fun e=>hx (e ▸ ha)⟩
theorem Zpy:y∈add ks p↔y∈ks\/own p=some y:=by
 unfold add;split
 . rename_i x e;rw [Zr3,e,Option.some.injEq]
 . rename_i e;rw [e];simp
theorem Zr2(n:ks.Nodup):(add ks p).Nodup:=by
 unfold add;split
 . exact ZtW n
 . exact n
theorem ZkD:(add ks p).length<=ks.length+1:=by
 unfold add ad;split
 . split
   . lia
   . simp
 . lia
theorem ZiJ:∀ (L:List (T×List Str)) (ks:List Str),y∈L.foldl add ks↔y∈ks\/∃ p∈L,own p=some y
 | [],ks=>by simp
 | p::L,ks=>by
   rw [List.foldl_cons,ZiJ L,Zpy,or_assoc];simp
theorem ZkC:∀ (L:List (T×List Str)) {ks:List Str},ks.Nodup->(L.foldl add ks).Nodup
 | [],ks,n=>n
 | p::L,ks,n=>ZkC L (Zr2 n)
theorem ZiK:∀ (L:List (T×List Str)) (ks:List Str),(L.foldl add ks).length<=ks.length+L.length
 | [],ks=>by simp
 | p::L,ks=>by
   have:=ZiK L (add ks p);have:=ZkD (ks:=ks) (p:=p);rw [List.foldl_cons,Os]
   lia
noncomputable def Ok2(i b:Nat)(h h':Hd):Prop:=h.length<=h'.length/\∀ m,m<h.length->m≠i->m≠b->h'[m]? = h[m]?
theorem Ok2.trans(x:Ok2 i b h h')(y:Ok2 i b h' h''):Ok2 i b h h'':=⟨OE x.1 y.1,fun m a c d=>(y.2 m (Ot a x.1) c d).trans (x.2 m a c d)⟩
theorem Zl7{o i e:Ex}(p:ev U e S h=.ok x h1)(q:ev U o S h1=.ok y h2)(r:ev U i S h2=.ok z h3)(s:ZbU y z x h3=.ok () h4):xs1 U (.put o i e) S h=.ok (.nx,S) h4:=by rw [Znx,p,Zh,q,Zh,r,Zh,s];rfl
theorem ZsO(e:h[i]? = some (.dic kvs))(hz:kvs.length<sizeLine):ZbU (.ref i) (.str x) v h=.ok () (h.set i (.dic (putD kvs (.inr x) v))):=by
 simp only [ZbU,e,keyOf];exact if_pos hz
theorem ZtC(e:h[i]? = some (.lst ys))(l:h[j]? = some (.lst zs))(hz:ys.length+zs.length<=sizeLine):Zbp .ext (.ref i) [.ref j] h=.ok .non (h.set i (.lst (ys++zs))):=by
 simp only [Zbp,e,ZfA,ZoN,l];exact if_pos hz
noncomputable def vf(E:Option D)(i j:Nat)(b x y z:Option D):Ev:=[E,some (.ref i),some (.ref j),b,x,y,z]
theorem ZmJ:Zdr GD (.tup (x::xs)) (.int 0) h=.ok x h:=by simp
theorem fn1{U:Tb}{p:T×List Str}(hi:h[i]? = some (.dic (kd ks)))(hk:ks.length<1000000):∃ h1,xs1 U Z9 (vf E i j b (some p.1.d) (some (.tup (p.2.map .str))) z) h=.ok (.nx,vf E i j b (some p.1.d) (some (.tup (p.2.map .str))) z) h1/\h1.length=h.length/\(∀ m,m≠i->h1[m]? = h[m]?)/\h1[i]? = some (.dic (kd (add ks p))):=by
 obtain ⟨t,bs⟩:=p;have no:∀ w ds,t.d=.tup (.str w::ds)->w≠O "name" -> own (t,bs)=none->∃ h1,xs1 U Z9 (vf E i j b (some t.d) (some (.tup (bs.map .str))) z) h=.ok (.nx,vf E i j b (some t.d) (some (.tup (bs.map .str))) z) h1/\h1.length=h.length/\(∀ m,m≠i->h1[m]? = h[m]?)/\h1[i]? = some (.dic (kd (add ks (t,bs)))):=fun w ds e ne o=>by
   refine ⟨h,(Zx (Znq (ZP (Zgc ((ZH rfl rfl).trans (by rw [e];exact ZmJ)) rfl) (decide_eq_false ne)))).trans rfl,rfl,fun _ _=>rfl,?_⟩;rw [hi,add,o]
 cases t with
 | name x =>
   have t1:tst U ZaT (vf E i j b (some (T.name x).d) (some (.tup (bs.map .str))) z) h=.ok (!decide (x∈bs)) h:=Znp (ZP (Zgc (x:=O "name") rfl rfl) (decide_eq_true rfl)) (Zao ((Zs (x:=.str x) (y:=.tup (bs.map .str)) rfl rfl).trans ZbG));by_cases hx:x∈bs
   . refine ⟨h,(Zx (ZP t1 (by simp [hx]))).trans rfl,rfl,fun _ _=>rfl,?_⟩;rw [hi];simp [add,own,hx]
   . refine ⟨h.set i (.dic (kd (ad ks x))),(Zaa (ZP t1 (by simp [hx]))).trans ((Za (Zl7 (x:=.bl true) (y:=.ref i) (z:=.str x) rfl rfl rfl ((ZsO hi (by rw [sizeLine_eq];simp [kd];lia)).trans (by rw [Zru])))).trans rfl),by simp,fun m hm=>by rw [Oc (Ne.symm hm)],?_⟩;rw [Ol (Gn.Zl hi)];simp [add,own,hx]
 | num n=>exact no _ _ rfl (by simp) rfl
 | fn x e=>exact no _ _ rfl (by simp) rfl
 | rcc f x e=>exact no _ _ rfl (by simp) rfl
 | call f a=>exact no _ _ rfl (by simp) rfl
 | iff c a d=>exact no _ _ rfl (by simp) rfl
 | op w a d=>exact no _ _ rfl (by simp) rfl
theorem Zp6{U:Tb}{inn:List D}:∀ (ts:List T) (acc:List D),acc.length+ts.length<=1000->Zu [] (.nm 0) (tsto U none) (ev U (.tupl (.cons (.var 0) (.cons (.var 1) .nil)))) (ts.map T.d) [none,some (.tup inn)] acc h=.ok (acc++(ts.map fun s=>D.tup [s.d,.tup inn])) h
 | [],acc,_=>by simp [Zu,Wk.stays]
 | x::xs,acc,hz=>by
   have ih:=Zp6 (U:=U) (h:=h) (inn:=inn) xs (acc++[.tup [x.d,.tup inn]]) (by simp at hz ⊢;lia);have hl:acc.length<16777216:=by simp at hz;lia
   rw [Op,Z8];simp [Wk.stays,hl,sizeLine_eq];simpa using ih
theorem Zdb(t:T):(bnd t).length<=2/\t.parts.length<=3:=by cases t<;>simp [bnd,T.parts]
theorem fn3(H:Fre P)(n:Nat){p:T×List Str}{h:Hd}{B_:List D}(hi:h[i]? = some (.dic (kd ks)))(hb:h[b]? = some (.lst B_))(ne:i≠b)(hk:ks.length<1000000)(hB:B_.length<=9000000)(hp:p.2.length<=10000):∃ h',xs2 (P.tbl (n+1)) Zah (vf E i j (some (.ref b)) (some p.1.d) (some (.tup (p.2.map .str))) z) h=.ok (.nx,vf E i j (some (.ref b)) (some p.1.d) (some (.tup (p.2.map .str))) (some (.tup ((p.2++bnd p.1).map .str)))) h'/\Ok2 i b h h'/\h'[i]? = some (.dic (kd (add ks p)))/\h'[b]? = some (.lst (B_++(ben p).map pd)):=by
 obtain ⟨h1,e1,l1,s1,d1⟩:=fn1 (U:=P.tbl (n+1)) (E:=E) (j:=j) (b:=some (.ref b)) (z:=z) (p:=p) hi hk;have e2:=Tm.ZpQ H.t H.bound_names n p.1 h1;have e3:=Gn.ZjN H.t n p.1 h1;have hl:=Zdb p.1;have b1:h1[b]? = some (.lst B_):=(s1 b (Ne.symm ne)).trans hb;have lb:=Gn.Zl b1;have li:=Gn.Zl d1;have x2:xs1 (P.tbl (n+1)) ZaX (vf E i j (some (.ref b)) (some p.1.d) (some (.tup (p.2.map .str))) z) h1=.ok (.nx,vf E i j (some (.ref b)) (some p.1.d) (some (.tup (p.2.map .str))) (some (.tup ((p.2++bnd p.1).map .str)))) h1:=by
   refine Zw (i:=6) ((Zd (x:=.tup (p.2.map .str)) rfl (Zn e2 rfl)).trans ?_);rw [ZjY (by rw [sizeLine_eq];simp;lia),List.map_append]
 have c:Zu [] (.nm 0) (tsto (P.tbl (n+1)) none) (ev (P.tbl (n+1)) (.tupl (.cons (.var 0) (.cons (.var 1) .nil)))) (p.1.parts.map T.d) [none,some (.tup ((p.2++bnd p.1).map .str))] [] h1=.ok ((ben p).map pd) h1:=by
   rw [Zp6 _ _ (by simp;lia)];simp [ben,pd,Function.comp_def]
 have x3:xs1 (P.tbl (n+1)) ZaW (vf E i j (some (.ref b)) (some p.1.d) (some (.tup (p.2.map .str))) (some (.tup ((p.2++bnd p.1).map .str)))) h1=.ok (.nx,vf E i j (some (.ref b)) (some p.1.d) (some (.tup (p.2.map .str))) (some (.tup ((p.2++bnd p.1).map .str)))) ((h1++[DO.lst ((ben p).map pd)]).set b (DO.lst (B_++(ben p).map pd))) :=
   ZeG (Zlj (i:=b) rfl b1 (Zb (ZfO (Zhj (Zn e3 rfl)) c) rfl) (ZtC (by rw [Oe lb];exact b1) (by simp) (by rw [sizeLine_eq];simp [ben];lia)))
 refine ⟨_,(Za e1).trans ((Za x2).trans ((Za x3).trans rfl)),⟨by simp;lia,fun m a c d=>?_⟩,?_,?_⟩
 . rw [Oc (Ne.symm d),Oe (by lia)];exact s1 m c
 . rw [Oc (Ne.symm ne),Oe li];exact d1
 . rw [Ol (by simp;lia)]
theorem Zd7(e:h[j]? = some (.lst L))(b:Zbt g d S=some ρ1)(q:body ρ1 h=.ok (.nx,ρ2) h2):ZN [(j,L)] g body (d::ds) S h=ZN [(j,L)] g body ds ρ2 h2:=by
 have:Wk.stays [(j,L)] h=true:=by simp [Wk.stays,e]
 rw [ZN,if_pos this,b];simp only;rw [q];rfl
theorem ZdD{g:Tg}{body:Ev->Hd->R (Fl×Ev)}(e:h[j]? = some (.lst L)):ZN [(j,L)] g body [] S h=.ok (.nx,S) h:=by
 have:Wk.stays [(j,L)] h=true:=by simp [Wk.stays,e]
 rw [ZN,if_pos this]
theorem Zd9{U:Tb}(p:ev U e S h=.ok (.ref i) h1)(l:h1[i]? = some (.lst ys)):evi U (.pl e) S h=.ok ⟨[(i,ys)],ys⟩ h1:=by
 rw [ZmW,p,Zh];simp only [Zfk,l];rfl
theorem ZpZ(H:Fre P)(n:Nat)(ij:j≠i)(jb:j≠b)(ib:i≠b):∀ (xs:List (T×List Str)) (ks:List Str) (B_:List D) (h:Hd) (x y z:Option D),(∀ p∈xs,p.2.length<=10000)->h[i]? = some (.dic (kd ks))->h[b]? = some (.lst B_)->h[j]? = some (.lst Ld)->ks.length+xs.length<1000000->B_.length+3 * xs.length<=9000000 ->
   ∃ h' x' y' z',ZN [(j,Ld)] (.two 4 5) (xs2 (P.tbl (n+1)) Zah) (xs.map pd) (vf E i j (some (.ref b)) x y z) h=.ok (.nx,vf E i j (some (.ref b)) x' y' z') h'/\Ok2 i b h h'/\h'[i]? = some (.dic (kd (xs.foldl add ks)))/\h'[b]? = some (.lst (B_++(xs.flatMap ben).map pd))
 | [],ks,B_,h,x,y,z,_,hi,hb,hj,_,_=>⟨h,x,y,z,ZdD hj,⟨Oq _,fun _ _ _ _=>rfl⟩,hi,by simpa using hb⟩
 | p::xs,ks,B_,h,x,y,z,hp,hi,hb,hj,hk,hB=>by
   rw [Os] at hk hB;obtain ⟨h1,e1,o1,d1,b1⟩:=fn3 H n (E:=E) (j:=j) (z:=z) (p:=p) hi hb ib (by lia) (by lia) (hp p (.head _));have hl:(ben p).length<=3:=by simp [ben];exact (Zdb p.1).2
   have al:=ZkD (ks:=ks) (p:=p);obtain ⟨h2,x',y',z',e2,o2,d2,b2⟩:=ZpZ H n (E:=E) (Ld:=Ld) ij jb ib xs (add ks p) (B_++(ben p).map pd) h1 (some p.1.d) (some (.tup (p.2.map .str))) (some (.tup ((p.2++bnd p.1).map .str))) (fun q hq=>hp q (.tail _ hq)) d1 b1 ((o1.2 j (Gn.Zl hj) ij jb).trans hj) (by lia) (by simp;lia);exact ⟨h2,x',y',z',(Zd7 hj rfl e1).trans e2,o1.trans o2,d2,by rw [b2];simp⟩
noncomputable def pls(L:List (T×List Str)):Nat:=(L.flatMap fun p=>p.1.places).length
theorem Zmg(p:T×List Str)(L:List (T×List Str)):pls (p::L)=p.1.places.length+pls L:=by simp [pls]
theorem Zob(L M:List (T×List Str)):pls (L++M)=pls L+pls M:=by simp [pls]
theorem Zoa(p:T×List Str):pls (ben p)+1=p.1.places.length:=by
 rw [T.places_parts p.1];simp [pls,ben,List.flatMap_map]
theorem ZhQ:∀ L:List (T×List Str),pls (L.flatMap ben)+L.length=pls L
 | []=>rfl
 | p::L=>by
   have:=ZhQ L;have:=Zoa p;rw [List.flatMap_cons,Zob,Zmg,Os]
   lia
theorem ZpY(H:Fre P)(n:Nat):∀ (f F:Nat) (L:List (T×List Str)) (ks:List Str) (h:Hd) (j:Nat) (b x y z:Option D),f<F->(∀ p∈L,dep p.1<f/\p.2.length+2 * dep p.1<=9000)->ks.length+pls L<=900000->ks.Nodup->h[i]? = some (.dic (kd ks))->h[j]? = some (.lst (L.map pd)) ->
   ∃ h' ks' j' b' x' y' z',Z7 (tst (P.tbl (n+1)) Zb2) (xs2 (P.tbl (n+1)) ZbY) F (vf E i j b x y z) h=.ok (.nx,vf E i j' b' x' y' z') h'/\Gn.Up i h h'/\h'[i]? = some (.dic (kd ks'))/\ks'.Nodup/\∀ v,v∈ks'↔v∈ks\/∃ p∈L,Fp p v
 | f,0,L,ks,h,j,b,x,y,z,hf,_,_,_,_,_=>by lia
 | f,F+1,[],ks,h,j,b,x,y,z,hf,hp,hs,nd,hi,hj=>⟨h,ks,j,b,x,y,z,Zjz (ZlG rfl hj),Gn.Up.refl,hi,nd,by simp⟩
 | 0,F+1,p::L,ks,h,j,b,x,y,z,hf,hp,hs,nd,hi,hj=>by have:=(hp p (.head _)).1;lia
 | f+1,F+1,p::L,ks,h,j,b,x,y,z,hf,hp,hs,nd,hi,hj=>by
   have ij:j≠i:=fun e=>by rw [e,hi] at hj;cases hj
   have li:=Gn.Zl hi;have lj:=Gn.Zl hj;have hn:=ZhQ (p::L);have x1:xs1 (P.tbl (n+1)) Zbu (vf E i j b x y z) h=.ok (.nx,vf E i j (some (.ref h.length)) x y z) (h++[.lst []]):=Zw (i:=3) (Zhl (xs:=[]) rfl (Nat.zero_le _));obtain ⟨h1,x1',y1,z1,e1,o1,d1,b1⟩:=ZpZ H n (E:=E) (i:=i) (j:=j) (b:=h.length) (Ld:=(p::L).map pd) ij (by lia) (by lia) (p::L) ks [] (h++[.lst []]) x y z (fun q hq=>by have:=(hp q hq).2;lia) (by rw [Oe li];exact hi) (by simp) (by rw [Oe lj];exact hj) (by lia) (by rw [List.length_nil];lia);have al:=ZiK (p::L) ks;obtain ⟨h2,ks',j',b',x',y',z',e2,o2,d2,nd2,m2⟩:=ZpY H n (E:=E) (i:=i) f F ((p::L).flatMap ben) ((p::L).foldl add ks) h1 h.length (some (.ref h.length)) x1' y1 z1 (by lia) (fun q hq=>by
     obtain ⟨r,hr,hq⟩:=List.mem_flatMap.mp hq;obtain ⟨s,hs,rfl⟩:=List.mem_map.mp hq;have:=Zm hs;have:=hp r hr;have:=Zdb r.1;simp
     lia) (by lia) (ZkC _ nd) d1 (by rw [b1];rfl)
   refine ⟨h2,ks',j',b',x',y',z',(Zjy (ZlG rfl hj) ((Za x1).trans ((Za ((ZaQ (Zd9 rfl (by rw [Oe lj];exact hj))).trans e1)).trans ((Za (Zw (i:=2) (d:=.ref h.length) rfl)).trans rfl)))).trans e2,?_,d2,nd2,fun v=>?_⟩
   . refine Gn.Up.trans ⟨?_,fun m hm hi=>?_⟩ o2
     . have:=o1.1;simp at this;lia
     . rw [o1.2 m (by simp;lia) hi (by lia),Oe hm]
   . rw [m2,ZiJ,or_assoc,<- Zje]
theorem ZkL{a b:List Str}(p:a.Perm b):ZaH a=ZaH b:=((Zbk a).trans (p.trans (Zbk b).symm)).eq_of_pairwise (fun _ _ _ _ h q=>Zh2 h q) (Zce a) (Zce b)
theorem kept{h h':Hd}(u:h.length<=h'.length)(s:∀ m,m<h.length->h'[m]? = h[m]?):∃ g,h'=h++g:=by
 refine ⟨h'.drop h.length,?_⟩;refine List.ext_getElem? fun m=>?_;rcases Nat.lt_or_ge m h.length with q|q
 . rw [Oe q,s m q]
 . rw [Om q,List.getElem?_drop];congr 1;lia
theorem ZqC (H:Fre P) (n:Nat) (t:T) (h:Hd) (hs:t.size<=800000) (hd:dep t<=900) (hk:∀ x∈lf t,PyData.strOk x=true) (hl:(ddS (lf t)).length<64):∃ g,run P (n+2) (O "free_names") [t.d] h=.ok (.ref (h++g).length) (h++g++[.lst ((ZaH (ddS (lf t))).map .str)]):=by
 rw [Zj H.free_names rfl];have x1:xs1 (P.tbl (n+1)) Zb7 [some t.d,none,none,none,none,none,none] h=.ok (.nx,[some t.d,some (.ref h.length),none,none,none,none,none]) (h++[.dic []]):=Zw (i:=1) rfl;have x2:xs1 (P.tbl (n+1)) Zb6 [some t.d,some (.ref h.length),none,none,none,none,none] (h++[.dic []])=.ok (.nx,vf (some t.d) h.length (h++[DO.dic []]).length none none none none) (h++[DO.dic []]++[DO.lst ([(t,[])].map pd)]):=Zw (i:=2) (Zhl (xs:=[_]) rfl (show 1<=1000 by decide));obtain ⟨h',ks,j',b',x',y',z',e3,u,d,nd,mm⟩:=ZpY H n (E:=some t.d) (i:=h.length) (dep t+1) P.L [(t,[])] [] (h++[DO.dic []]++[DO.lst ([(t,[])].map pd)]) (h++[DO.dic []]).length none none none none (by have:=H.t.big;lia) (by simp;lia) (by simp [pls];exact OE hs (by decide)) List.nodup_nil (by simp [kd]) (by simp);have m2:∀ v,v∈ks↔v∈lf t:=fun v=>by rw [mm];simp [Fp]
 have pm:=Zpc nd m2;have hlen:ks.length<64:=by rw [pm.length_eq];exact hl
 obtain ⟨g,eg⟩:=kept (h:=h) (h':=h') (by have:=u.1;simp at this;lia) (fun m hm=>(u.2 m (by simp;lia) (by lia)).trans (by rw [Oe (by simp;lia),Oe hm]));refine ⟨g,?_⟩;have x4:ev (P.tbl (n+1)) (.blt .srt (.cons (.var 1) .nil)) (vf (some t.d) h.length j' b' x' y' z') h'=.ok (.ref h'.length) (h'++[.lst ((ZaH (ddS (lf t))).map .str)]):=by
   refine Zae (xs:=[.ref h.length]) rfl ?_;show ZdR P.GD [.ref h.length] h'=_;simp only [ZdR,dicOf,d,Option.bind_some,Zkb];rw [if_pos ⟨hlen,OC.mpr fun x hx=>hk x ((m2 x).mp hx)⟩,ZkL pm];rfl
 rw [eg] at x4;rw [<- eg] at x4;have e3:xs1 (P.tbl (n+1)) Zb5 (vf (some t.d) h.length (h++[DO.dic []]).length none none none none) (h++[DO.dic []]++[DO.lst ([(t,[])].map pd)])=.ok (.nx,vf (some t.d) h.length j' b' x' y' z') h':=e3;have w:xs2 (P.tbl (n+1)) ZdP [some t.d,none,none,none,none,none,none] h=.ok (.rt (.ref h'.length),vf (some t.d) h.length j' b' x' y' z') (h'++[.lst ((ZaH (ddS (lf t))).map .str)]):=(Za x1).trans ((Za x2).trans ((Za e3).trans (Zc (Zo x4))));rw [<- eg];exact congrArg Ze w
end Fr
end
section
namespace Fr
open PySem L2 IV Tm K02L
open Gn (dep Zm)
variable {P:Pg}
noncomputable def tl(t:T):List D:=(fr t).tail++t.parts.map T.d
theorem ZtK(t:T):∃ w,t.d=.tup (.str w::tl t):=by cases t<;>exact ⟨_,rfl⟩
theorem ZnF(t:T):∀ d∈(fr t).tail,Gn.ZaN d=true:=by cases t<;>simp [fr,Gn.ZaN]
theorem Zsz{U:Tb}{a:Ex}(p:ev U a S h=.ok (T.d t) h1):ev U (.sl a (some (.cst (.int 1))) none) S h=.ok (.tup (tl t)) h1:=by
 obtain ⟨w,e⟩:=ZtK t;rw [Zp0,p,e];simp
theorem Zkf {U:Tb}{e:Ex} (t:T) (p:ev U e S h=.ok t.d h):tst U (.ex (.blt .isi (.cons e (.cons (.cst (.ty "tuple")) .nil)))) S h=.ok true h:=by
 obtain ⟨w,q⟩:=ZtK t;exact Zao (Zae (Zb p (Zb rfl rfl)) (by rw [q];rfl))
theorem ZpX {U:Tb}{e:Ex} (f:Gn.ZaN d=true) (p:ev U e S h=.ok d h):tst U (.ex (.blt .isi (.cons e (.cons (.cst (.ty "tuple")) .nil)))) S h=.ok false h :=
 Zao (Zae (Zb p (Zb rfl rfl)) (Gn.Zic f))
theorem Zs0{U:Tb}{a b c:Tx}(p:tst U a S h=.ok false h1)(q:tst U b S h1=.ok false h2)(r:tst U c S h2=.ok false h3):tst U (.ors (.cons a (.cons b (.one c)))) S h=.ok false h3:=by
 rw [Zfc,Zag,p,Zh];simp only [OG,if_false];rw [Zag,q];exact r
theorem ZhU{U:Tb}{a:Tx}{b:Bool}(p:tst U a S h=.ok b h1):tst U (.nt a) S h=.ok (!b) h1:=by rw [Zqo,p];rfl
theorem ZiZ{α:Type}{x:α}{l f:List α}{a:Nat}(p:(x::l) <+: f.drop a):f[a]? = some x/\a<f.length/\l <+: f.drop (a+1):=by
 obtain ⟨r,e⟩:=p;have e1:f[a]? = some x:=by
   have:=congrArg (·[0]?) e;simp [List.getElem?_drop] at this;exact this.symm
 refine ⟨e1,(Ob.mp e1).1,r,?_⟩;rw [<- List.drop_drop,<- e];rfl
theorem pre_app{α:Type}{l m f:List α}{a:Nat}(p:(l++m) <+: f.drop a):l <+: f.drop a/\m <+: f.drop (a+l.length):=by
 obtain ⟨r,e⟩:=p;refine ⟨⟨m++r,by rw [<- e,Oz]⟩,r,?_⟩;rw [<- List.drop_drop,<- e,Oz,List.drop_left]
theorem add_l(e:h[i]? = some (.lst xs))(e':h[j]? = some (.lst ys))(hz:xs.length+ys.length<=10000000):opB .Add (.ref i) (.ref j) h=.ok (.ref h.length) (h++[.lst (xs++ys)]):=by
 show Znt (.ref i) (.ref j) h=_;simp only [Znt,e,e'];rw [if_pos (by rw [sizeLine_eq];lia)];rfl
theorem Zjq{U:Tb}{e0:Ev}{p:Str->Bool}{tx:Tx}(hj:h[j]? = some (.lst L))(ht:∀ x,tst U tx (some (.str x)::e0) h=.ok (p x) h):∀ (xs acc:List Str),acc.length+xs.length<=9000000->Zu [(j,L)] (.nm 0) (tsto U (some tx)) (ev U (.var 0)) (xs.map .str) (none::e0) (acc.map .str) h=.ok ((acc++xs.filter p).map .str) h
 | [],acc,_=>by
   have:Wk.stays [(j,L)] h=true:=by simp [Wk.stays,hj]
   rw [Oy,Zu,if_pos this];simp
 | x::xs,acc,hz=>by
   rw [Os] at hz;have st:Wk.stays [(j,L)] h=true:=by simp [Wk.stays,hj]
   rw [Op,Z8,if_pos ⟨st,by rw [sizeLine_eq,List.length_map];lia⟩];show (tst U tx (some (.str x)::e0) h).plain.bnd _=_;rw [ht];show (if p x=true then Zu [(j,L)] (.nm 0) (tsto U (some tx)) (ev U (.var 0)) (xs.map .str) (none::e0) (acc.map .str++[.str x]) h else Zu [(j,L)] (.nm 0) (tsto U (some tx)) (ev U (.var 0)) (xs.map .str) (none::e0) (acc.map .str) h)=_;by_cases hx:p x=true
   . have ih:=Zjq (U:=U) (e0:=e0) hj ht xs (acc++[x]) (by simp;lia);rw [if_pos hx,List.filter_cons_of_pos hx];simpa using ih
   . rw [if_neg hx,List.filter_cons_of_neg hx];exact Zjq hj ht xs acc (by lia)
theorem ZuT{U:Tb}{a b:Ex}{x y:Str}(p:ev U a S h=.ok (.str x) h1)(q:ev U b S h1=.ok (.str y) h2):tst U (.ex (.cmp .NotEq a b)) S h=.ok (!decide (x=y)) h2:=Zao ((Zs p q).trans (by rw [Zi5,Zam];rfl))
theorem ZtJ{p q:Prop}[Decidable p][Decidable q](h:q↔¬ p):(!decide p)=decide q:=by by_cases hp:p<;>simp [hp,h]
theorem ZnL{t s:T}(hs:s∈t.parts):s.size<=t.size:=by
 cases t<;>simp [T.parts] at hs
 . subst hs;simp [T.size,T.places]
 . subst hs;simp [T.size,T.places]
 . rcases hs with rfl|rfl<;>simp [T.size,T.places]<;>lia
 . rcases hs with rfl|rfl|rfl<;>simp [T.size,T.places]<;>lia
 . rcases hs with rfl|rfl<;>simp [T.size,T.places]<;>lia
end Fr
end
section
namespace Fr
open PySem L2 IV Tm K02L
open Gn (dep Zm)
variable {P:Pg}
theorem ZjG:∀ ss:List Str,strsOf (ss.map .str)=some ss
 | []=>rfl
 | x::r=>by show (strsOf (r.map .str)).map _=_;rw [ZjG r];rfl
end Fr
end
section
set_option exponentiation.threshold 3000
namespace Fr
open PySem L2 IV Tm K02L
open Gn (dep Zm Wl lt1 ltr Zt nmQ Up)
variable {P:Pg}
noncomputable def mi(c k:Int):Int:=(c % 1000003+1) * (48271+2 * k * k) % 2147483647
noncomputable def mix(c k:Int):Int:=mi c k * (mi c k % 65537+k) % 2147483629
theorem ZjO (H:Mak P) (n:Nat) (c k:Int) (h:Hd) (hk:0<=k/\k<1000):run P (n+1) (O "_law_mixed") [.int c,.int k] h=.ok (.int (mix c k)) h:=by
 rw [Zj H.law_mixed rfl];have b1:2 * k * k<=2000 * 1000:=Int.mul_le_mul (by lia) (by lia) (by lia) (by lia);have b2:0<=2 * k * k:=Int.mul_nonneg (by lia) (by lia);have b3:0<=mi c k/\mi c k<2147483647:=⟨Int.emod_nonneg _ (by decide),Int.emod_lt_of_pos _ (by decide)⟩
 have e1:opB .Mod (.int c) (.int 1000003) h=.ok (.int (c % 1000003)) h:=Z1 (by decide);have e2:opB .Mult (.int 2) (.int k) h=.ok (.int (2 * k)) h:=Zcg ⟨Gn.Zy (by decide) (by decide),Gn.Zy (by lia) (by lia)⟩;have e3:opB .Mult (.int (2 * k)) (.int k) h=.ok (.int (2 * k * k)) h:=Zcg ⟨Gn.Zy (by lia) (by lia),Gn.Zy (by lia) (by lia)⟩;have e4:opB .Mult (.int (c % 1000003+1)) (.int (48271+2 * k * k)) h=.ok (.int ((c % 1000003+1) * (48271+2 * k * k))) h:=Zcg ⟨Gn.Zy (by lia) (by lia),Gn.Zy (by lia) (by lia)⟩;have e5:opB .Mod (.int ((c % 1000003+1) * (48271+2 * k * k))) (.int 2147483647) h=.ok (.int (mi c k)) h:=Z1 (by decide);have e6:opB .Mod (.int (mi c k)) (.int 65537) h=.ok (.int (mi c k % 65537)) h:=Z1 (by decide);have e7:opB .Mult (.int (mi c k)) (.int (mi c k % 65537+k)) h=.ok (.int (mi c k * (mi c k % 65537+k))) h:=Zcg ⟨Gn.Zy (by lia) (by lia),Gn.Zy (by lia) (by lia)⟩;have e8:opB .Mod (.int (mi c k * (mi c k % 65537+k))) (.int 2147483629) h=.ok (.int (mix c k)) h:=Z1 (by decide);have x1:xs1 (P.tbl n) ZcU [some (.int c),some (.int k),none] h=.ok (.nx,[some (.int c),some (.int k),some (.int (mi c k))]) h:=Zw (i:=2) ((Zd ((Zd ((Zd ((Zd rfl rfl).trans e1) rfl).trans rfl) ((Zd rfl ((Zd ((Zd rfl rfl).trans e2) rfl).trans e3)).trans rfl)).trans e4) rfl).trans e5);have w:xs2 (P.tbl n) ZeL [some (.int c),some (.int k),none] h=.ok (.rt (.int (mix c k)),[some (.int c),some (.int k),some (.int (mi c k))]) h:=(Za x1).trans (Zc (Zo ((Zd ((Zd rfl ((Zd ((Zd rfl rfl).trans e6) rfl).trans rfl)).trans e7) rfl).trans e8)));exact congrArg Ze w
noncomputable def St2(h:Hd)(i j:Nat)(cs:List Int)(a:Nat):Prop:=h[i]? = some (.lst [.ref j,.int (a:Int)])/\h[j]? = some (.lst (cs.map .int))/\i≠j
theorem St2.app(s:St2 h i j cs a):St2 (h++g) i j cs a:=⟨by rw [Oe (Gn.Zl s.1)];exact s.1,by rw [Oe (Gn.Zl s.2.1)];exact s.2.1,s.2.2⟩
theorem ZsN(e:h[i]? = some (.lst [x,y])):ZbU (.ref i) (.int 1) v h=.ok () (h.set i (.lst [x,v])):=by
 simp only [ZbU,e];rfl
theorem ZqB (H:Mak P) (n:Nat) {h:Hd} (st:St2 h i j cs a):∃ v,run P (n+1) (O "_law_next") [.ref i] h=.ok (.int v) (h.set i (.lst [.ref j,.int ((a+1:Nat):Int)]))/\St2 (h.set i (.lst [.ref j,.int ((a+1:Nat):Int)])) i j cs (a+1):=by
 obtain ⟨h1,h2,ne⟩:=st;rw [Zj H.law_next rfl];have i1:=Gn.Zl h1;have i2:(h.set i (.lst [.ref j,.int ((a+1:Nat):Int)]))[i]? = some (.lst [.ref j,.int ((a+1:Nat):Int)]):=by rw [Ol i1]
 have i3:(h.set i (.lst [.ref j,.int ((a+1:Nat):Int)]))[j]? = some (.lst (cs.map .int)):=by rw [Oc ne];exact h2
 have x1:xs1 (P.tbl n) ZdM [some (.ref i),none] h=.ok (.nx,[some (.ref i),some (.int a)]) h:=Zw (i:=1) ((ZH rfl rfl).trans ((ZG h1).trans rfl));have x2:xs1 (P.tbl n) ZdL [some (.ref i),some (.int a)] h=.ok (.nx,[some (.ref i),some (.int a)]) (h.set i (.lst [.ref j,.int ((a+1:Nat):Int)])):=Zl7 (x:=.int ((a+1:Nat):Int)) rfl rfl rfl (ZsN h1);generalize h.set i (.lst [.ref j,.int ((a+1:Nat):Int)])=h' at *;have e0:ev (P.tbl n) (.ix (.var 0) (.cst (.int 0))) [some (.ref i),some (.int a)] h'=.ok (.ref j) h':=(ZH rfl rfl).trans ((ZG i2).trans rfl);have tt:tst (P.tbl n) ZdH [some (.ref i),some (.int a)] h'=.ok (decide ((a:Int)<(cs.map D.int).length)) h':=Zrg rfl (Zae (Zb e0 rfl) (ZgF i3));rw [List.length_map] at tt;by_cases hc:a<cs.length
 . have hat:atI (cs.map D.int) (a:Int)=some (.int cs[a]):=by rw [IV.ZbE,On,Og hc];rfl
   refine ⟨cs[a],?_,i2,i3,ne⟩;have w:xs2 (P.tbl n) Zdf [some (.ref i),none] h=.ok (.rt (.int cs[a]),[some (.ref i),some (.int a)]) h':=(Za x1).trans ((Za x2).trans (Zc ((Zaa (ZP tt (decide_eq_true (by lia)))).trans (Zc (Zo ((ZH e0 rfl).trans ((ZG i3).trans (by rw [hat];rfl))))))));exact congrArg Ze w
 . refine ⟨0,?_,i2,i3,ne⟩;have w:xs2 (P.tbl n) Zdf [some (.ref i),none] h=.ok (.rt (.int 0),[some (.ref i),some (.int a)]) h':=(Za x1).trans ((Za x2).trans ((Za ((Zx (ZP tt (decide_eq_false (by lia)))).trans rfl)).trans (Zc (Zo rfl))));exact congrArg Ze w
noncomputable def raw(c p k:Int)(js:List Int):List Nat:=js.map fun j=>ltr ((mix c j+k * 4 * (if j=p then 1 else 0)) % 26)
noncomputable def Sl(l:List Nat):Str:=⟨l.toArray⟩
noncomputable def vn(c sz p:Int)(q:Nat)(k tx j:Option D):Ev:=[some (.int c),some (.str Zt),some (.int sz),some (.int p),some (.ref q),k,tx,j]
theorem ZnJ(l:List Nat)(k:Int):Sl l++lt1 k=Sl (l++[ltr k]):=by
 show (⟨l.toArray++#[ltr k]⟩:Str)=⟨(l++[ltr k]).toArray⟩
 simp
theorem Zfd(l:List Nat):(Sl l).length=l.length:=by simp [Sl,Str.length]
theorem ZmE(H:Mak P)(n:Nat)(hk:0<=k/\k<100):∀ (js:List Int) (acc:List Nat) (o:Option D),PyData.strOk (Sl acc)=true->acc.length+js.length<=100->(∀ j∈js,0<=j/\j<1000) ->
   ∃ o',ZN [] (.nm 7) (xs2 (P.tbl (n+1)) ZbH) (js.map .int) (vn c sz p q (some (.int k)) (some (.str (Sl acc))) o) h=.ok (.nx,vn c sz p q (some (.int k)) (some (.str (Sl (acc++raw c p k js)))) o') h/\PyData.strOk (Sl (acc++raw c p k js))=true
 | [],acc,o,w,_,_=>⟨o,by simp [raw],by simpa [raw] using w⟩
 | j::js,acc,o,w,hz,hj=>by
   rw [Os] at hz;have e1:=ZjO H n c j h (hj j (.head _));have m1:opB .Mult (.int k) (.int 4) h=.ok (.int (k * 4)) h:=Zcg ⟨Gn.Zy (by lia) (by lia),Gn.Zy (by decide) (by decide)⟩;have m2:opB .Mult (.int (k * 4)) (.int (if j=p then 1 else 0)) h=.ok (.int (k * 4 * (if j=p then 1 else 0))) h:=Zcg ⟨Gn.Zy (by lia) (by lia),Gn.Zy (by split<;>decide) (by split<;>decide)⟩;obtain ⟨lt,lw⟩:=Gn.Zrh (GD:=P.GD) (h:=h) ((mix c j+k * 4 * (if j=p then 1 else 0)) % 26) (by lia) (by lia);obtain ⟨ct,cw⟩:=Gn.Zph (h:=h) (x:=Sl acc) (a:=acc.length) ⟨w,by rw [Zfd];exact Oq _⟩ lw (by lia);rw [ZnJ] at ct cw;obtain ⟨o',e2,w2⟩:=ZmE H n (c:=c) (sz:=sz) (p:=p) (q:=q) (h:=h) hk js (acc++[ltr ((mix c j+k * 4 * (if j=p then 1 else 0)) % 26)]) (some (.int j)) cw.1 (by simp;lia) (fun x hx=>hj x (.tail _ hx));have el:acc++raw c p k (j::js)=acc++[ltr ((mix c j+k * 4 * (if j=p then 1 else 0)) % 26)]++raw c p k js:=by simp [raw]
   rw [el];refine ⟨o',(Zda (ρ1:=vn c sz p q (some (.int k)) (some (.str (Sl acc))) (some (.int j))) rfl ?_).trans e2,w2⟩;have eq:ev (P.tbl (n+1)) (.cmp .Eq (.var 7) (.var 3)) (vn c sz p q (some (.int k)) (some (.str (Sl acc))) (some (.int j))) h=.ok (.bl (decide (j=p))) h:=(Zs rfl rfl).trans (by rw [Zby,Zds];rfl);have ei:ev (P.tbl (n+1)) (.blt .int (.cons (.cmp .Eq (.var 7) (.var 3)) .nil)) (vn c sz p q (some (.int k)) (some (.str (Sl acc))) (some (.int j))) h=.ok (.int (if j=p then 1 else 0)) h:=Zae (Zb eq rfl) (by show R.ok (D.int (if decide (j=p)=true then 1 else 0)) h=_;simp);exact (Za (Zw (i:=6) ((Zd rfl ((ZH (x:=.str Zt) rfl ((Zd ((Zd (Zn e1 rfl) ((Zd ((Zd rfl rfl).trans m1) ei).trans m2)).trans rfl) rfl).trans (Z1 (by decide)))).trans lt)).trans ct))).trans rfl
noncomputable def nm(c p k:Int)(js:List Int):Str:=nmQ (Sl (raw c p k js))
theorem ZpT(H:Mak P)(n:Nat){js:List Int}(hsz:Zaj sz=true)(hj:ZJ 0 sz.toNat=js.map .int)(hs:(js.length:Int)=sz)(h8:js.length<=20)(hb:∀ j∈js,0<=j/\j<1000):∀ (ks:List Int) (fo:List Str) (k tx o:Option D),fo.length+ks.length<=100->(∀ k∈ks,0<=k/\k<100) ->
   ∃ k' tx' o',ZN [] (.nm 5) (xs2 (P.tbl (n+1)) ZcD) (ks.map .int) (vn c sz p h.length k tx o) (h++[.lst (fo.map .str)])=.ok (.nx,vn c sz p h.length k' tx' o') (h++[.lst ((fo++ks.map fun k=>nm c p k js).map .str)])/\∀ k∈ks,Wl 20 (nm c p k js)
 | [],fo,k,tx,o,_,_=>⟨k,tx,o,by simp,by simp⟩
 | k::ks,fo,k0,tx,o,hz,hk=>by
   rw [Os] at hz;obtain ⟨o1,e1,w1⟩:=ZmE H n (c:=c) (sz:=sz) (p:=p) (q:=h.length) (h:=h++[.lst (fo.map .str)]) (hk k (.head _)) js [] o (by decide +kernel) (by simp;lia) hb;rw [OB] at e1 w1;have wl:Wl 20 (Sl (raw c p k js)):=⟨w1,by rw [Zfd,raw,List.length_map];exact h8⟩
   have rl:(Sl (raw c p k js)).length=sz:=by rw [Zfd,raw,List.length_map];exact hs
   obtain ⟨k',tx',o',e2,w2⟩:=ZpT H n (c:=c) (sz:=sz) (p:=p) (h:=h) hsz hj hs h8 hb ks (fo++[nm c p k js]) (some (.int k)) (some (.str (nm c p k js))) o1 (by simp;lia) (fun x hx=>hk x (.tail _ hx));have wn:Wl 20 (nm c p k js):=by
     unfold nm nmQ;split
     . exact (Gn.ZpP (h:=[]) wl (by decide)).2
     . exact wl
   refine ⟨k',tx',o',(Zda (ρ1:=vn c sz p h.length (some (.int k)) tx o) rfl (ρ2:=vn c sz p h.length (some (.int k)) (some (.str (nm c p k js))) o1) (h2:=h++[.lst ((fo++[nm c p k js]).map .str)]) ?_).trans (e2.trans (by simp)),fun x hx=>by
     rcases O2.mp hx with rfl|hx
     . exact wn
     . exact w2 x hx⟩
   have y2:xs1 (P.tbl (n+1)) ZbN (vn c sz p h.length (some (.int k)) (some (.str (Sl []))) o) (h++[.lst (fo.map .str)])=.ok (.nx,vn c sz p h.length (some (.int k)) (some (.str (Sl (raw c p k js)))) o1) (h++[.lst (fo.map .str)]):=by
     have ei:evi (P.tbl (n+1)) ZbJ (vn c sz p h.length (some (.int k)) (some (.str (Sl []))) o) (h++[.lst (fo.map .str)])=.ok ⟨[],js.map .int⟩ (h++[.lst (fo.map .str)]):=by
       show (if Zaj sz=true then R.ok (⟨[],ZJ 0 sz.toNat⟩:Wk) (h++[.lst (fo.map .str)]) else .bad)=_;rw [if_pos hsz,hj]
     exact (ZaQ ei).trans e1
   have i4:tst (P.tbl (n+1)) ZbL (vn c sz p h.length (some (.int k)) (some (.str (Sl (raw c p k js)))) o1) (h++[.lst (fo.map .str)])=.ok (decide (Sl (raw c p k js)∈[O "fn",O "rec",O "call",O "if"])) (h++[.lst (fo.map .str)]):=Zao ((Zs (x:=.str (Sl (raw c p k js))) rfl (Zcp (xs:=[.str (O "fn"),.str (O "rec"),.str (O "call"),.str (O "if")]) rfl (by decide))).trans Gn.in4);have y3:xs1 (P.tbl (n+1)) ZbM (vn c sz p h.length (some (.int k)) (some (.str (Sl (raw c p k js)))) o1) (h++[.lst (fo.map .str)])=.ok (.nx,vn c sz p h.length (some (.int k)) (some (.str (nm c p k js))) o1) (h++[.lst (fo.map .str)]):=by
     unfold nm nmQ;by_cases hin:Sl (raw c p k js)∈[O "fn",O "rec",O "call",O "if"]
     . rw [if_pos hin];have rq:=(Gn.ZpP (h:=h++[.lst (fo.map .str)]) wl (by decide)).1;rw [rl] at rq;exact (Zaa (ZP i4 (decide_eq_true hin))).trans ((Za (Zw (i:=6) ((Zd rfl rfl).trans rq))).trans rfl)
     . rw [if_neg hin];exact (Zx (ZP i4 (decide_eq_false hin))).trans rfl
   have y4:=ZeG (Zlj (U:=P.tbl (n+1)) (S:=vn c sz p h.length (some (.int k)) (some (.str (nm c p k js))) o1) (o:=.var 4) (es:=.cons (.var 6) .nil) rfl Znn rfl (Zdw (d:=.str (nm c p k js)) (Znn (h:=h) (x:=.lst (fo.map .str)) (r:=[])) (by rw [sizeLine_eq,List.length_map];lia)));rw [show (h++[DO.lst (fo.map .str)]).set h.length (.lst (fo.map .str++[.str (nm c p k js)]))=h++[.lst ((fo++[nm c p k js]).map .str)] by simp] at y4;exact (Za (Zw (i:=6) (d:=.str (Sl [])) rfl)).trans ((Za y2).trans ((Za y3).trans ((Za y4).trans rfl)))
theorem ZkO(hs:p ∉ s)(ht:p ∉ t):raw c p k (s++p::t)=(s.map fun j=>ltr (mix c j % 26))++ltr ((mix c p+k * 4) % 26)::(t.map fun j=>ltr (mix c j % 26)):=by
 have z:∀ l:List Int,p ∉ l->(l.map fun j=>ltr ((mix c j+k * 4 * (if j=p then 1 else 0)) % 26))=l.map fun j=>ltr (mix c j % 26):=fun l hl=>List.map_congr_left fun j hj=>by
   have:¬ j=p:=fun e=>hl (e ▸ hj);rw [if_neg this];simp
 unfold raw;rw [List.map_append,Op,z s hs,z t ht,if_pos rfl,Int.mul_one]
theorem Zs9{js:List Int}(hp:p∈js)(nd:js.Nodup):nm c p 0 js≠nm c p 1 js:=by
 obtain ⟨s,t,rfl⟩:=List.append_of_mem hp;have nd:=List.nodup_append.mp nd;have h1:p ∉ s:=fun q=>nd.2.2 p q p (.head _) rfl;have h2:p ∉ t:=(List.nodup_cons.mp nd.2.1).1;have e:∀ k,(Sl (raw c p k (s++p::t))).cps.toList=(s.map fun j=>ltr (mix c j % 26))++ltr ((mix c p+k * 4) % 26)::(t.map fun j=>ltr (mix c j % 26)):=fun k=>by rw [ZkO h1 h2];simp [Sl]
 refine Gn.nq (e 0) (e 1) fun q=>?_;have q:=Gn.ZoP ⟨((mix c p+0 * 4) % 26).toNat,by lia⟩ ⟨((mix c p+1 * 4) % 26).toNat,by lia⟩ (by
   show ltr (((mix c p+0 * 4) % 26).toNat:Int)=ltr (((mix c p+1 * 4) % 26).toNat:Int);rw [Int.toNat_of_nonneg (by lia),Int.toNat_of_nonneg (by lia)];exact q)
 have q:=Fin.mk.inj q
 lia
noncomputable def NmW (x:Str):Prop:=(∀ c∈x.cps.toList,97<=c/\c<=122)/\1<=x.length/\x.length<=8/\x ∉ [O "fn",O "rec",O "call",O "if"]
theorem ZoO:∀ i:Fin 26,97<=ltr (i.val:Int)/\ltr (i.val:Int)<=122:=by decide +kernel
theorem ZuM:∀ n:Fin 9,List.replicate n.val 113 ∉ [[102,110],[114,101,99],[99,97,108,108],[105,102]]:=by decide +kernel
theorem ZoG{js:List Int}(h1:1<=js.length)(h8:js.length<=8):NmW (nm c p k js):=by
 have hl:(Sl (raw c p k js)).length=js.length:=by rw [Zfd,raw,List.length_map]
 unfold nm;refine ⟨fun d hd=>?_,by rw [Gn.Zj2,hl];exact h1,by rw [Gn.Zj2,hl];exact h8,fun hk=>?_⟩
 . unfold nmQ at hd;split at hd
   . rw [Gn.Zdp] at hd;rw [(List.mem_replicate.mp hd).2];decide
   . have:(Sl (raw c p k js)).cps.toList=raw c p k js:=by simp [Sl]
     rw [this] at hd;obtain ⟨j,_,rfl⟩:=List.mem_map.mp hd;have:=ZoO ⟨((mix c j+k * 4 * (if j=p then 1 else 0)) % 26).toNat,by lia⟩;rw [Int.toNat_of_nonneg (by lia)] at this;exact this
 . unfold nmQ at hk;split at hk
   . rw [Gn.Zh5,Gn.Zdp,hl] at hk;exact ZuM ⟨js.length,by lia⟩ hk
   . rename_i h;exact h hk
theorem ZnX (H:Mak P) (n:Nat) (c:Int) (h:Hd):∃ ns:List Str,ns.length=5/\(∀ x∈ns,Wl 20 x/\NmW x)/\(∃ a∈ns,∃ b∈ns,a≠b)/\run P (n+2) (O "_law_names") [.int c] h=.ok (.ref h.length) (h++[.lst (ns.map .str)]):=by
 rw [Gn.ZnR H.law_names rfl];have m8:opB .Mod (.int c) (.int 8) h=.ok (.int (c % 8)) h:=Z1 (by decide);have d8:opB .FloorDiv (.int c) (.int 8) h=.ok (.int (c / 8)) h:=Zch (by decide);have mp:opB .Mod (.int (c / 8)) (.int (1+c % 8)) h=.ok (.int (c / 8 % (1+c % 8))) h:=Z1 (by lia);have b1:0<=c % 8/\c % 8<8:=by lia
 have b2:0<=c / 8 % (1+c % 8)/\c / 8 % (1+c % 8)<1+c % 8:=⟨Int.emod_nonneg _ (by lia),Int.emod_lt_of_pos _ (by lia)⟩
 generalize esz:1+c % 8=sz at *;generalize epp:c / 8 % sz=p at *;have hj:ZJ 0 sz.toNat=((List.range sz.toNat).map fun (m:Nat)=>(m:Int)).map .int:=by simp [ZJ]
 obtain ⟨k',tx',o',e2,w2⟩:=ZpT H n (c:=c) (sz:=sz) (p:=p) (h:=h) (js:=(List.range sz.toNat).map fun (m:Nat)=>(m:Int)) (by simp [Zaj];lia) hj (by simp;lia) (by simp;lia) (fun j hj=>by simp at hj;lia) [0,1,2,3,4] [] none none none (by decide) (by decide);refine ⟨[0,1,2,3,4].map fun k=>nm c p k ((List.range sz.toNat).map fun (m:Nat)=>(m:Int)),rfl,?_,⟨nm c p 0 ((List.range sz.toNat).map fun (m:Nat)=>(m:Int)),by simp,nm c p 1 ((List.range sz.toNat).map fun (m:Nat)=>(m:Int)),by simp,Zs9 (List.mem_map.mpr ⟨p.toNat,by simp;lia,by lia⟩) (List.pairwise_map.mpr (List.nodup_range.imp fun ne e=>ne (by lia)))⟩,?_⟩
 . intro x hx;obtain ⟨k,hk,rfl⟩:=List.mem_map.mp hx;exact ⟨w2 k hk,ZoG (by simp;lia) (by simp;lia)⟩
 . have x2:xs1 (P.tbl (n+1)) ZcT [some (.int c),some (.str Zt),none,none,none,none,none,none] h=.ok (.nx,[some (.int c),some (.str Zt),some (.int sz),none,none,none,none,none]) h:=Zw (i:=2) ((Zd rfl ((Zd rfl rfl).trans m8)).trans (by rw [<- esz];rfl));have x3:xs1 (P.tbl (n+1)) ZcS [some (.int c),some (.str Zt),some (.int sz),none,none,none,none,none] h=.ok (.nx,[some (.int c),some (.str Zt),some (.int sz),some (.int p),none,none,none,none]) h:=Zw (i:=3) ((Zd ((Zd rfl rfl).trans d8) rfl).trans mp);have x4:xs1 (P.tbl (n+1)) ZcR [some (.int c),some (.str Zt),some (.int sz),some (.int p),none,none,none,none] h=.ok (.nx,vn c sz p h.length none none none) (h++[.lst []]):=Zw (i:=4) (Zhl (xs:=[]) rfl (Nat.zero_le _));have x5:xs1 (P.tbl (n+1)) ZcQ (vn c sz p h.length none none none) (h++[.lst []])=_:=(ZaQ (w:=⟨[],[0,1,2,3,4].map .int⟩) rfl).trans e2;rw [OB] at x5;have w:xs2 (P.tbl (n+1)) Zb4 [some (.int c),none,none,none,none,none,none,none] h=_:=(Za (Zw (i:=1) (d:=.str Zt) rfl)).trans ((Za x2).trans ((Za x3).trans ((Za x4).trans ((Za x5).trans (Zc (Zo rfl))))));exact congrArg Ze w
end Fr
end
section
namespace Fr
open PySem L2 IV Tm K02L
open Gn (dep Zm Wl Up)
variable {P:Pg}
noncomputable def Nm(ns:List Str):T->Prop
 | .num n=>0<=n/\n<1000000
 | .name x=>x∈ns
 | .fn x e=>x∈ns/\Nm ns e
 | .rcc f x e=>f∈ns/\x∈ns/\Nm ns e
 | .call f a=>Nm ns f/\Nm ns a
 | .iff c a b=>Nm ns c/\Nm ns a/\Nm ns b
 | .op _ a b=>Nm ns a/\Nm ns b
theorem ZcA:∀ {t:T},Nm ns t->∀ x∈lf t,x∈ns
 | .num _,_,x,hx=>by cases hx
 | .name y,n,x,hx=>by rw [Ox.mp hx];exact n
 | .fn y e,n,x,hx=>ZcA n.2 x (List.mem_filter.mp hx).1
 | .rcc f y e,n,x,hx=>ZcA n.2.2 x (List.mem_filter.mp hx).1
 | .call f a,n,x,hx=>by rcases OD.mp hx with q|q;exact ZcA n.1 x q;exact ZcA n.2 x q
 | .iff c a b,n,x,hx=>by
   rcases OD.mp hx with q|q
   . exact ZcA n.1 x q
   . rcases OD.mp q with q|q;exact ZcA n.2.1 x q;exact ZcA n.2.2 x q
 | .op w a b,n,x,hx=>by rcases OD.mp hx with q|q;exact ZcA n.1 x q;exact ZcA n.2 x q
theorem Z3:∀ (d:Nat) (t:T),dep t<=d->2 * t.size+1<=3 ^ (d+1)
 | d,.num _,_=>by have:3 ^ 1<=3 ^ (d+1):=Nat.pow_le_pow_right (by decide) (by lia);simp [T.size,T.places];lia
 | d,.name _,_=>by have:3 ^ 1<=3 ^ (d+1):=Nat.pow_le_pow_right (by decide) (by lia);simp [T.size,T.places];lia
 | 0,.fn x e,h=>by simp [dep] at h
 | 0,.rcc f x e,h=>by simp [dep] at h
 | 0,.call f e,h=>by simp [dep] at h
 | 0,.iff c x e,h=>by simp [dep] at h
 | 0,.op c x e,h=>by simp [dep] at h
 | d+1,.fn x e,h=>by have:=Z3 d e (by simp [dep] at h;lia);simp [T.size,T.places,Nat.pow_succ] at *;lia
 | d+1,.rcc f x e,h=>by have:=Z3 d e (by simp [dep] at h;lia);simp [T.size,T.places,Nat.pow_succ] at *;lia
 | d+1,.call f a,h=>by have:=Z3 d f (by simp [dep] at h;lia);have:=Z3 d a (by simp [dep] at h;lia);simp [T.size,T.places,Nat.pow_succ] at *;lia
 | d+1,.op w f a,h=>by have:=Z3 d f (by simp [dep] at h;lia);have:=Z3 d a (by simp [dep] at h;lia);simp [T.size,T.places,Nat.pow_succ] at *;lia
 | d+1,.iff c f a,h=>by have:=Z3 d c (by simp [dep] at h;lia);have:=Z3 d f (by simp [dep] at h;lia);have:=Z3 d a (by simp [dep] at h;lia);simp [T.size,T.places,Nat.pow_succ] at *;lia
theorem at5{ns:List Str}(h5:ns.length=5)(z:Int)(h0:0<=z/\z<5):∃ x∈ns,atI (ns.map D.str) z=some (.str x):=by
 obtain ⟨k,rfl⟩:∃ k:Nat,z=k:=⟨z.toNat,by lia⟩
 have hk:k<ns.length:=by lia
 exact ⟨ns[k],List.getElem_mem hk,by rw [IV.ZbE,On,Og hk];rfl⟩
theorem Zj1{U:Tb}{e:Ex}{ns:List Str}(h5:ns.length=5)(hm:h[m]? = some (.lst (ns.map .str)))(p:ev U a S h=.ok (.ref m) h)(q:ev U e S h=.ok (.int z) h):∃ x∈ns,ev U (.ix a (.bin .Mod e (.cst (.int 5)))) S h=.ok (.str x) h:=by
 obtain ⟨x,hx,e1⟩:=at5 h5 (z % 5) (by lia);exact ⟨x,hx,(ZH p ((Zd q rfl).trans (Z1 (by decide)))).trans ((ZG hm).trans (by rw [e1];rfl))⟩
theorem or3{U:Tb}{a b c:Tx}{x y z:Bool}(p:tst U a S h=.ok x h)(q:tst U b S h=.ok y h)(r:tst U c S h=.ok z h):tst U (.ors (.cons a (.cons b (.one c)))) S h=.ok (x || y || z) h:=by
 rw [Zfc,Zag,p,Zh];cases x
 . simp only [OG,if_false,Bool.false_or];rw [Zag,q,Zh];cases y
   . simp only [OG,if_false,Bool.false_or];exact r
   . rfl
 . rfl
theorem or2{U:Tb}{a b:Tx}{x y:Bool}(p:tst U a S h=.ok x h)(q:tst U b S h=.ok y h):tst U (.ors (.cons a (.one b))) S h=.ok (x || y) h:=by
 cases x
 . exact (ZsZ p q).trans (by simp)
 . exact (ZuN p).trans (by simp)
noncomputable def vd(i m:Nat)(room c s:Int)(o p:Option D):Ev:=[some (.ref i),some (.ref m),some (.int room),some (.int c),some (.int s),o,p]
inductive Dr(ns:List Str)(cs:List Int)(i j:Nat)(h:Hd)(a r:Nat)(x:R D):Prop
 | mk (t:T) (h':Hd) (a':Nat) (e:x=.ok t.d h') (u:Up i h h') (s:St2 h' i j cs a') (l:a<a') (n:Nm ns t) (d:dep t<=r)
noncomputable def DrA (P:Pg) (ns:List Str) (cs:List Int) (i j m r:Nat):Prop:=∀ (n:Nat) (h:Hd) (a:Nat) (room:Int),room=r->St2 h i j cs a->h[m]? = some (.lst (ns.map .str))->Dr ns cs i j h a r (run P (n+r+2) (O "_law_drawn") [.ref i,.ref m,.int room] h)
theorem wd5 (z:Int) (h0:0<=z/\z<5):∃ w:Str,atI [D.str (O "+"),.str (O "-"),.str (O "*"),.str (O "<"),.str (O "call")] z=some (.str w)/\(w=O "call" \/ ∃ v:Wd,w=v.s):=by
 have:z=0\/z=1\/z=2\/z=3\/z=4:=by lia
 rcases this with rfl|rfl|rfl|rfl|rfl
 . exact ⟨_,rfl,.inr ⟨.add,rfl⟩⟩
 . exact ⟨_,rfl,.inr ⟨.sub,rfl⟩⟩
 . exact ⟨_,rfl,.inr ⟨.mul,rfl⟩⟩
 . exact ⟨_,rfl,.inr ⟨.lt,rfl⟩⟩
 . exact ⟨_,rfl,.inl rfl⟩
theorem Zm5(H:Mak P){ns:List Str}(h5:ns.length=5)(im:m≠i){r:Nat}(ih:∀ r',r=r'+1->DrA P ns cs i j m r'):DrA P ns cs i j m r:=by
 intro n h a room hr st hm;rw [Zj H.law_drawn rfl];obtain ⟨c,e1,s1⟩:=ZqB H (n+r) st;have u1:Up i h (h.set i (.lst [.ref j,.int ((a+1:Nat):Int)])):=Up.set;generalize h.set i (.lst [.ref j,.int ((a+1:Nat):Int)])=h1 at *;have m1:=u1.at hm im;have x1:xs1 (P.tbl (n+r+1)) Zc2 [some (.ref i),some (.ref m),some (.int room),none,none,none,none] h=.ok (.nx,[some (.ref i),some (.ref m),some (.int room),some (.int c),none,none,none]) h1:=Zw (i:=3) (Zn e1 rfl);have x2:xs1 (P.tbl (n+r+1)) Zc1 [some (.ref i),some (.ref m),some (.int room),some (.int c),none,none,none] h1=.ok (.nx,vd i m room c (c / 11) none none) h1:=Zw (i:=4) ((Zd rfl rfl).trans (Zch (by decide)));generalize c / 11=s at *;have y12:xs2 (P.tbl (n+r+1)) ZU [some (.ref i),some (.ref m),some (.int room),none,none,none,none] h=xs2 (P.tbl (n+r+1)) (tlS (tlS ZU)) (vd i m room c s none none) h1:=(Za x1).trans (Za x2);have c11:∀ (o p:Option D) (hh:Hd),ev (P.tbl (n+r+1)) (.bin .Mod (.var 3) (.cst (.int 11))) (vd i m room c s o p) hh=.ok (.int (c % 11)) hh:=fun o p hh=>(Zd rfl rfl).trans (Z1 (by decide));have t3:tst (P.tbl (n+r+1)) ZcN (vd i m room c s none none) h1=.ok (decide (c % 11<2) || decide (room=0) || decide ((cs.map D.int).length<((a+1:Nat):Int))) h1 :=
   or3 (Zrg (c11 _ _ _) rfl) (Zjl rfl rfl) (ZrA ((ZH rfl rfl).trans ((ZG s1.1).trans rfl)) (Zae (Zb ((ZH rfl rfl).trans ((ZG s1.1).trans rfl)) rfl) (ZgF s1.2.1)))
 cases hb:(decide (c % 11<2) || decide (room=0) || decide ((cs.map D.int).length<((a+1:Nat):Int))) with
 | true =>
   rw [hb] at t3;have q3:tst (P.tbl (n+r+1)) Zbs (vd i m room c s none none) h1=.ok (decide (s % 3=0)) h1:=Zjl ((Zd rfl rfl).trans (Z1 (by decide))) rfl;by_cases hs:s % 3=0
   . obtain ⟨v,ev4,v4⟩:=Gn.at4 (a:=0) (b:=999999) (c:=s / 12 % 1000000) (d:=s / 12 % 10) (s / 3 % 4) (by lia) (by lia);have d12:∀ hh,ev (P.tbl (n+r+1)) (.bin .FloorDiv (.var 4) (.cst (.int 12))) (vd i m room c s none none) hh=.ok (.int (s / 12)) hh:=fun hh=>(Zd rfl rfl).trans (Zch (by decide));have z:=Zp8 (U:=P.tbl (n+r+1)) (S:=vd i m room c s none none) (h:=h1) (es:=.cons (.cst (.int 0)) (.cons (.cst (.int 999999)) (.cons (.bin .Mod (.bin .FloorDiv (.var 4) (.cst (.int 12))) (.cst (.int 1000000))) (.cons (.bin .Mod (.bin .FloorDiv (.var 4) (.cst (.int 12))) (.cst (.int 10))) .nil)))) (e:=.bin .Mod (.bin .FloorDiv (.var 4) (.cst (.int 3))) (.cst (.int 4))) ev4 (Zb rfl (Zb rfl (Zb ((Zd (d12 _) rfl).trans (Z1 (by decide))) (Zb ((Zd (d12 _) rfl).trans (Z1 (by decide))) rfl)))) ((Zd ((Zd rfl rfl).trans (Zch (by decide))) rfl).trans (Z1 (by decide))) (by simp);have fin:=(congrArg Ze y12).trans (congrArg Ze (Zc ((Zaa t3).trans (Zc ((Zaa (ZP q3 (decide_eq_true hs))).trans (Zc (Zo (Zcp (xs:=[_,_]) (Zb rfl (Zb z rfl)) (show 2<=1000 by decide)))))))));exact ⟨.num v,_,a+1,fin,u1.trans Up.app,s1.app,by lia,(by show 0<=v/\v<1000000;lia),Nat.zero_le _⟩
   . obtain ⟨x,hx,z⟩:=Zj1 (U:=P.tbl (n+r+1)) (S:=vd i m room c s none none) (h:=h1) (a:=.var 1) (e:=.bin .FloorDiv (.var 4) (.cst (.int 3))) h5 m1 rfl ((Zd rfl rfl).trans (Zch (by decide)));refine ⟨.name x,h1,a+1,?_,u1,s1,by lia,hx,Nat.zero_le _⟩;exact (congrArg Ze y12).trans (congrArg Ze (Zc ((Zaa t3).trans ((Za ((Zx (ZP q3 (decide_eq_false hs))).trans rfl)).trans (Zc (Zo (Zcp (xs:=[_,_]) (Zb rfl (Zb z rfl)) (show 2<=1000 by decide))))))))
 | false =>
   rw [hb] at t3;have hc2:¬ c % 11<2/\room≠0:=by
     simp only [Bool.or_eq_false_iff,decide_eq_false_iff_not] at hb;exact ⟨hb.1.1,hb.1.2⟩
   obtain ⟨r',rfl⟩:∃ r',r=r'+1:=⟨r - 1,by lia⟩
   have ih:=ih r' rfl;have y3:xs1 (P.tbl (n+(r'+1)+1)) Zc0 (vd i m room c s none none) h1=.ok (.nx,vd i m room c s none none) h1:=(Zx t3).trans rfl;obtain ⟨t1,g1,a1,e2,v1,s2,l1,n1,d1⟩:=ih n h1 (a+1) (room - 1) (by lia) s1 m1;have m2:=v1.at m1 im;have y4:xs1 (P.tbl (n+(r'+1)+1)) ZcZ (vd i m room c s none none) h1=.ok (.nx,vd i m room c s (some t1.d) none) g1:=Zw (i:=5) (Zn e2 rfl);have y34:xs2 (P.tbl (n+(r'+1)+1)) (tlS (tlS ZU)) (vd i m room c s none none) h1=xs2 (P.tbl (n+(r'+1)+1)) (tlS (tlS (tlS (tlS ZU)))) (vd i m room c s (some t1.d) none) g1:=(Za y3).trans (Za y4);have t5:tst (P.tbl (n+(r'+1)+1)) ZcM (vd i m room c s (some t1.d) none) g1=.ok (decide (c % 11=2) || decide (c % 11=3)) g1:=or2 (Zjl (c11 _ _ _) rfl) (Zjl (c11 _ _ _) rfl);obtain ⟨x,hx,zx⟩:=Zj1 (U:=P.tbl (n+(r'+1)+1)) (S:=vd i m room c s (some t1.d) none) (h:=g1) (a:=.var 1) (e:=.var 4) h5 m2 rfl rfl;by_cases h23:c % 11=2\/c % 11=3
   . refine ⟨.fn x t1,g1,a1,?_,u1.trans v1,s2,by lia,⟨hx,n1⟩,by simp only [dep];lia⟩;exact (congrArg Ze (y12.trans y34)).trans (congrArg Ze (Zc ((Zaa (ZP t5 (by simpa using h23))).trans (Zc (Zo (Zcp (xs:=[_,_,_]) (Zb rfl (Zb zx (Zb rfl rfl))) (show 3<=1000 by decide)))))))
   have y5:xs1 (P.tbl (n+(r'+1)+1)) ZcY (vd i m room c s (some t1.d) none) g1=.ok (.nx,vd i m room c s (some t1.d) none) g1:=(Zx (ZP t5 (by simpa using h23))).trans rfl;have t6:tst (P.tbl (n+(r'+1)+1)) ZcL (vd i m room c s (some t1.d) none) g1=.ok (decide (c % 11=4)) g1:=Zjl (c11 _ _ _) rfl;obtain ⟨y,hy,zy⟩:=Zj1 (U:=P.tbl (n+(r'+1)+1)) (S:=vd i m room c s (some t1.d) none) (h:=g1) (a:=.var 1) (e:=.bin .FloorDiv (.var 4) (.cst (.int 5))) h5 m2 rfl ((Zd rfl rfl).trans (Zch (by decide)));by_cases h4:c % 11=4
   . refine ⟨.rcc x y t1,g1,a1,?_,u1.trans v1,s2,by lia,⟨hx,hy,n1⟩,by simp only [dep];lia⟩;exact (congrArg Ze (y12.trans y34)).trans (congrArg Ze ((Za y5).trans (Zc ((Zaa (ZP t6 (decide_eq_true h4))).trans (Zc (Zo (Zcp (xs:=[_,_,_,_]) (Zb rfl (Zb zx (Zb zy (Zb rfl rfl)))) (show 4<=1000 by decide))))))))
   have y6:xs1 (P.tbl (n+(r'+1)+1)) ZcX (vd i m room c s (some t1.d) none) g1=.ok (.nx,vd i m room c s (some t1.d) none) g1:=(Zx (ZP t6 (decide_eq_false h4))).trans rfl;obtain ⟨t2,g2,a2,e3,v2,s3,l2,n2,d2⟩:=ih n g1 a1 (room - 1) (by lia) s2 m2;have m3:=v2.at m2 im;have y7:xs1 (P.tbl (n+(r'+1)+1)) ZcW (vd i m room c s (some t1.d) none) g1=.ok (.nx,vd i m room c s (some t1.d) (some t2.d)) g2:=Zw (i:=6) (Zn e3 rfl);have y57:xs2 (P.tbl (n+(r'+1)+1)) (tlS (tlS (tlS (tlS ZU)))) (vd i m room c s (some t1.d) none) g1=xs2 (P.tbl (n+(r'+1)+1)) (tlS (tlS (tlS (tlS (tlS (tlS (tlS ZU))))))) (vd i m room c s (some t1.d) (some t2.d)) g2:=(Za y5).trans ((Za y6).trans (Za y7));have t8:tst (P.tbl (n+(r'+1)+1)) ZcK (vd i m room c s (some t1.d) (some t2.d)) g2=.ok (decide (c % 11=5)) g2:=Zjl (c11 _ _ _) rfl;by_cases h5':c % 11=5
   . obtain ⟨t3',g3,a3,e4,v3,s4,l3,n3,d3⟩:=ih n g2 a2 (room - 1) (by lia) s3 m3;refine ⟨.iff t1 t2 t3',g3,a3,?_,u1.trans (v1.trans (v2.trans v3)),s4,by lia,⟨n1,n2,n3⟩,by simp only [dep];lia⟩;exact (congrArg Ze (y12.trans (y34.trans y57))).trans (congrArg Ze (Zc ((Zaa (ZP t8 (decide_eq_true h5'))).trans (Zc (Zo (Zcp (xs:=[_,_,_,_]) (Zb rfl (Zb rfl (Zb rfl (Zb (Zn e4 rfl) rfl)))) (show 4<=1000 by decide)))))))
   have y8:xs1 (P.tbl (n+(r'+1)+1)) ZcV (vd i m room c s (some t1.d) (some t2.d)) g2=.ok (.nx,vd i m room c s (some t1.d) (some t2.d)) g2:=(Zx (ZP t8 (decide_eq_false h5'))).trans rfl;obtain ⟨w,zw,hw⟩:=wd5 (c % 11 - 6) (by lia);have z:=Zp8 (U:=P.tbl (n+(r'+1)+1)) (S:=vd i m room c s (some t1.d) (some t2.d)) (h:=g2) (es:=.cons (.cst (.str (O "+"))) (.cons (.cst (.str (O "-"))) (.cons (.cst (.str (O "*"))) (.cons (.cst (.str (O "<"))) (.cons (.cst (.str (O "call"))) .nil))))) (e:=.bin .Sub (.bin .Mod (.var 3) (.cst (.int 11))) (.cst (.int 6))) zw rfl ((Zd (c11 _ _ _) rfl).trans rfl) (by simp);have fin:=(congrArg Ze (y12.trans (y34.trans y57))).trans (congrArg Ze ((Za y8).trans (Zc (Zo (Zcp (xs:=[_,_,_]) (Zb z (Zb rfl (Zb rfl rfl))) (show 3<=1000 by decide))))));rcases hw with rfl|⟨v,rfl⟩
   . exact ⟨.call t1 t2,_,a2,fin,u1.trans (v1.trans (v2.trans Up.app)),s3.app,by lia,⟨n1,n2⟩,by simp only [dep];lia⟩
   . exact ⟨.op v t1 t2,_,a2,fin,u1.trans (v1.trans (v2.trans Up.app)),s3.app,by lia,⟨n1,n2⟩,by simp only [dep];lia⟩
theorem ZjP(H:Mak P){ns:List Str}(h5:ns.length=5)(im:m≠i):∀ r,DrA P ns cs i j m r
 | 0=>Zm5 H h5 im fun r' e=>by lia
 | r+1=>Zm5 H h5 im fun r' e=>by cases e;exact ZjP H h5 im r
end Fr
end
section
namespace Fr
open PySem L2 IV Tm K02L
open Gn (dep Zm Wl Up)
variable {P:Pg}
noncomputable def Na(ns:List Str):T->Prop
 | .num n=>0<=n/\n<1000000
 | .name x=>x∈ns
 | .fn x e=>x∈ns/\Na ns e
 | .rcc f x e=>f∈ns/\x∈ns/\f≠x/\Na ns e
 | .call f a=>Na ns f/\Na ns a
 | .iff c a b=>Na ns c/\Na ns a/\Na ns b
 | .op _ a b=>Na ns a/\Na ns b
theorem Zcy:∀ {t:T},Na ns t->Nm ns t
 | .num _,n=>n
 | .name _,n=>n
 | .fn _ _,n=>⟨n.1,Zcy n.2⟩
 | .rcc _ _ _,n=>⟨n.1,n.2.1,Zcy n.2.2.2⟩
 | .call _ _,n=>⟨Zcy n.1,Zcy n.2⟩
 | .iff _ _ _,n=>⟨Zcy n.1,Zcy n.2.1,Zcy n.2.2⟩
 | .op _ _ _,n=>⟨Zcy n.1,Zcy n.2⟩
noncomputable def ZrP:Ex:=.ite (.ex (.blt .isi (.cons (.var 0) (.cons (.cst (.ty "tuple")) .nil)))) (.call (O "_law_apart") (.cons (.var 0) (.cons (.var 1) .nil))) (.var 0)
theorem Ztp{U:Tb}{c:Tx}(e:tst U c S h=.ok true h1):ev U (.ite c a b) S h=ev U a S h1:=by rw [ZmY,e];rfl
theorem Ztq{U:Tb}{c:Tx}(e:tst U c S h=.ok false h1):ev U (.ite c a b) S h=ev U b S h1:=by rw [ZmY,e];rfl
theorem Zjp{U:Tb}{e:Ex}{acc:List D}(hz:acc.length<=100000)(q:ev U e (some d::S) h=.ok x h1):Zu [] (.nm 0) (tsto U none) (ev U e) (d::ds) (none::S) acc h=Zu [] (.nm 0) (tsto U none) (ev U e) ds (none::S) (acc++[x]) h1:=by
 rw [Z8,if_pos ⟨rfl,by rw [sizeLine_eq];lia⟩];show (ev U e (some d::S) h).plain.bnd _=_;rw [q];rfl
theorem ZkB{U:Tb}:∀ (fs rest acc:List D),(∀ d∈fs,Gn.ZaN d=true)->acc.length+fs.length<1000->Zu [] (.nm 0) (tsto U none) (ev U ZrP) (fs++rest) [none,some (.ref m)] acc h=Zu [] (.nm 0) (tsto U none) (ev U ZrP) rest [none,some (.ref m)] (acc++fs) h
 | [],rest,acc,_,_=>by simp
 | d::fs,rest,acc,hf,hz=>by
   rw [Os] at hz;have ih:=ZkB (U:=U) (m:=m) (h:=h) fs rest (acc++[d]) (fun x hx=>hf x (.tail _ hx)) (by simp;lia);exact (Zjp (by lia) ((Ztq (ZpX (hf d (.head _)) rfl)).trans rfl)).trans (ih.trans (by simp))
theorem ZiI {U:Tb}{nd:List D}{D0:Nat}:∀ (ss:List T) (acc:List D) (h:Hd),(∀ s∈ss,∀ h:Hd,h[m]? = some (.lst nd)->∃ s' g,U.C (O "_law_apart") [s.d,.ref m] h=.ok (T.d s') (h++g)/\Na ns s'/\dep s'+1<=D0)->h[m]? = some (.lst nd)->acc.length+ss.length<1000 ->
   ∃ (ss':List T) (g:Hd),Zu [] (.nm 0) (tsto U none) (ev U ZrP) (ss.map T.d) [none,some (.ref m)] acc h=.ok (acc++ss'.map T.d) (h++g)/\ss'.length=ss.length/\∀ s∈ss',Na ns s/\dep s+1<=D0
 | [],acc,h,_,_,_=>⟨[],[],by simp [Zu,Wk.stays],rfl,by simp⟩
 | s::ss,acc,h,hc,hm,hz=>by
   rw [Os] at hz;obtain ⟨s',g1,e1,n1,d1⟩:=hc s (.head _) h hm;obtain ⟨ss',g2,e2,l2,q2⟩:=ZiI (U:=U) (m:=m) (ns:=ns) (nd:=nd) (D0:=D0) ss (acc++[s'.d]) (h++g1) (fun x hx=>hc x (.tail _ hx)) (by rw [Oe (Gn.Zl hm)];exact hm) (by simp;lia);refine ⟨s'::ss',g1++g2,(Zjp (by lia) ((Ztp (Zkf s rfl)).trans (Zn e1 rfl))).trans (e2.trans (by simp)),by simp [l2],fun x hx=>?_⟩;rcases O2.mp hx with rfl|hx
   . exact ⟨n1,d1⟩
   . exact q2 x hx
noncomputable def va(t:T)(m:Nat)(o:Option D):Ev:=[some t.d,some (.ref m),o]
theorem Zn2(e:h[i]? = some (.lst (x::y::r))):ZbU (.ref i) (.int 1) v h=.ok () (h.set i (.lst (x::v::r))):=by
 simp only [ZbU,e];rw [show ixN (x::y::r).length 1=some 1 by simp [ixN];lia];rfl
theorem Ztj{α:Type}{l:List α}(h:l.length=1):∃ a,l=[a]:=by match l,h with|[a],_=>exact ⟨a,rfl⟩
theorem Zti{α:Type}{l:List α}(h:l.length=2):∃ a b,l=[a,b]:=by match l,h with|[a,b],_=>exact ⟨a,b,rfl⟩
theorem ZuU{α:Type}{l:List α}(h:l.length=3):∃ a b c,l=[a,b,c]:=by match l,h with|[a,b,c],_=>exact ⟨a,b,c,rfl⟩
theorem apart1 (H:Mak P) (k:Nat) (t:T) {h:Hd}{D0:Nat} (hd:dep t<=D0) (hn:Nm ns t) (two:∃ a∈ns,∃ b∈ns,a≠b) (h5:ns.length=5) (hm:h[m]? = some (.lst (ns.map .str))) (hc:∀ s∈t.parts,∀ h:Hd,h[m]? = some (.lst (ns.map .str))->∃ s' g,run P k (O "_law_apart") [s.d,.ref m] h=.ok (T.d s') (h++g)/\Na ns s'/\dep s'+1<=D0) :
   ∃ t' g,run P (k+1) (O "_law_apart") [t.d,.ref m] h=.ok (T.d t') (h++g)/\Na ns t'/\dep t'<=D0:=by
 have hl:=Zdb t;obtain ⟨ss,g,e2,l2,q2⟩:=ZiI (U:=P.tbl k) (m:=m) (ns:=ns) (nd:=ns.map .str) (D0:=D0) t.parts (fr t) h hc hm (by cases t<;>simp [fr,T.parts]);have ft:∀ d∈fr t,Gn.ZaN d=true:=by cases t<;>simp [fr,Gn.ZaN]
 have e1:=ZkB (U:=P.tbl k) (m:=m) (h:=h) (fr t) (t.parts.map T.d) [] ft (by cases t<;>simp [fr]);have x1:xs1 (P.tbl k) Zc4 (va t m none) h=.ok (.nx,va t m (some (.ref (h++g).length))) (h++g++[.lst (fr t++ss.map T.d)]):=by
   refine Zw (i:=2) (ZfO (w:=⟨[],fr t++t.parts.map T.d⟩) (Zhj (congrArg (fun d=>R.ok d h) (ZtM t))) ?_);rw [OB] at e1;exact e1.trans e2
 have ql:(h++g++[DO.lst (fr t++ss.map T.d)])[(h++g).length]? = some (.lst (fr t++ss.map T.d)):=by simp
 have pl:∀ w ds,t.d=.tup (.str w::ds)->w≠O "rec" -> ∀ t':T,t'.d=.tup (fr t++ss.map T.d)->Na ns t'->dep t'<=D0->∃ t' g,run P (k+1) (O "_law_apart") [t.d,.ref m] h=.ok (T.d t') (h++g)/\Na ns t'/\dep t'<=D0:=fun w ds e ne t' ht nt dt=>by
   refine ⟨t',g++[.lst (fr t++ss.map T.d)],?_,nt,dt⟩;rw [Zj H.law_apart rfl,ht,<- Oz];have w:xs2 (P.tbl k) Zbd (va t m none) h=.ok (.rt (.tup (fr t++ss.map T.d)),va t m (some (.ref (h++g).length))) (h++g++[.lst (fr t++ss.map T.d)]):=(Za x1).trans ((Za ((Zx (Znq (ZP (Zgc ((ZH rfl rfl).trans (by rw [e];exact ZmJ)) rfl) (decide_eq_false ne)))).trans rfl)).trans (Zc (Zo (Zae (Zb rfl rfl) (ZjB ql)))));exact congrArg Ze w
 cases t with
 | num z=>exact pl _ _ rfl (by simp) (.num z) (by have:ss=[]:=List.length_eq_zero_iff.mp l2;rw [this];rfl) hn (Nat.zero_le _)
 | name x=>exact pl _ _ rfl (by simp) (.name x) (by have:ss=[]:=List.length_eq_zero_iff.mp l2;rw [this];rfl) hn (Nat.zero_le _)
 | fn x e =>
   obtain ⟨a,rfl⟩:=Ztj l2;have qa:=q2 a (.head _);exact pl _ _ rfl (by simp) (.fn x a) rfl ⟨hn.1,qa.1⟩ (by simp only [dep];lia)
 | call f e =>
   obtain ⟨a,b,rfl⟩:=Zti l2;have qa:=q2 a (.head _);have qb:=q2 b (.tail _ (.head _));exact pl _ _ rfl (by simp) (.call a b) rfl ⟨qa.1,qb.1⟩ (by simp only [dep];lia)
 | op w f e =>
   obtain ⟨a,b,rfl⟩:=Zti l2;have qa:=q2 a (.head _);have qb:=q2 b (.tail _ (.head _));exact pl _ _ rfl (by simp) (.op w a b) rfl ⟨qa.1,qb.1⟩ (by simp only [dep];lia)
 | iff c f e =>
   obtain ⟨a,b,d,rfl⟩:=ZuU l2;have qa:=q2 a (.head _);have qb:=q2 b (.tail _ (.head _));have qd:=q2 d (.tail _ (.tail _ (.head _)));exact pl _ _ rfl (by simp) (.iff a b d) rfl ⟨qa.1,qb.1,qd.1⟩ (by simp only [dep];lia)
 | rcc f x e =>
   obtain ⟨a,rfl⟩:=Ztj l2;have qa:=q2 a (.head _);have t2:tst (P.tbl k) ZcO (va (.rcc f x e) m (some (.ref (h++g).length))) (h++g++[.lst (fr (.rcc f x e)++[a].map T.d)])=.ok (decide (f=x)) (h++g++[.lst (fr (.rcc f x e)++[a].map T.d)]):=Znp (ZP (Zgc (x:=O "rec") rfl rfl) (decide_eq_true rfl)) (Zgc (x:=f) (y:=x) rfl rfl);by_cases fx:f=x
   . generalize eh:h++g++[DO.lst (fr (.rcc f x e)++[a].map T.d)]=h1 at *;have m1:h1[m]? = some (.lst (ns.map .str)):=by rw [<- eh,Oz,Oe (Gn.Zl hm)];exact hm
     have c:=Zjq (U:=P.tbl k) (e0:=[some (T.rcc f x e).d]) (p:=fun y=>decide (y≠x)) (tx:=.ex (.cmp .NotEq (.var 0) (.ix (.var 1) (.cst (.int 2))))) m1 (fun y=>(ZuT (x:=y) (y:=x) rfl rfl).trans (by rw [ZtJ Iff.rfl])) ns [] (by simp;lia);rw [OB] at c;rcases ef:ns.filter (fun y=>decide (y≠x)) with _|⟨y,r⟩
     . obtain ⟨p,hp,q,hq,ne⟩:=two;have fl:=List.filter_eq_nil_iff.mp ef;have:p=x:=by have:=fl p hp;simpa using this
       have:q=x:=by have:=fl q hq;simpa using this
       exact absurd (by rw [‹p=x›,‹q=x›]) ne
     have hyf:=List.mem_filter.mp (show y∈ns.filter (fun y=>decide (y≠x)) by rw [ef];exact .head _);have hy:y∈ns:=hyf.1;have yx:y≠x:=of_decide_eq_true hyf.2;rw [ef] at c;have z:ev (P.tbl k) (.ix (.comp [(O "_law_name"),(O "_law_told")] [none,some 0] (.pl (.var 1)) (.nm 0) (some (.ex (.cmp .NotEq (.var 0) (.ix (.var 1) (.cst (.int 2)))))) (.var 0)) (.cst (.int 0))) (va (.rcc f x e) m (some (.ref (h++g).length))) h1=.ok (.str y) (h1++[.lst ((y::r).map .str)]):=(ZH (ZfO (Zd9 rfl m1) c) rfl).trans ((ZG (xs:=(y::r).map .str) (by simp)).trans (by rw [Op,ZkA];rfl));have l1:=Gn.Zl ql;have ql':(h1++[DO.lst ((y::r).map .str)])[(h++g).length]? = some (.lst (.str (O "rec")::.str f::[.str x,a.d])):=by rw [Oe l1];exact ql
     have y2:xs1 (P.tbl k) Zc3 (va (.rcc f x e) m (some (.ref (h++g).length))) h1=.ok (.nx,va (.rcc f x e) m (some (.ref (h++g).length))) ((h1++[DO.lst ((y::r).map .str)]).set (h++g).length (DO.lst (.str (O "rec")::.str y::[.str x,a.d]))):=(Zaa (ZP t2 (decide_eq_true fx))).trans ((Za (Zl7 z rfl rfl (Zn2 ql'))).trans rfl);have y3:((h1++[DO.lst ((y::r).map .str)]).set (h++g).length (DO.lst (.str (O "rec")::.str y::[.str x,a.d])))[(h++g).length]? = some (.lst (.str (O "rec")::.str y::[.str x,a.d])):=by rw [Ol (Gn.Zl ql')]
     obtain ⟨g',eg⟩:=kept (h:=h) (h':=(h1++[DO.lst ((y::r).map .str)]).set (h++g).length (DO.lst (.str (O "rec")::.str y::[.str x,a.d]))) (by rw [<- eh];simp) (fun j hj=>by
       rw [Oc (by rw [OA];lia),<- eh,Oz,Oz,Oe hj])
     rw [eg] at y2 y3;refine ⟨.rcc y x a,g',?_,⟨hy,hn.2.1,yx,qa.1⟩,by simp only [dep];lia⟩;rw [Zj H.law_apart rfl];have w:xs2 (P.tbl k) Zbd (va (.rcc f x e) m none) h=.ok (.rt (T.rcc y x a).d,va (.rcc f x e) m (some (.ref (h++g).length))) (h++g'):=(Za x1).trans ((Za y2).trans (Zc (Zo (Zae (Zb rfl rfl) (ZjB y3)))));exact congrArg Ze w
   . refine ⟨.rcc f x a,g++[.lst (fr (.rcc f x e)++[a].map T.d)],?_,⟨hn.1,hn.2.1,fx,qa.1⟩,by simp only [dep];lia⟩;rw [Zj H.law_apart rfl,<- Oz];have w:xs2 (P.tbl k) Zbd (va (.rcc f x e) m none) h=.ok (.rt (T.rcc f x a).d,va (.rcc f x e) m (some (.ref (h++g).length))) (h++g++[.lst (fr (.rcc f x e)++[a].map T.d)]):=(Za x1).trans ((Za ((Zx (ZP t2 (decide_eq_false fx))).trans rfl)).trans (Zc (Zo (Zae (Zb rfl rfl) (ZjB ql)))));exact congrArg Ze w
theorem ZoF{t s:T}(n:Nm ns t)(hs:s∈t.parts):Nm ns s:=by
 cases t<;>simp [T.parts] at hs
 . subst hs;exact n.2
 . subst hs;exact n.2.2
 . rcases hs with rfl|rfl;exact n.1;exact n.2
 . rcases hs with rfl|rfl|rfl;exact n.1;exact n.2.1;exact n.2.2
 . rcases hs with rfl|rfl;exact n.1;exact n.2
theorem ZjQ (H:Mak P) (two:∃ a∈ns,∃ b∈ns,a≠b) (h5:ns.length=5):∀ (D0 n:Nat) (t:T) (h:Hd),dep t<=D0->Nm ns t->h[m]? = some (.lst (ns.map .str))->∃ t' g,run P (n+D0+1) (O "_law_apart") [t.d,.ref m] h=.ok (T.d t') (h++g)/\Na ns t'/\dep t'<=D0
 | 0,n,t,h,hd,hn,hm=>apart1 H (n+0) t hd hn two h5 hm fun s q=>by have:=Zm q;lia
 | D0+1,n,t,h,hd,hn,hm=>apart1 H (n+(D0+1)) t hd hn two h5 hm fun s q h' hm'=>by
   obtain ⟨t',g,a,b,c⟩:=ZjQ H two h5 D0 n s h' (by have:=Zm q;lia) (ZoF hn q) hm';exact ⟨t',g,a,b,by lia⟩
theorem Zrl{U:Tb}{a b:Ex}(p:ev U a S h=.ok (.int x) h1)(q:ev U b S h1=.ok (.int y) h2):tst U (.ex (.cmp .LtE a b)) S h=.ok (decide (x<=y)) h2:=Zao (Zs p q)
theorem ZfS(H:Mak P)(hk:h[k]? = some (.lst xs0)):∀ (xs:List Int) (j:Nat) (acc:List Int),acc.length+xs.length<=1000->j+xs.length<=900->∃ cs:List Int,cs.length=acc.length+xs.length /\
   Zu [(k,xs0)] (.two 0 1) (tsto (P.tbl (n+1)) none) (ev (P.tbl (n+1)) (.call (O "_law_mixed") (.cons (.var 1) (.cons (.var 0) .nil)))) (xs.mapIdx fun q x=>D.tup [.int ((q+j:Nat):Int),.int x]) [none,none] (acc.map .int) h
     = .ok (cs.map .int) h
 | [],j,acc,_,_=>⟨acc,by simp,by simp [Zu,Wk.stays,hk]⟩
 | x::xs,j,acc,h1,h2=>by
   simp only [Os] at h1 h2;obtain ⟨cs,q1,q2⟩:=ZfS H (n:=n) hk xs (j+1) (acc++[mix x (j:Int)]) (by simp;lia) (by lia);refine ⟨cs,by simp at q1;simp;lia,?_⟩;have e1:=ZjO H n x (j:Int) h ⟨by lia,by lia⟩;have hz:acc.length<sizeLine:=by rw [sizeLine_eq];lia
   have ei:(fun (q:Nat) (x:Int)=>D.tup [.int ((q+1+j:Nat):Int),.int x])=fun q x=>D.tup [.int ((q+(j+1):Nat):Int),.int x]:=by
     funext q x;rw [show q+1+j=q+(j+1) by lia]
   have st:Wk.stays [(k,xs0)] h=true:=by simp [Wk.stays,hk]
   have z:ev (P.tbl (n+1)) (.call (O "_law_mixed") (.cons (.var 1) (.cons (.var 0) .nil))) [some (.int ((0+j:Nat):Int)),some (.int x)] h=.ok (.int (mix x (j:Int))) h:=by rw [Nat.zero_add];exact Zn e1 rfl
   rw [List.mapIdx_cons,Z8,if_pos ⟨st,by rw [List.length_map];exact hz⟩];show (ev (P.tbl (n+1)) (.call (O "_law_mixed") (.cons (.var 1) (.cons (.var 0) .nil))) [some (.int ((0+j:Nat):Int)),some (.int x)] h).plain.bnd _=_;rw [z];show Zu [(k,xs0)] (.two 0 1) (tsto (P.tbl (n+1)) none) (ev (P.tbl (n+1)) (.call (O "_law_mixed") (.cons (.var 1) (.cons (.var 0) .nil)))) _ [none,none] (acc.map .int++[.int (mix x (j:Int))]) h=_;rw [ei];rw [List.map_append] at q2;exact q2
end Fr
end
section
namespace K03L
open PySem L2 IV
noncomputable def Zit:Tx:=(.ex (.call (O "is_name") (.cons (.var 0) .nil)))
noncomputable def ZfW:Sx:=(.ret (.tupl (.cons (.cst (.str (O "name"))) (.cons (.var 0) .nil))))
noncomputable def Zh4:Sxs:=(.cons ZfW .nil)
noncomputable def ZiD:Sx:=.iff Zit Zh4 .nil
noncomputable def ZiC:Sx:=(.ret (.tupl (.cons (.cst (.str (O "num"))) (.cons (.call (O "read_number") (.cons (.var 0) .nil)) .nil))))
noncomputable def Zef:Sxs:=(.cons ZiD (.cons ZiC .nil))
noncomputable def ZgM:Fd:=⟨[(O "word")],[(O "word")],Zef⟩
noncomputable def ZaF:Sx:=(.seta [(O "Reader")] (.var 0) (O "words") (.var 1))
noncomputable def ZaE:Sx:=(.seta [(O "Reader")] (.var 0) (O "at") (.cst (.int 0)))
noncomputable def Zbg:Sxs:=(.cons ZaF (.cons ZaE .nil))
noncomputable def ZM:Fd:=⟨[(O "self"),(O "words")],[(O "self"),(O "words")],Zbg⟩
noncomputable def Zap:Tx:=(.ex (.cmp .Eq (.att [(O "Reader")] (.var 0) (O "at")) (.blt .len (.cons (.att [(O "Reader")] (.var 0) (O "words")) .nil))))
noncomputable def Zbv:Sx:=.any
noncomputable def ZbZ:Sxs:=(.cons Zbv .nil)
noncomputable def Zca:Sx:=.iff Zap ZbZ .nil
noncomputable def Zas:Sx:=(.set (.nm 1) (.ix (.att [(O "Reader")] (.var 0) (O "words")) (.att [(O "Reader")] (.var 0) (O "at"))))
noncomputable def Zar:Sx:=(.auga [(O "Reader")] (.var 0) (O "at") (.cst (.int 1)))
noncomputable def Zb9:Sx:=(.ret (.var 1))
noncomputable def ZaY:Sxs:=(.cons Zca (.cons Zas (.cons Zar (.cons Zb9 .nil))))
noncomputable def ZaR:Fd:=⟨[(O "self")],[(O "self"),(O "word")],ZaY⟩
noncomputable def Zcd:Sx:=(.set (.nm 1) (.mcl (O "Reader") (O "take_word") (.var 0) .nil))
noncomputable def Zb3:Tx:=(.nt (.ex (.call (O "is_name") (.cons (.var 1) .nil))))
noncomputable def Zbw:Sx:=.any
noncomputable def Zb0:Sxs:=(.cons Zbw .nil)
noncomputable def Zcc:Sx:=.iff Zb3 Zb0 .nil
noncomputable def Zcb:Sx:=(.ret (.var 1))
noncomputable def ZaZ:Sxs:=(.cons Zcd (.cons Zcc (.cons Zcb .nil)))
noncomputable def ZaS:Fd:=⟨[(O "self")],[(O "self"),(O "word")],ZaZ⟩
noncomputable def ZaU:Tx:=(.ex (.cmp .Gt (.var 1) (.glo (O "MOST_DEEP"))))
noncomputable def Zau:Sx:=.any
noncomputable def ZaM:Sxs:=(.cons Zau .nil)
noncomputable def Z0:Sx:=.iff ZaU ZaM .nil
noncomputable def ZZ:Sx:=(.set (.nm 2) (.mcl (O "Reader") (O "take_word") (.var 0) .nil))
noncomputable def ZT:Tx:=(.ex (.cmp .NotIn (.var 2) (.glo (O "FORMS"))))
noncomputable def Zat:Sx:=(.ret (.call (O "leaf_of") (.cons (.var 2) .nil)))
noncomputable def ZaL:Sxs:=(.cons Zat .nil)
noncomputable def Za0:Sx:=.iff ZT ZaL .nil
noncomputable def ZY:Sx:=(.set (.nm 3) (.lstl (.cons (.var 2) .nil)))
noncomputable def ZaP:Ix:=(.rng (.ix (.ix (.glo (O "FORMS")) (.var 2)) (.cst (.int 0))))
noncomputable def Zaw:Sx:=(.drp (.meth .app (.var 3) (.cons (.mcl (O "Reader") (O "take_name") (.var 0) .nil) .nil)))
noncomputable def ZR:Sxs:=(.cons Zaw .nil)
noncomputable def ZX:Sx:=.forr (.nm 4) ZaP ZR
noncomputable def ZaO:Ix:=(.rng (.ix (.ix (.glo (O "FORMS")) (.var 2)) (.cst (.int 1))))
noncomputable def Zav:Sx:=(.drp (.meth .app (.var 3) (.cons (.mcl (O "Reader") (O "take_expression") (.var 0) (.cons (.bin .Add (.var 1) (.cst (.int 1))) .nil)) .nil)))
noncomputable def ZQ:Sxs:=(.cons Zav .nil)
noncomputable def ZW:Sx:=.forr (.nm 4) ZaO ZQ
noncomputable def ZV:Sx:=(.ret (.blt .tup (.cons (.var 3) .nil)))
noncomputable def ZD:Sxs:=(.cons Z0 (.cons ZZ (.cons Za0 (.cons ZY (.cons ZX (.cons ZW (.cons ZV .nil)))))))
noncomputable def Z4:Fd:=⟨[(O "self"),(O "level")],[(O "self"),(O "level"),(O "word"),(O "found"),(O "k")],ZD⟩
noncomputable def ZaB:Tx:=(.ex (.cmp .Lt (.att [(O "Reader")] (.var 0) (O "at")) (.blt .len (.cons (.att [(O "Reader")] (.var 0) (O "words")) .nil))))
noncomputable def ZbD:Sx:=.any
noncomputable def Zcl:Sxs:=(.cons ZbD .nil)
noncomputable def Zcv:Sx:=.iff ZaB Zcl .nil
noncomputable def Zbf:Sxs:=(.cons Zcv .nil)
noncomputable def Za9:Fd:=⟨[(O "self")],[(O "self")],Zbf⟩
noncomputable def Zdh:Sx:=(.ret (.ands (.cons (.cmp .Eq (.ix (.var 0) (.cst (.int 0))) (.cst (.str (O "rec")))) (.cons (.cmp .Eq (.ix (.var 0) (.cst (.int 1))) (.ix (.var 0) (.cst (.int 2)))) .nil))))
noncomputable def Z2:Sxs:=(.cons Zdh .nil)
noncomputable def Zbq:Fd:=⟨[(O "E")],[(O "E")],Z2⟩
noncomputable def ZeZ:Tx:=(.ex (.call (O "free_names") (.cons (.var 0) .nil)))
noncomputable def Zdi:Sx:=.any
noncomputable def ZeR:Sxs:=(.cons Zdi .nil)
noncomputable def Ze9:Sx:=.iff ZeZ ZeR .nil
noncomputable def ZeV:Ix:=(.pl (.call (O "places") (.cons (.var 0) .nil)))
noncomputable def ZdJ:Tx:=(.ex (.call (O "has_name_twice") (.cons (.var 1) .nil)))
noncomputable def Zb8:Sx:=.any
noncomputable def Zdz:Sxs:=(.cons Zb8 .nil)
noncomputable def ZdQ:Sx:=.iff ZdJ Zdz .nil
noncomputable def ZbI:Sxs:=(.cons ZdQ .nil)
noncomputable def Ze8:Sx:=.forr (.nm 1) ZeV ZbI
noncomputable def Zc5:Sxs:=(.cons Ze9 (.cons Ze8 .nil))
noncomputable def ZcH:Fd:=⟨[(O "E")],[(O "E"),(O "place")],Zc5⟩
noncomputable def ZiA:Sx:=(.set (.nm 1) (.mk (O "Reader") (.cons (.tmt .spl (.var 0) (.cst (.str (O " ")))) .nil)))
noncomputable def Ziz:Sx:=(.set (.nm 2) (.mcl (O "Reader") (O "take_expression") (.var 1) (.cons (.cst (.int 0)) .nil)))
noncomputable def Ziy:Sx:=(.drp (.mcl (O "Reader") (O "take_end") (.var 1) .nil))
noncomputable def Znf:Tx:=(.ex (.cmp .Gt (.blt .len (.cons (.call (O "places") (.cons (.var 2) .nil)) .nil)) (.glo (O "MOST_PLACES"))))
noncomputable def Ziw:Sx:=.any
noncomputable def ZmF:Sxs:=(.cons Ziw .nil)
noncomputable def Zix:Sx:=.iff Znf ZmF .nil
noncomputable def Ziv:Sx:=(.drp (.call (O "check_names") (.cons (.var 2) .nil)))
noncomputable def Zni:Sx:=(.ret (.var 2))
noncomputable def Znj:Sxs:=(.cons ZiA (.cons Ziz (.cons Ziy (.cons Zix (.cons Ziv (.cons Zni .nil))))))
noncomputable def ZmT:Fd:=⟨[(O "text")],[(O "text"),(O "reader"),(O "E")],Znj⟩
noncomputable def Zgg:Tx:=(.ex (.cmp .Eq (.ix (.var 0) (.cst (.int 0))) (.cst (.str (O "num")))))
noncomputable def Zee:Sx:=(.ret (.tupl (.cons (.blt .sto (.cons (.ix (.var 0) (.cst (.int 1))) .nil)) .nil)))
noncomputable def Zf3:Sxs:=(.cons Zee .nil)
noncomputable def Zgl:Sx:=.iff Zgg Zf3 .nil
noncomputable def Zgf:Tx:=(.ex (.cmp .Eq (.ix (.var 0) (.cst (.int 0))) (.cst (.str (O "name")))))
noncomputable def Zed:Sx:=(.ret (.tupl (.cons (.ix (.var 0) (.cst (.int 1))) .nil)))
noncomputable def Zf2:Sxs:=(.cons Zed .nil)
noncomputable def Zgk:Sx:=.iff Zgf Zf2 .nil
noncomputable def Zgj:Sx:=(.ret (.bin .Add (.tupl (.cons (.ix (.var 0) (.cst (.int 0))) .nil)) (.call (O "bound_names") (.cons (.var 0) .nil))))
noncomputable def Zaq:Sxs:=(.cons Zgl (.cons Zgk (.cons Zgj .nil)))
noncomputable def Zey:Fd:=⟨[(O "place")],[(O "place")],Zaq⟩
noncomputable def Zlq:Sx:=(.set (.nm 1) (.lstl .nil))
noncomputable def Zle:Ix:=(.pl (.call (O "places") (.cons (.var 0) .nil)))
noncomputable def Ziu:Sx:=(.drp (.meth .ext (.var 1) (.cons (.call (O "own_words") (.cons (.var 2) .nil)) .nil)))
noncomputable def ZgH:Sxs:=(.cons Ziu .nil)
noncomputable def Zlp:Sx:=.forr (.nm 2) Zle ZgH
noncomputable def Zlo:Sx:=(.ret (.tmt .joi (.cst (.str (O " "))) (.var 1)))
noncomputable def Zkw:Sxs:=(.cons Zlq (.cons Zlp (.cons Zlo .nil)))
noncomputable def Zkj:Fd:=⟨[(O "E")],[(O "E"),(O "words"),(O "place")],Zkw⟩
noncomputable def ZfY:Sx:=(.ret (.ands (.cons (.cmp2 .LtE .LtE (.cst (.int 1)) (.blt .len (.cons (.var 0) .nil)) (.var 2)) (.cons (.blt .all (.cons (.comp [(O "sign"),(O "signs")] [none,some 1] (.tw (.var 0)) (.nm 0) none (.sin (.var 0) (.var 1))) .nil)) .nil))))
noncomputable def ZbC:Sxs:=(.cons ZfY .nil)
noncomputable def ZdF:Fd:=⟨[(O "text"),(O "signs"),(O "most")],[(O "text"),(O "signs"),(O "most")],ZbC⟩
noncomputable def ZiG:Sx:=(.ret (.ands (.cons (.call (O "is_made_of") (.cons (.var 0) (.cons (.glo (O "LETTERS")) (.cons (.glo (O "MOST_LETTERS")) .nil)))) (.cons (.cmp .NotIn (.var 0) (.glo (O "KEPT_WORDS"))) .nil))))
noncomputable def ZgZ:Sxs:=(.cons ZiG .nil)
noncomputable def ZgN:Fd:=⟨[(O "text")],[(O "text")],ZgZ⟩
noncomputable def Zgy:Sx:=(.ret (.ands (.cons (.call (O "is_made_of") (.cons (.var 0) (.cons (.glo (O "FIGURES")) (.cons (.glo (O "MOST_FIGURES")) .nil)))) (.cons (.ors (.cons (.cmp .Eq (.var 0) (.cst (.str (O "0")))) (.cons (.cmp .NotEq (.ix (.var 0) (.cst (.int 0))) (.cst (.str (O "0")))) .nil))) .nil))))
noncomputable def ZeM:Sxs:=(.cons Zgy .nil)
noncomputable def ZeF:Fd:=⟨[(O "text")],[(O "text")],ZeM⟩
noncomputable def ZeX:Tx:=(.nt (.ex (.call (O "is_number") (.cons (.var 0) .nil))))
noncomputable def Zdc:Sx:=.any
noncomputable def ZeO:Sxs:=(.cons Zdc .nil)
noncomputable def Ze2:Sx:=.iff ZeX ZeO .nil
noncomputable def Ze1:Sx:=(.ret (.blt .itx (.cons (.var 0) .nil)))
noncomputable def ZcP:Sxs:=(.cons Ze2 (.cons Ze1 .nil))
noncomputable def ZcG:Fd:=⟨[(O "text")],[(O "text")],ZcP⟩
noncomputable def Zgp:Sx:=(.ret (.ands (.cons (.blt .isi (.cons (.var 0) (.cons (.cst (.ty "int")) .nil))) (.cons (.nt (.blt .isi (.cons (.var 0) (.cons (.cst (.ty "bool")) .nil)))) .nil))))
noncomputable def ZiE:Sxs:=(.cons Zgp .nil)
noncomputable def ZeA:Fd:=⟨[(O "_law_found")],[(O "_law_found")],ZiE⟩
noncomputable def Zgo:Sx:=(.set (.nm 1) (.lstl .nil))
noncomputable def Zbi:Ix:=(.pl (.sl (.var 0) (some (.blt .int (.cons (.cmp .In (.ix (.var 0) (.cst (.int 0))) (.tupl (.cons (.cst (.str (O "num"))) (.cons (.cst (.str (O "name"))) .nil)))) .nil))) none))
noncomputable def ZeY:Tx:=(.ex (.blt .isi (.cons (.var 2) (.cons (.cst (.ty "tuple")) .nil))))
noncomputable def Zdd:Sx:=(.set (.nm 1) (.bin .Add (.var 1) (.call (O "_law_words") (.cons (.var 2) .nil))))
noncomputable def Zde:Sx:=(.drp (.meth .app (.var 1) (.cons (.blt .sto (.cons (.var 2) .nil)) .nil)))
noncomputable def ZeP:Sxs:=(.cons Zdd .nil)
noncomputable def ZeW:Sxs:=(.cons Zde .nil)
noncomputable def Ze3:Sx:=.iff ZeY ZeP ZeW
noncomputable def Zak:Sxs:=(.cons Ze3 .nil)
noncomputable def Zgn:Sx:=.forr (.nm 2) Zbi Zak
noncomputable def Zgm:Sx:=(.ret (.var 1))
noncomputable def ZeK:Sxs:=(.cons Zgo (.cons Zgn (.cons Zgm .nil)))
noncomputable def Zez:Fd:=⟨[(O "_law_told")],[(O "_law_told"),(O "_law_words_here"),(O "_law_part")],ZeK⟩
noncomputable def Zhv:Sx:=(.ret (.bin .Add (.cst (.int 1)) (.blt .sum (.cons (.comp [(O "_law_part")] [none] (.pl (.sl (.var 0) (some (.cst (.int 1))) none)) (.nm 0) (some (.ex (.blt .isi (.cons (.var 0) (.cons (.cst (.ty "tuple")) .nil))))) (.call (O "_law_size") (.cons (.var 0) .nil))) .nil))))
noncomputable def ZfX:Sxs:=(.cons Zhv .nil)
noncomputable def ZfM:Fd:=⟨[(O "_law_told")],[(O "_law_told")],ZfX⟩
noncomputable def Zgi:Tx:=(.ex (.blt .isi (.cons (.var 1) (.cons (.cst (.ty "tuple")) .nil))))
noncomputable def Zec:Tx:=(.ors (.cons (.nt (.ex (.blt .isi (.cons (.var 0) (.cons (.cst (.ty "tuple")) .nil))))) (.one (.ex (.cmp .NotEq (.blt .len (.cons (.var 0) .nil)) (.blt .len (.cons (.var 1) .nil)))))))
noncomputable def Zcu:Sx:=(.ret (.cst (.bl false)))
noncomputable def Zd3:Sxs:=(.cons Zcu .nil)
noncomputable def Zeo:Sx:=.iff Zec Zd3 .nil
noncomputable def Zen:Sx:=(.ret (.blt .all (.cons (.comp [(O "_law_one"),(O "_law_other")] [none,none] (.zp (.var 0) (.var 1)) (.two 0 1) none (.call (O "_law_alike") (.cons (.var 0) (.cons (.var 1) .nil)))) .nil)))
noncomputable def Zga:Sxs:=(.cons Zeo (.cons Zen .nil))
noncomputable def Zgx:Sx:=.iff Zgi Zga .nil
noncomputable def Zgh:Tx:=(.ex (.blt .isi (.cons (.var 1) (.cons (.cst (.ty "str")) .nil))))
noncomputable def Zem:Sx:=(.ret (.ands (.cons (.blt .isi (.cons (.var 0) (.cons (.cst (.ty "str")) .nil))) (.cons (.cmp .Eq (.var 0) (.var 1)) .nil))))
noncomputable def Zf9:Sxs:=(.cons Zem .nil)
noncomputable def Zgw:Sx:=.iff Zgh Zf9 .nil
noncomputable def Zgv:Sx:=(.ret (.ands (.cons (.call (O "_law_whole") (.cons (.var 0) .nil)) (.cons (.cmp .Eq (.var 0) (.var 1)) .nil))))
noncomputable def Zbe:Sxs:=(.cons Zgx (.cons Zgw (.cons Zgv .nil)))
noncomputable def ZeE:Fd:=⟨[(O "_law_found"),(O "_law_due")],[(O "_law_found"),(O "_law_due")],Zbe⟩
noncomputable def Zcs:Sx:=(.set (.nm 2) (.var 0))
noncomputable def Zcn:Ix:=(.rng (.cst (.int 17)))
noncomputable def ZbR:Sx:=(.set (.nm 2) (.tupl (.cons (.cst (.str (O "call"))) (.cons (.tupl (.cons (.cst (.str (O "name"))) (.cons (.ix (.var 1) (.bin .Mod (.var 3) (.cst (.int 5)))) .nil))) (.cons (.var 2) .nil)))))
noncomputable def Zaz:Sxs:=(.cons ZbR .nil)
noncomputable def ZaD:Sx:=.forr (.nm 3) Zcn Zaz
noncomputable def Zcm:Ix:=(.pl (.lstl (.cons (.var 0) (.cons (.var 2) .nil))))
noncomputable def ZbP:Tx:=(.ands (.cons (.ex (.cmp .LtE (.call (O "_law_size") (.cons (.var 4) .nil)) (.cst (.int 120)))) (.one (.nt (.ex (.call (O "_law_alike") (.cons (.call (O "shown") (.cons (.var 4) .nil)) (.cons (.tmt .joi (.cst (.str (O " "))) (.call (O "_law_words") (.cons (.var 4) .nil))) .nil))))))))
noncomputable def Zbj:Sx:=(.ret (.cst (.bl false)))
noncomputable def ZbO:Sxs:=(.cons Zbj .nil)
noncomputable def ZbQ:Sx:=.iff ZbP ZbO .nil
noncomputable def Zay:Sxs:=(.cons ZbQ .nil)
noncomputable def ZaC:Sx:=.forr (.nm 4) Zcm Zay
noncomputable def Zcr:Sx:=(.ret (.cst (.bl true)))
noncomputable def Zbc:Sxs:=(.cons Zcs (.cons ZaD (.cons ZaC (.cons Zcr .nil))))
noncomputable def Za8:Fd:=⟨[(O "_law_told"),(O "_law_names_here")],[(O "_law_told"),(O "_law_names_here"),(O "_law_far"),(O "_law_k"),(O "_law_one")],Zbc⟩
noncomputable def Zkz:Sx:=(.set (.nm 1) (.lstl (.cons (.comp [(O "_law_k"),(O "_law_cell")] [none,none] (.enu (.bin .Add (.lstl (.cons (.cst (.int 0)) .nil)) (.sl (.var 0) none (some (.cst (.int 150)))))) (.two 0 1) none (.call (O "_law_mixed") (.cons (.var 1) (.cons (.var 0) .nil)))) (.cons (.cst (.int 1)) .nil))))
noncomputable def Zky:Sx:=(.set (.nm 2) (.call (O "_law_names") (.cons (.ix (.ix (.var 1) (.cst (.int 0))) (.cst (.int 0))) .nil)))
noncomputable def Zhs:Tx:=(.ex (.cmp .LtE (.ix (.var 1) (.cst (.int 1))) (.blt .len (.cons (.ix (.var 1) (.cst (.int 0))) .nil))))
noncomputable def ZgY:Sx:=(.set (.nm 3) (.call (O "_law_apart") (.cons (.call (O "_law_drawn") (.cons (.var 1) (.cons (.var 2) (.cons (.cst (.int 6)) .nil)))) (.cons (.var 2) .nil))))
noncomputable def Zln:Tx:=(.nt (.ex (.call (O "_law_shown_right") (.cons (.var 3) (.cons (.var 2) .nil)))))
noncomputable def Zhz:Sx:=(.ret (.cst (.bl false)))
noncomputable def Zk9:Sxs:=(.cons Zhz .nil)
noncomputable def ZgX:Sx:=.iff Zln Zk9 .nil
noncomputable def Zlf:Ix:=(.pl (.var 2))
noncomputable def ZiF:Sx:=(.set (.nm 3) (.tupl (.cons (.cst (.str (O "fn"))) (.cons (.var 4) (.cons (.var 3) .nil)))))
noncomputable def ZgI:Sxs:=(.cons ZiF .nil)
noncomputable def ZgW:Sx:=.forr (.nm 4) Zlf ZgI
noncomputable def Zep:Sx:=(.set (.nm 5) (.tmt .joi (.cst (.str (O " "))) (.call (O "_law_words") (.cons (.var 3) .nil))))
noncomputable def ZgQ:Tx:=(.ex (.cmp .LtE (.call (O "_law_size") (.cons (.var 3) .nil)) (.cst (.int 100))))
noncomputable def ZdO:Sx:=(.set (.nm 6) (.call (O "read") (.cons (.var 5) .nil)))
noncomputable def ZdI:Tx:=(.ors (.cons (.nt (.ex (.call (O "_law_alike") (.cons (.var 6) (.cons (.var 3) .nil))))) (.cons (.nt (.ex (.call (O "_law_alike") (.cons (.call (O "shown") (.cons (.var 6) .nil)) (.cons (.var 5) .nil))))) (.one (.nt (.ex (.call (O "_law_alike") (.cons (.call (O "shown") (.cons (.var 3) .nil)) (.cons (.var 5) .nil)))))))))
noncomputable def Ze7:Sx:=(.ret (.cst (.bl false)))
noncomputable def Zhd:Sxs:=(.cons Ze7 .nil)
noncomputable def Zhy:Sx:=.iff ZdI Zhd .nil
noncomputable def Zk8:Sxs:=(.cons ZdO (.cons Zhy .nil))
noncomputable def ZgV:Sx:=.iff ZgQ Zk8 .nil
noncomputable def Zj7:Sxs:=(.cons ZgY (.cons ZgX (.cons ZgW (.cons Zep (.cons ZgV .nil)))))
noncomputable def Zkx:Sx:=.whl Zhs Zj7
noncomputable def Zps:Sx:=(.ret (.cst (.bl true)))
noncomputable def Zp9:Sxs:=(.cons Zkz (.cons Zky (.cons Zkx (.cons Zps .nil))))
noncomputable def Zih:Fd:=⟨[(O "_law_script")],[(O "_law_script"),(O "_law_state"),(O "_law_names_here"),(O "_law_told"),(O "_law_name"),(O "_law_text"),(O "_law_found")],Zp9⟩
structure Lw(P:Pg):Prop where
 f:Fr.Fre P
 m:K02L.Mak P
 pl:P.tb.lookup (O "places")=some Gn.ZdE
 gl:P.G (O "LETTERS")=some (.str (O "abcdefghijklmnopqrstuvwxyz"))
 gf:P.G (O "FIGURES")=some (.str (O "0123456789"))
 gml:P.G (O "MOST_LETTERS")=some (.int 8)
 gmf:P.G (O "MOST_FIGURES")=some (.int 6)
 gk:P.G (O "KEPT_WORDS")=some (.tup [.str (O "fn"),.str (O "rec"),.str (O "call"),.str (O "if")])
 gd:P.G (O "MOST_DEEP")=some (.int 20)
 gp:P.G (O "MOST_PLACES")=some (.int 100)
 leaf_of:P.tb.lookup (O "leaf_of")=some ZgM
 n_Reader___init__:P.tb.lookup (mnm (O "Reader") (O "__init__"))=none
 Reader___init__:P.ms.lookup (mnm (O "Reader") (O "__init__"))=some ZM
 n_Reader_take_word:P.tb.lookup (mnm (O "Reader") (O "take_word"))=none
 Reader_take_word:P.ms.lookup (mnm (O "Reader") (O "take_word"))=some ZaR
 n_Reader_take_name:P.tb.lookup (mnm (O "Reader") (O "take_name"))=none
 Reader_take_name:P.ms.lookup (mnm (O "Reader") (O "take_name"))=some ZaS
 n_Reader_take_expression:P.tb.lookup (mnm (O "Reader") (O "take_expression"))=none
 Reader_take_expression:P.ms.lookup (mnm (O "Reader") (O "take_expression"))=some Z4
 n_Reader_take_end:P.tb.lookup (mnm (O "Reader") (O "take_end"))=none
 Reader_take_end:P.ms.lookup (mnm (O "Reader") (O "take_end"))=some Za9
 has_name_twice:P.tb.lookup (O "has_name_twice")=some Zbq
 check_names:P.tb.lookup (O "check_names")=some ZcH
 read:P.tb.lookup (O "read")=some ZmT
 own_words:P.tb.lookup (O "own_words")=some Zey
 shown:P.tb.lookup (O "shown")=some Zkj
 is_made_of:P.tb.lookup (O "is_made_of")=some ZdF
 is_name:P.tb.lookup (O "is_name")=some ZgN
 is_number:P.tb.lookup (O "is_number")=some ZeF
 read_number:P.tb.lookup (O "read_number")=some ZcG
 law_whole:P.tb.lookup (O "_law_whole")=some ZeA
 law_words:P.tb.lookup (O "_law_words")=some Zez
 law_size:P.tb.lookup (O "_law_size")=some ZfM
 law_alike:P.tb.lookup (O "_law_alike")=some ZeE
 law_shown_right:P.tb.lookup (O "_law_shown_right")=some Za8
 law:P.tb.lookup (O "law")=some Zih
end K03L
end
section
namespace K03L
open PySem L2 IV Tm Fr
open Gn (dep Zm)
variable {P:Pg}
theorem Zi7{x:Str}:PyData.strOk x=true↔∀ c∈x.cps.toList,c<1114112:=by
 unfold PyData.strOk;rw [Array.all_eq_true'];simp
theorem Zdy(x:Str):x.length=x.cps.toList.length:=by simp [Str.length]
noncomputable def Wd8(x:Str):Prop:=(∀ c∈x.cps.toList,c<1114112/\c≠32)/\x.length<=8
theorem Zj0(h:NmW x):Wd8 x:=⟨fun c hc=>by have:=h.1 c hc;lia,h.2.2.1⟩
noncomputable def dg(n:Int):Str:=Str.ofString (toString n)
theorem Zjm(m:Nat):(dg (m:Int)).cps.toList=(Nat.toDigits 10 m).map Char.toNat:=PySem.W.KIN.signs_num m
theorem ZfP(m:Nat):∀ c∈(dg (m:Int)).cps.toList,48<=c/\c<=57:=fun c hc=>by
 rw [Zjm] at hc;obtain ⟨ch,h1,rfl⟩:=List.mem_map.mp hc;exact PyProof.Rows.digit_range (Nat.isDigit_of_mem_toDigits (by decide) (by decide) h1)
theorem Zhm(m:Nat)(h:m<1000000):1<=(dg (m:Int)).length/\(dg (m:Int)).length<=6:=by
 rw [Zdy,Zjm,List.length_map];refine ⟨?_,(Nat.length_toDigits_le_iff (by decide) (by decide)).mpr (by exact h)⟩;rcases Nat.lt_or_ge 0 (Nat.toDigits 10 m).length with q|q
 . exact q
 . have:=(Nat.length_toDigits_le_iff (b:=10) (n:=m) (k:=1) (by decide) (by decide)).mp (by lia);rw [Nat.toDigits_of_lt_base this] at q;simp at q
theorem Ztx:∀ m:Nat,m≠0->∃ c r,Nat.toDigits 10 m=c::r/\c≠'0':=fun m=>by
 induction m using Nat.strongRecOn with
 | _ m ih =>
   intro h0;by_cases h:m<10
   . rw [Nat.toDigits_of_lt_base h];refine ⟨_,_,rfl,?_⟩;have:∀ d:Fin 10,d.val≠0->Nat.digitChar d.val≠'0':=by decide
     exact this ⟨m,h⟩ h0
   . have hm:m % 10<10:=Nat.mod_lt m (by decide);have t:Nat.toDigits 10 (m / 10)++Nat.toDigits 10 (m % 10)=Nat.toDigits 10 (10 * (m / 10)+m % 10):=Nat.toDigits_append_toDigits (by decide) (by lia) hm;rw [Nat.div_add_mod] at t;obtain ⟨c,r,e,n⟩:=ih (m / 10) (by lia) (by lia);exact ⟨c,r++Nat.toDigits 10 (m % 10),by rw [<- t,e];rfl,n⟩
theorem Zpa:dg 0=O "0" := by decide +kernel
theorem Zp4{n:Int}(h0:0<=n)(h1:n<1000000):Wd8 (dg n):=by
 obtain ⟨m,rfl⟩:∃ m:Nat,n=m:=⟨n.toNat,by lia⟩
 exact ⟨fun c hc=>by have:=ZfP m c hc;lia,by have:=(Zhm m (by lia)).2;lia⟩
theorem ZtI{n:Int}(h0:0<=n)(h1:n<1000000):PyData.strOk (dg n)=true:=Zi7.mpr fun c hc=>((Zp4 h0 h1).1 c hc).1
theorem ZrQ{n:Int}(h0:0<=n)(h1:n<1000000):n.natAbs.log2<1920:=by
 have:n.natAbs<2 ^ 20:=by lia
 rcases Nat.eq_zero_or_pos n.natAbs with q|q
 . rw [q];decide
 . exact Ot ((Nat.log2_lt (by lia)).mpr this) (by decide)
theorem ZnN(sg:Str)(c:Nat):Znk (.str ⟨#[c]⟩) (.str sg) h=.ok (.bl (decide (c∈sg.cps.toList))) h:=by
 show R.ok (D.bl (!(Builtin.Str.occurrences sg ⟨#[c]⟩ 0 sg.length 1).isEmpty)) h=_;rw [StrLaws.found_one]
theorem Zng{U:Tb}{sg:Str}:∀ (cs:List Nat) (acc:List D),acc.length+cs.length<=1000->Zu [] (.nm 0) (tsto U none) (ev U (.sin (.var 0) (.var 1))) (cs.map fun c=>.str ⟨#[c]⟩) [none,some (.str sg)] acc h=.ok (acc++cs.map fun c=>D.bl (decide (c∈sg.cps.toList))) h
 | [],acc,_=>by simp [Zu,Wk.stays]
 | c::cs,acc,hz=>by
   rw [Os] at hz;have z:ev U (.sin (.var 0) (.var 1)) [some (.str ⟨#[c]⟩),some (.str sg)] h=.ok (.bl (decide (c∈sg.cps.toList))) h:=by rw [ZrF];exact ZnN sg c
   exact (Zjp (by lia) z).trans ((Zng (U:=U) (sg:=sg) cs (acc++[.bl (decide (c∈sg.cps.toList))]) (by simp;lia)).trans (by simp))
theorem Zht:∀ bs:List Bool,ZeJ (bs.map .bl)=some bs
 | []=>rfl
 | b::r=>by show (ZeJ (r.map .bl)).map _=_;rw [Zht r];rfl
theorem Zpe{U:Tb}{a b c:Ex}{x y z:Int}(p:ev U a S h=.ok (.int x) h)(q:ev U b S h=.ok (.int y) h)(r:ev U c S h=.ok (.int z) h):ev U (.cmp2 .LtE .LtE a b c) S h=.ok (.bl (decide (x<=y)&&decide (y<=z))) h:=by
 rw [ev,p,R.bind_ok,q,R.bind_ok];show ((R.ok (D.bl (decide (x<=y))) h).bind _)=_;rw [R.bind_ok];by_cases e:x<=y
 . rw [decide_eq_true e];simp only [r,R.bind_ok];rfl
 . rw [decide_eq_false e];rfl
theorem Zl3 (H:Lw P) (n:Nat) (y sg:Str) (most:Int) (h:Hd) (hz:y.length<=1000):∃ g,run P (n+1) (O "is_made_of") [.str y,.str sg,.int most] h=.ok (.bl (decide (1<=(y.length:Int))&&decide ((y.length:Int)<=most)&&y.cps.toList.all fun c=>decide (c∈sg.cps.toList))) (h++g):=by
 rw [Zj H.is_made_of rfl];have el:ev (P.tbl n) (.blt .len (.cons (.var 0) .nil)) [some (.str y),some (.str sg),some (.int most)] h=.ok (.int y.length) h:=Zae (Zb rfl rfl) (if_pos (by rw [sizeLine_eq];lia));have e1:=Zpe (U:=P.tbl n) (S:=[some (.str y),some (.str sg),some (.int most)]) (h:=h) (a:=.cst (.int 1)) (c:=.var 2) rfl el rfl;have lz:=Zdy y;have e2:ev (P.tbl n) (.blt .all (.cons (.comp [(O "sign"),(O "signs")] [none,some 1] (.tw (.var 0)) (.nm 0) none (.sin (.var 0) (.var 1))) .nil)) [some (.str y),some (.str sg),some (.int most)] h=.ok (.bl (y.cps.toList.all fun c=>decide (c∈sg.cps.toList))) (h++[.lst (y.cps.toList.map fun c=>D.bl (decide (c∈sg.cps.toList)))]):=by
   refine Zae (Zb (ZfO (w:=⟨[],y.cps.toList.map fun c=>.str ⟨#[c]⟩⟩) rfl (Zng y.cps.toList [] (by simp at lz ⊢;lia))) rfl) ?_;show Zjs [.ref h.length] _=_;have eb:ZeJ ([]++y.cps.toList.map fun c=>D.bl (decide (c∈sg.cps.toList)))=some (y.cps.toList.map fun c=>decide (c∈sg.cps.toList)):=by
     rw [OB,<- Zht,List.map_map];rfl
   simp only [Zjs,lstOf,Znn,Option.bind_some,eb,Option.map_some];show R.ok (D.bl ((y.cps.toList.map fun c=>decide (c∈sg.cps.toList)).all id)) _=_;rw [List.all_map];rfl
 by_cases hb:(decide (1<=(y.length:Int))&&decide ((y.length:Int)<=most))=true
 . refine ⟨[.lst (y.cps.toList.map fun c=>D.bl (decide (c∈sg.cps.toList)))],?_⟩;rw [hb] at e1 ⊢;have w:xs2 (P.tbl n) ZbC [some (.str y),some (.str sg),some (.int most)] h=.ok (.rt (.bl (y.cps.toList.all fun c=>decide (c∈sg.cps.toList))),[some (.str y),some (.str sg),some (.int most)]) (h++[.lst (y.cps.toList.map fun c=>D.bl (decide (c∈sg.cps.toList)))]):=Zc (Zo (by rw [Zba,Zab,e1,Zh,Zbr];exact e2));exact congrArg Ze w
 . refine ⟨[],?_⟩;have hb:=Bool.eq_false_iff.mpr hb;rw [hb] at e1 ⊢;rw [List.append_nil];have w:xs2 (P.tbl n) ZbC [some (.str y),some (.str sg),some (.int most)] h=.ok (.rt (.bl false),[some (.str y),some (.str sg),some (.int most)]) h:=Zc (Zo (by rw [Zba,Zab,e1,Zh]));exact congrArg Ze w
theorem ZhN (H:Lw P) (n:Nat) (y:Str) (h:Hd) (hz:y.length<=1000):∃ g,run P (n+2) (O "is_name") [.str y] h=.ok (.bl (decide (1<=(y.length:Int))&&decide ((y.length:Int)<=8)&&(y.cps.toList.all fun c=>decide (c∈(O "abcdefghijklmnopqrstuvwxyz").cps.toList))&&!decide (y∈[O "fn",O "rec",O "call",O "if"]))) (h++g):=by
 rw [Zj H.is_name rfl];obtain ⟨g,e⟩:=Zl3 H n y (O "abcdefghijklmnopqrstuvwxyz") 8 h hz;refine ⟨g,?_⟩;have e1:ev (P.tbl (n+1)) (.call (O "is_made_of") (.cons (.var 0) (.cons (.glo (O "LETTERS")) (.cons (.glo (O "MOST_LETTERS")) .nil)))) [some (.str y)] h=_:=Zn e (Zb rfl (Zb (congrArg (fun o=>R.ofO o h) H.gl) (Zb (congrArg (fun o=>R.ofO o h) H.gml) rfl)));have e2:ev (P.tbl (n+1)) (.cmp .NotIn (.var 0) (.glo (O "KEPT_WORDS"))) [some (.str y)] (h++g)=.ok (.bl (!decide (y∈[O "fn",O "rec",O "call",O "if"]))) (h++g):=(Zs (x:=.str y) (b:=.glo (O "KEPT_WORDS")) rfl (show ev (P.tbl (n+1)) (.glo (O "KEPT_WORDS")) [some (.str y)] (h++g)=_ from congrArg (fun o=>R.ofO o (h++g)) H.gk)).trans (ZbG (ss:=[O "fn",O "rec",O "call",O "if"]));generalize (decide (1<=(y.length:Int))&&decide ((y.length:Int)<=8)&&y.cps.toList.all fun c=>decide (c∈(O "abcdefghijklmnopqrstuvwxyz").cps.toList))=b at e1;have w:xs2 (P.tbl (n+1)) ZgZ [some (.str y)] h=.ok (.rt (.bl (b&&!decide (y∈[O "fn",O "rec",O "call",O "if"]))),[some (.str y)]) (h++g):=Zc (Zo (by
   rw [Zba,Zab,e1,Zh];cases b
   . rfl
   . rw [Zbr];exact e2))
 exact congrArg Ze w
theorem ZoQ:∀ c:Nat,97<=c->c<=122->c∈(O "abcdefghijklmnopqrstuvwxyz").cps.toList:=fun c h1 h2=>by
 have:∀ d:Fin 26,d.val+97∈(O "abcdefghijklmnopqrstuvwxyz").cps.toList:=by decide +kernel
 have:=this ⟨c - 97,by lia⟩;simp only at this
 rwa [show c - 97+97=c by lia] at this
theorem Zo2:∀ c:Nat,48<=c->c<=57->c∈(O "0123456789").cps.toList:=fun c h1 h2=>by
 have:∀ d:Fin 10,d.val+48∈(O "0123456789").cps.toList:=by decide +kernel
 have:=this ⟨c - 48,by lia⟩;simp only at this
 rwa [show c - 48+48=c by lia] at this
theorem Zri:∀ c:Nat,c<=57->c ∉ (O "abcdefghijklmnopqrstuvwxyz").cps.toList:=fun c h=>by
 have:∀ d∈(O "abcdefghijklmnopqrstuvwxyz").cps.toList,97<=d:=by decide +kernel
 intro m;have:=this c m
 lia
theorem Zib (H:Lw P) (n:Nat) (h:Hd) (w:NmW y):∃ g,run P (n+2) (O "is_name") [.str y] h=.ok (.bl true) (h++g):=by
 obtain ⟨g,e⟩:=ZhN H n y h (by have:=w.2.2.1;lia);refine ⟨g,e.trans ?_⟩;rw [decide_eq_true (by have:=w.2.1;lia),decide_eq_true (by have:=w.2.2.1;lia),decide_eq_false w.2.2.2,OC.mpr fun c hc=>decide_eq_true (ZoQ c (w.1 c hc).1 (w.1 c hc).2)];rfl
theorem ZmL (H:Lw P) (n m:Nat) (h:Hd) (hm:m<1000000):∃ g,run P (n+2) (O "is_name") [.str (dg (m:Int))] h=.ok (.bl false) (h++g):=by
 have dl:=Zhm m hm;obtain ⟨g,e⟩:=ZhN H n (dg (m:Int)) h (by lia);refine ⟨g,e.trans ?_⟩;have:((dg (m:Int)).cps.toList.all fun c=>decide (c∈(O "abcdefghijklmnopqrstuvwxyz").cps.toList))=false:=by
   rw [Bool.eq_false_iff];intro q;have lc:=Zdy (dg (m:Int));rcases e0:(dg (m:Int)).cps.toList with _|⟨c,r⟩
   . rw [e0] at lc;simp at lc;lia
   . have q:=OC.mp q c (by rw [e0];exact .head _);exact Zri c (ZfP m c (by rw [e0];exact .head _)).2 (of_decide_eq_true q)
 rw [this];simp
theorem Zqz (H:Lw P) (n m:Nat) (h:Hd) (hm:m<1000000):∃ g,run P (n+3) (O "read_number") [.str (dg (m:Int))] h=.ok (.int (m:Int)) (h++g):=by
 have dl:=Zhm m hm;obtain ⟨g,e⟩:=Zl3 H n (dg (m:Int)) (O "0123456789") 6 h (by lia);rw [decide_eq_true (by lia),decide_eq_true (by lia),OC.mpr fun c hc=>decide_eq_true (Zo2 c (ZfP m c hc).1 (ZfP m c hc).2)] at e;have e1:ev (P.tbl (n+1)) (.call (O "is_made_of") (.cons (.var 0) (.cons (.glo (O "FIGURES")) (.cons (.glo (O "MOST_FIGURES")) .nil)))) [some (.str (dg (m:Int)))] h=.ok (.bl true) (h++g):=Zn e (Zb rfl (Zb (congrArg (fun o=>R.ofO o h) H.gf) (Zb (congrArg (fun o=>R.ofO o h) H.gmf) rfl)));have e2:ev (P.tbl (n+1)) (.ors (.cons (.cmp .Eq (.var 0) (.cst (.str (O "0")))) (.cons (.cmp .NotEq (.ix (.var 0) (.cst (.int 0))) (.cst (.str (O "0")))) .nil))) [some (.str (dg (m:Int)))] (h++g)=.ok (.bl true) (h++g):=by
   have q1:ev (P.tbl (n+1)) (.cmp .Eq (.var 0) (.cst (.str (O "0")))) [some (.str (dg (m:Int)))] (h++g)=.ok (.bl (decide (dg (m:Int)=O "0"))) (h++g):=(Zs rfl rfl).trans (by rw [Zby,Zam];rfl);rw [ZrG,Zm1,q1,Zh];by_cases z:dg (m:Int)=O "0"
   . rw [decide_eq_true z]
   . rw [decide_eq_false z];show evOr _ _ _ _=_;rw [Zm2];have m0:m≠0:=fun e=>z (by rw [e];exact Zpa);obtain ⟨c,r,ec,nc⟩:=Ztx m m0;have ecp:(dg (m:Int)).cps.toList=c.toNat::r.map Char.toNat:=by rw [Zjm,ec];rfl
     have ix:ev (P.tbl (n+1)) (.ix (.var 0) (.cst (.int 0))) [some (.str (dg (m:Int)))] (h++g)=.ok (.str ⟨#[c.toNat]⟩) (h++g):=(ZH rfl rfl).trans (by
       show (if (dg (m:Int)).length<=sizeLine then R.ofO ((atI (dg (m:Int)).cps.toList 0).map fun c=>D.str ⟨#[c]⟩) (h++g) else .bad)=_;rw [if_pos (by rw [sizeLine_eq];lia),ecp,ZkA];rfl)
     refine (Zs ix rfl).trans ?_;rw [Zi5,Zam];have ne:(⟨#[c.toNat]⟩:Str)≠O "0" := fun q=>by
       have:=congrArg (fun s:Str=>s.cps.toList) q;rw [show (O "0").cps.toList=[48] by decide +kernel] at this;have:c.toNat=48:=by simpa using this
       exact nc (Char.ext (UInt32.toNat_inj.mp this))
     rw [decide_eq_false ne];rfl
 have e3:run P (n+2) (O "is_number") [.str (dg (m:Int))] h=.ok (.bl true) (h++g):=by
   rw [Zj H.is_number rfl];have w:xs2 (P.tbl (n+1)) ZeM [some (.str (dg (m:Int)))] h=.ok (.rt (.bl true),[some (.str (dg (m:Int)))]) (h++g):=Zc (Zo (by rw [Zba,Zab,e1,Zh,Zbr];exact e2));exact congrArg Ze w
 refine ⟨g,?_⟩;rw [Zj H.read_number rfl];have e4:Zpw [.str (dg (m:Int))] (h++g)=.ok (.int (m:Int)) (h++g):=by
   have nr:=PySem.W.KIN.num_reads (n:=(m:Int)) (by lia) (by lia);show (match intText? (dg (m:Int)) with
     | some n=>if (dg (m:Int)).length<=640 then R.ok (D.int n) (h++g) else .bad
     | none=>.bad)=_
   rw [show intText? (dg (m:Int))=some (m:Int) from nr];exact if_pos (by lia)
 have w:xs2 (P.tbl (n+2)) ZcP [some (.str (dg (m:Int)))] h=.ok (.rt (.int (m:Int)),[some (.str (dg (m:Int)))]) (h++g):=(Za ((Zx (ZhU (b:=true) (Zao (Zn e3 rfl)))).trans rfl)).trans (Zc (Zo (Zae (Zb rfl rfl) e4)));exact congrArg Ze w
theorem Zrj (H:Lw P) (n:Nat) (h:Hd) (w:NmW y):∃ g,run P (n+4) (O "leaf_of") [.str y] h=.ok (T.name y).d (h++g):=by
 obtain ⟨g,e⟩:=Zib H (n+1) h w;refine ⟨g,?_⟩;rw [Zj H.leaf_of rfl];have w:xs2 (P.tbl (n+3)) Zef [some (.str y)] h=.ok (.rt (T.name y).d,[some (.str y)]) (h++g):=Zc ((Zaa (Zao (Zn e rfl))).trans (Zc (Zo (Zcp (xs:=[_,_]) rfl (show 2<=1000 by decide)))));exact congrArg Ze w
theorem Zrk (H:Lw P) (n m:Nat) (h:Hd) (hm:m<1000000):∃ g,run P (n+4) (O "leaf_of") [.str (dg (m:Int))] h=.ok (T.num (m:Int)).d (h++g):=by
 obtain ⟨g,e⟩:=ZmL H (n+1) m h hm;obtain ⟨g',e'⟩:=Zqz H n m (h++g) hm;refine ⟨g++g',?_⟩;rw [Zj H.leaf_of rfl,<- Oz];have w:xs2 (P.tbl (n+3)) Zef [some (.str (dg (m:Int)))] h=.ok (.rt (T.num (m:Int)).d,[some (.str (dg (m:Int)))]) (h++g++g'):=(Za ((Zx (Zao (Zn e rfl))).trans rfl)).trans (Zc (Zo (Zcp (xs:=[_,_]) (Zb rfl (Zb (Zn e' rfl) rfl)) (show 2<=1000 by decide))));exact congrArg Ze w
end K03L
end
section
namespace K03L
open PySem L2 IV Tm Fr
open Gn (dep Zm Up)
variable {P:Pg}
noncomputable def ow:T->List Str
 | .num n=>[dg n]
 | .name x=>[x]
 | .fn x _=>[O "fn",x]
 | .rcc f x _=>[O "rec",f,x]
 | .call _ _=>[O "call"]
 | .iff _ _ _=>[O "if"]
 | .op w _ _=>[w.s]
noncomputable def ws(t:T):List Str:=t.places.flatMap ow
theorem ZhE(t:T):ws t=ow t++t.parts.flatMap ws:=by
 unfold ws;rw [T.places_parts,List.flatMap_cons,List.flatMap_assoc]
noncomputable def Ok3:T->Prop
 | .num n=>0<=n/\n<1000000
 | .name x=>NmW x
 | .fn x e=>NmW x/\Ok3 e
 | .rcc f x e=>NmW f/\NmW x/\f≠x/\Ok3 e
 | .call f a=>Ok3 f/\Ok3 a
 | .iff c a b=>Ok3 c/\Ok3 a/\Ok3 b
 | .op _ a b=>Ok3 a/\Ok3 b
theorem ZhT{t s:T}(n:Ok3 t)(hs:s∈t.parts):Ok3 s:=by
 cases t<;>simp [T.parts] at hs
 . subst hs;exact n.2
 . subst hs;exact n.2.2.2
 . rcases hs with rfl|rfl;exact n.1;exact n.2
 . rcases hs with rfl|rfl|rfl;exact n.1;exact n.2.1;exact n.2.2
 . rcases hs with rfl|rfl;exact n.1;exact n.2
noncomputable def rdo (wl:Nat) (a:Int):DO:=.ins (O "Reader") [(O "words",.ref wl),(O "at",.int a)]
theorem Znl {U:Tb}{e:Ex} (p:ev U e S h=.ok (.ref o) h) (q:h[o]? = some (rdo wl a)):ev U (.att [(O "Reader")] e (O "words")) S h=.ok (.ref wl) h:=by
 rw [Zm0,p,Zh];simp only [Zd6,ZL,q,rdo];rw [if_pos (by simp)];simp [List.lookup]
theorem Znm {U:Tb}{e:Ex} (p:ev U e S h=.ok (.ref o) h) (q:h[o]? = some (rdo wl a)):ev U (.att [(O "Reader")] e (O "at")) S h=.ok (.int a) h:=by
 rw [Zm0,p,Zh];simp only [Zd6,ZL,q,rdo];rw [if_pos (by simp)];simp [List.lookup]
theorem Zl1 (H:Lw P) (n:Nat) {h:Hd}{ss:List Str}{a:Nat} (ho:h[o]? = some (rdo wl (a:Int))) (hw:h[wl]? = some (.lst (ss.map .str))) (hx:ss[a]? = some x):run P (n+1) (mnm (O "Reader") (O "take_word")) [.ref o] h=.ok (.str x) (h.set o (rdo wl ((a+1:Nat):Int))):=by
 rw [ZdW H.n_Reader_take_word H.Reader_take_word rfl];have hl:=(Ob.mp hx).1;have t1:tst (P.tbl n) Zap [some (.ref o),none] h=.ok false h:=ZP (Zjl (Znm rfl ho) (Zae (Zb (Znl rfl ho) rfl) (ZgF hw))) (decide_eq_false (by rw [List.length_map];lia));have x2:xs1 (P.tbl n) Zas [some (.ref o),none] h=.ok (.nx,[some (.ref o),some (.str x)]) h:=Zw (i:=1) ((ZH (Znl rfl ho) (Znm rfl ho)).trans ((ZG hw).trans (by rw [IV.ZbE,On,hx];rfl)));have x3:xs1 (P.tbl n) Zar [some (.ref o),some (.str x)] h=.ok (.nx,[some (.ref o),some (.str x)]) (h.set o (rdo wl ((a+1:Nat):Int))):=by
   show xs1 (P.tbl n) (.auga [(O "Reader")] (.var 0) (O "at") (.cst (.int 1))) _ h=_;rw [Zls];have ga:Zd6 [(O "Reader")] (O "at") (.ref o) h=.ok (.int (a:Int)) h:=by
     simp only [Zd6,ZL,ho,rdo];rw [if_pos (by simp)];simp [List.lookup]
   have sa:Zfs [(O "Reader")] (O "at") (.ref o) (.int ((a:Int)+1)) h=.ok .non (h.set o (rdo wl ((a+1:Nat):Int))):=by
     simp only [Zfs,ho,rdo];rw [if_pos (by simp)];simp [ZkQ]
   show (Zd6 [(O "Reader")] (O "at") (.ref o) h).bnd _=_;rw [ga,Zh];show (if (ZL (.ref o) h).map (·.1)=(ZL (.ref o) h).map (·.1) then (Zfs [(O "Reader")] (O "at") (.ref o) (.int ((a:Int)+1)) h).bnd _ else _)=_;rw [if_pos rfl,sa];rfl
 have w:xs2 (P.tbl n) ZaY [some (.ref o),none] h=.ok (.rt (.str x),[some (.ref o),some (.str x)]) (h.set o (rdo wl ((a+1:Nat):Int))):=(Za ((Zx t1).trans rfl)).trans ((Za x2).trans ((Za x3).trans (Zc (Zo rfl))));exact congrArg Ze w
structure Rdr(h0 h:Hd)(o wl:Nat)(ss:List Str)(a:Nat):Prop where
 ob:h[o]? = some (rdo wl (a:Int))
 wd:h[wl]? = some (.lst (ss.map .str))
 up:Up o h0 h
theorem ZsY{h:Hd}(q:h[o]? = some (rdo wl a))(w:h[wl]? = some (.lst xs)):wl≠o:=fun e=>by rw [e,q] at w;cases w
theorem Rdr.app(r:Rdr h0 h o wl ss a):Rdr h0 (h++g) o wl ss a:=⟨by rw [Oe (Gn.Zl r.ob)];exact r.ob,by rw [Oe (Gn.Zl r.wd)];exact r.wd,r.up.trans Up.app⟩
theorem Rdr.set{b:Nat}(r:Rdr h0 h o wl ss a):Rdr h0 (h.set o (rdo wl (b:Int))) o wl ss b:=⟨by rw [Ol (Gn.Zl r.ob)],by rw [Oc (Ne.symm (ZsY r.ob r.wd))];exact r.wd,r.up.trans Up.set⟩
theorem Zk6 {U:Tb}{es:Exs}{m:Str} (p:ev U e S h=.ok (.ref o) h) (q:h[o]? = some (rdo wl a)) (nm:([(O "words",D.ref wl),(O "at",D.int a)]:List (Str×D)).lookup m=none) (r:evs U es S h=.ok xs h) (c:U.C (mnm (O "Reader") m) (.ref o::xs) h=y):ev U (.mcl (O "Reader") m e es) S h=y:=ZtF p q nm r c
theorem ZnW (H:Lw P) (n:Nat) {h:Hd} (r:Rdr h0 h o wl ss a) (hx:ss[a]? = some x) (w:NmW x):∃ h',run P (n+3) (mnm (O "Reader") (O "take_name")) [.ref o] h=.ok (.str x) h'/\Rdr h0 h' o wl ss (a+1)/\Up o h h':=by
 rw [ZdW H.n_Reader_take_name H.Reader_take_name rfl];have e1:=Zl1 H (n+1) r.ob r.wd hx;obtain ⟨g,e2⟩:=Zib H n (h.set o (rdo wl ((a+1:Nat):Int))) w;refine ⟨_,?_,(r.set (b:=a+1)).app (g:=g),Up.set.trans Up.app⟩;have w:xs2 (P.tbl (n+2)) ZaZ [some (.ref o),none] h=.ok (.rt (.str x),[some (.ref o),some (.str x)]) (h.set o (rdo wl ((a+1:Nat):Int))++g):=(Za (Zw (i:=1) (Zk6 rfl r.ob (by simp [List.lookup]) rfl e1))).trans ((Za ((Zx (ZhU (b:=true) (Zao (Zn e2 rfl)))).trans rfl)).trans (Zc (Zo rfl)));exact congrArg Ze w
noncomputable def ve3(o:Nat)(l:Int)(w:Str)(f:Nat)(k:Option D):Ev:=[some (.ref o),some (.int l),some (.str w),some (.ref f),k]
theorem Rdr.setf(r:Rdr hs h o wl ss a)(hf:hs.length<=f)(ho:o<hs.length)(hw:wl<hs.length):Rdr hs (h.set f x) o wl ss a :=
 ⟨by rw [Oc (by lia)];exact r.ob,by rw [Oc (by lia)];exact r.wd,⟨by have:=r.up.1;simp;exact this,fun m hm hn=>by rw [Oc (by lia)];exact r.up.2 m hm hn⟩⟩
theorem Ztm(H:Lw P)(n:Nat)(ho:o<hs.length)(hw:wl<hs.length)(hf:hs.length<=f):∀ (xs:List Str) (acc:List D) (h:Hd) (a:Nat) (ks:List D) (k:Option D),ks.length=xs.length->(∀ x∈xs,NmW x)->xs <+: ss.drop a->Rdr hs h o wl ss a->h[f]? = some (.lst acc)->acc.length+xs.length<=100 ->
   ∃ h' k',ZN [] (.nm 4) (xs2 (P.tbl (n+3)) ZR) ks (ve3 o l w f k) h=.ok (.nx,ve3 o l w f k') h'/\Rdr hs h' o wl ss (a+xs.length)/\h'[f]? = some (.lst (acc++xs.map .str))
 | [],acc,h,a,ks,k,hk,_,_,r,hl,_=>by
   rw [List.length_nil] at hk;rw [List.eq_nil_of_length_eq_zero hk];exact ⟨h,k,rfl,r,by simpa using hl⟩
 | x::xs,acc,h,a,[],k,hk,_,_,_,_,_=>by cases hk
 | x::xs,acc,h,a,d::ks,k,hk,hx,hp,r,hl,hz=>by
   rw [Os] at hz;obtain ⟨p1,p2,p3⟩:=ZiZ hp;obtain ⟨h1,e1,r1,u1⟩:=ZnW H n r p1 (hx x (.head _));have l1:=u1.at hl (by lia);obtain ⟨h2,k2,e2,r2,l2⟩:=Ztm H n (l:=l) (w:=w) ho hw hf xs (acc++[.str x]) (h1.set f (.lst (acc++[.str x]))) (a+1) ks (some d) (by simpa using hk) (fun y hy=>hx y (.tail _ hy)) p3 (r1.setf hf ho hw) (by rw [Ol (Gn.Zl l1)]) (by simp;lia);refine ⟨h2,k2,(Zda (ρ1:=ve3 o l w f (some d)) rfl ((Za (ZeG (Zlj (i:=f) rfl hl (Zb (Zk6 rfl r.ob (by simp [List.lookup]) rfl e1) rfl) (Zdw l1 (by rw [sizeLine_eq];lia))))).trans rfl)).trans e2,?_,by rw [l2];simp⟩;rw [show a+(x::xs).length=a+1+xs.length by simp;lia];exact r2
theorem Ztn (H:Lw P) {m:Nat} (ho:o<hs.length) (hw:wl<hs.length) (hf:hs.length<=f):∀ (ps:List T) (acc:List D) (h:Hd) (a:Nat) (ks:List D) (k:Option D),ks.length=ps.length->(∀ s∈ps,∀ (h:Hd) (a:Nat),ws s <+: ss.drop a->Rdr hs h o wl ss a->∃ h',run P m (mnm (O "Reader") (O "take_expression")) [.ref o,.int (l+1)] h=.ok s.d h'/\Rdr hs h' o wl ss (a+(ws s).length)/\Up o h h')->ps.flatMap ws <+: ss.drop a->Rdr hs h o wl ss a->h[f]? = some (.lst acc)->acc.length+ps.length<=100 ->
   ∃ h' k',ZN [] (.nm 4) (xs2 (P.tbl m) ZQ) ks (ve3 o l w f k) h=.ok (.nx,ve3 o l w f k') h'/\Rdr hs h' o wl ss (a+(ps.flatMap ws).length)/\h'[f]? = some (.lst (acc++ps.map T.d))
 | [],acc,h,a,ks,k,hk,_,_,r,hl,_=>by
   rw [List.length_nil] at hk;rw [List.eq_nil_of_length_eq_zero hk];exact ⟨h,k,rfl,r,by simpa using hl⟩
 | s::ps,acc,h,a,[],k,hk,_,_,_,_,_=>by cases hk
 | s::ps,acc,h,a,d::ks,k,hk,hc,hp,r,hl,hz=>by
   rw [Os] at hz;rw [List.flatMap_cons] at hp;obtain ⟨p1,p2⟩:=pre_app hp;obtain ⟨h1,e1,r1,u1⟩:=hc s (.head _) h a p1 r;have l1:=u1.at hl (by lia);obtain ⟨h2,k2,e2,r2,l2⟩:=Ztn H (m:=m) (l:=l) (w:=w) ho hw hf ps (acc++[s.d]) (h1.set f (.lst (acc++[s.d]))) (a+(ws s).length) ks (some d) (by simpa using hk) (fun y hy=>hc y (.tail _ hy)) p2 (r1.setf hf ho hw) (by rw [Ol (Gn.Zl l1)]) (by simp;lia);refine ⟨h2,k2,(Zda (ρ1:=ve3 o l w f (some d)) rfl ((Za (ZeG (Zlj (i:=f) rfl hl (Zb (Zk6 rfl r.ob (by simp [List.lookup]) (Zb rfl rfl) e1) rfl) (Zdw l1 (by rw [sizeLine_eq];lia))))).trans rfl)).trans e2,?_,by rw [l2];simp⟩;rw [List.flatMap_cons,OA,<- Nat.add_assoc];exact r2
theorem ZhY {x:Str} (h:∀ k∈["fn", "rec", "call", "if", "+", "-", "*", "<"],x≠Str.ofString k):Zad Gn.ZaA (.inr x)=none:=by
 have e:∀ k∈["fn", "rec", "call", "if", "+", "-", "*", "<"],¬ (Sum.inr (Str.ofString k):Key)=.inr x:=fun k hk q=>h k hk (Sum.inr.inj q).symm;simp only [O2,List.not_mem_nil,or_false,forall_eq_or_imp,forall_eq] at e;obtain ⟨e1,e2,e3,e4,e5,e6,e7,e8⟩:=e;unfold Zad Gn.ZaA;simp only [List.find?_cons,decide_eq_false e1,decide_eq_false e2,decide_eq_false e3,decide_eq_false e4,decide_eq_false e5,decide_eq_false e6,decide_eq_false e7,decide_eq_false e8,List.find?_nil];rfl
theorem ZjJ{x:Str}{k:String}{c:Nat}(hk:(Str.ofString k).cps.toList=[c])(hx:c ∉ x.cps.toList):x≠Str.ofString k:=fun e=>hx (by rw [e,hk];exact .head _)
theorem Zmw(w:NmW x):Zad Gn.ZaA (.inr x)=none:=ZhY fun k hk=>by
 have hn:∀ c,c<97->c ∉ x.cps.toList:=fun c hc m=>by have:=(w.1 c m).1;lia
 have kw:=w.2.2.2;simp only [O2,List.not_mem_nil,or_false,not_or] at kw hk;rcases hk with rfl|rfl|rfl|rfl|rfl|rfl|rfl|rfl
 . exact kw.1
 . exact kw.2.1
 . exact kw.2.2.1
 . exact kw.2.2.2
 . exact ZjJ (c:=43) (by decide +kernel) (hn _ (by decide))
 . exact ZjJ (c:=45) (by decide +kernel) (hn _ (by decide))
 . exact ZjJ (c:=42) (by decide +kernel) (hn _ (by decide))
 . exact ZjJ (c:=60) (by decide +kernel) (hn _ (by decide))
theorem Zm7(m:Nat)(hm:m<1000000):Zad Gn.ZaA (.inr (dg (m:Int)))=none:=ZhY fun k hk e=>by
 have f:=ZfP m;have dl:=Zhm m hm;have:∀ k∈["fn", "rec", "call", "if", "+", "-", "*", "<"],∃ c∈(Str.ofString k).cps.toList,c<48\/57<c:=by decide +kernel
 obtain ⟨c,hc,q⟩:=this k hk;have:=f c (by rw [e];exact hc)
 lia
end K03L
end
section
namespace K03L
open PySem L2 IV Tm Fr
open Gn (dep Zm Up)
variable {P:Pg}
theorem ZlB(n:Nat):(ZJ 0 n).length=n:=by simp [ZJ]
theorem Rdr.own(r:Rdr h0 h o wl ss a):Rdr h h o wl ss a:=⟨r.ob,r.wd,Up.refl⟩
theorem Rdr.ext(r:Rdr h0 h o wl ss a)(q:Rdr h h' o wl ss b):Rdr h0 h' o wl ss b:=⟨q.ob,q.wd,r.up.trans q.up⟩
theorem te1(H:Lw P)(k:Nat)(t:T)(l:Int)(hl:l<=20)(ok:Ok3 t){h:Hd}(r:Rdr h h o wl ss a)(hp:ws t <+: ss.drop a)
   (hc:∀ s∈t.parts,∀ (h:Hd) (a:Nat),ws s <+: ss.drop a->Rdr h h o wl ss a->∃ h',run P (k+4) (mnm (O "Reader") (O "take_expression")) [.ref o,.int (l+1)] h=.ok s.d h'/\Rdr h h' o wl ss (a+(ws s).length)) :
   ∃ h',run P (k+5) (mnm (O "Reader") (O "take_expression")) [.ref o,.int l] h=.ok t.d h'/\Rdr h h' o wl ss (a+(ws t).length):=by
 have hol:=Gn.Zl r.ob;have hwl:=Gn.Zl r.wd;have x1:xs1 (P.tbl (k+4)) Z0 [some (.ref o),some (.int l),none,none,none] h=.ok (.nx,[some (.ref o),some (.int l),none,none,none]) h:=(Zx (ZP (ZrA rfl (show ev (P.tbl (k+4)) (.glo (O "MOST_DEEP")) [some (.ref o),some (.int l),none,none,none] h=.ok (.int 20) h from congrArg (fun o=>R.ofO o h) H.gd)) (decide_eq_false (by lia)))).trans rfl;have hd:∀ (w:Str) (rest:List Str),ws t=w::rest->xs1 (P.tbl (k+4)) ZZ [some (.ref o),some (.int l),none,none,none] h=.ok (.nx,[some (.ref o),some (.int l),some (.str w),none,none]) (h.set o (rdo wl ((a+1:Nat):Int))):=fun w rest e=>by
   rw [e] at hp;exact Zw (i:=2) (Zk6 rfl r.ob (by simp [List.lookup]) rfl (Zl1 H (k+3) r.ob r.wd (ZiZ hp).1))
 have r1:Rdr h (h.set o (rdo wl ((a+1:Nat):Int))) o wl ss (a+1):=r.set (b:=a+1);have tf:∀ (w:Str) (b c d:Option D) (hh:Hd) (x:Option D),Zad Gn.ZaA (.inr w)=x->tst (P.tbl (k+4)) ZT [some (.ref o),some (.int l),some (.str w),b,c] hh=.ok (!x.isSome) hh:=fun w b c d hh x e=>Gn.Zdv H.f.t ⟨rfl,rfl⟩ rfl e;have leaf:∀ (w:Str),ws t=[w]->Zad Gn.ZaA (.inr w)=none->(∀ h,∃ g,run P (k+4) (O "leaf_of") [.str w] h=.ok t.d (h++g))->∃ h',run P (k+5) (mnm (O "Reader") (O "take_expression")) [.ref o,.int l] h=.ok t.d h'/\Rdr h h' o wl ss (a+(ws t).length):=fun w e nf lf=>by
   obtain ⟨g,e4⟩:=lf (h.set o (rdo wl ((a+1:Nat):Int)));refine ⟨_,?_,by rw [e];exact r1.app (g:=g)⟩;rw [ZdW H.n_Reader_take_expression H.Reader_take_expression rfl];have w:xs2 (P.tbl (k+4)) ZD [some (.ref o),some (.int l),none,none,none] h=.ok (.rt t.d,[some (.ref o),some (.int l),some (.str w),none,none]) (h.set o (rdo wl ((a+1:Nat):Int))++g):=(Za x1).trans ((Za (hd w [] e)).trans (Zc ((Zaa (tf w none none none _ none nf)).trans (Zc (Zo (Zn e4 rfl))))));exact congrArg Ze w
 have form:∀ (w:Str),ow t=w::bnd t->Zad Gn.ZaA (.inr w)=some (.tup [.int (((bnd t).length:Nat):Int),.int ((t.parts.length:Nat):Int)])->t.d=.tup (.str w::(bnd t).map .str++t.parts.map T.d)->(∀ x∈bnd t,NmW x)->∃ h',run P (k+5) (mnm (O "Reader") (O "take_expression")) [.ref o,.int l] h=.ok t.d h'/\Rdr h h' o wl ss (a+(ws t).length):=fun w eo ef et hb=>by
   have bl:=Zdb t;have ew:ws t=w::(bnd t++t.parts.flatMap ws):=by rw [ZhE,eo];rfl
   have hp':=hp;rw [ew] at hp';obtain ⟨_,_,p3⟩:=ZiZ hp';obtain ⟨q1,q2⟩:=pre_app p3;generalize eh1:h.set o (rdo wl ((a+1:Nat):Int))=h1 at r1;have l1:h1.length=h.length:=by rw [<- eh1];simp
   have r2:Rdr h1 (h1++[.lst [.str w]]) o wl ss (a+1):=r1.own.app;obtain ⟨h3,k3,e3,r3,f3⟩:=Ztm H (k+1) (l:=l) (w:=w) (hs:=h1) (f:=h1.length) (by lia) (by lia) (Oq _) (bnd t) [.str w] (h1++[.lst [.str w]]) (a+1) (ZJ 0 (bnd t).length) none (ZlB _) hb q1 r2 (by simp) (by simp;lia);obtain ⟨h4,k4,e4,r4,f4⟩:=Ztn H (m:=k+4) (l:=l) (w:=w) (hs:=h1) (f:=h1.length) (by lia) (by lia) (Oq _) t.parts ([.str w]++(bnd t).map .str) h3 (a+1+(bnd t).length) (ZJ 0 t.parts.length) k3 (ZlB _) (fun s hs h a hp r=>by
     obtain ⟨h',e,r'⟩:=hc s hs h a hp r.own;exact ⟨h',e,r.ext r',r'.up⟩) q2 r3 f3 (by simp;lia)
   refine ⟨h4,?_,?_⟩
   . rw [ZdW H.n_Reader_take_expression H.Reader_take_expression rfl,et];have fa:∀ (b c:Option D) (hh:Hd),ev (P.tbl (k+4)) (.ix (.glo (O "FORMS")) (.var 2)) [some (.ref o),some (.int l),some (.str w),b,c] hh=.ok (.tup [.int (((bnd t).length:Nat):Int),.int ((t.parts.length:Nat):Int)]) hh:=fun b c hh=>Gn.Zki H.f.t ⟨rfl,rfl⟩ rfl ef;have rg:∀ (j:Int) (z:Nat) (b c:Option D) (hh:Hd),z<=10->atI [D.int (((bnd t).length:Nat):Int),.int ((t.parts.length:Nat):Int)] j=some (.int (z:Int))->evi (P.tbl (k+4)) (.rng (.ix (.ix (.glo (O "FORMS")) (.var 2)) (.cst (.int j)))) [some (.ref o),some (.int l),some (.str w),b,c] hh=.ok ⟨[],ZJ 0 z⟩ hh:=fun j z b c hh hz ea=>by
       rw [Zo3,(ZH (fa b c hh) rfl).trans (show Zdr P.GD (.tup _) (.int j) hh=.ok (.int (z:Int)) hh by rw [Zmt,ea];rfl),Zh];show (if Zaj (z:Int)=true then R.ok (⟨[],ZJ 0 (z:Int).toNat⟩:Wk) hh else .bad)=_;rw [if_pos (by simp [Zaj];lia)];rfl
     have w:xs2 (P.tbl (k+4)) ZD [some (.ref o),some (.int l),none,none,none] h=.ok (.rt (.tup (.str w::(bnd t).map .str++t.parts.map T.d)),ve3 o l w h1.length k4) h4:=by
       refine (Za x1).trans ((Za (hd w _ ew)).trans ?_);rw [eh1];have y4:xs1 (P.tbl (k+4)) ZY [some (.ref o),some (.int l),some (.str w),none,none] h1=.ok (.nx,ve3 o l w h1.length none) (h1++[.lst [.str w]]):=Zw (i:=3) (Zhl (xs:=[.str w]) rfl (show 1<=1000 by decide));have y5:xs1 (P.tbl (k+4)) ZX (ve3 o l w h1.length none) (h1++[.lst [.str w]])=.ok (.nx,ve3 o l w h1.length k3) h3:=(ZaQ (rg 0 _ _ _ _ (by lia) (by simp))).trans e3;have y6:xs1 (P.tbl (k+4)) ZW (ve3 o l w h1.length k3) h3=.ok (.nx,ve3 o l w h1.length k4) h4:=(ZaQ (rg 1 _ _ _ _ (by lia) (by simp))).trans e4;have y7:xs1 (P.tbl (k+4)) ZV (ve3 o l w h1.length k4) h4=.ok (.rt (.tup (.str w::(bnd t).map .str++t.parts.map T.d)),ve3 o l w h1.length k4) h4:=Zo (Zae (xs:=[.ref h1.length]) rfl (ZjB f4));exact (Za ((Zx (tf w none none none _ _ ef)).trans rfl)).trans ((Za y4).trans ((Za y5).trans ((Za y6).trans (Zc y7))))
     exact congrArg Ze w
   . have u1:Up o h h1:=by rw [<- eh1];exact Up.set
     rw [ew,Os,OA,show a+((bnd t).length+(t.parts.flatMap ws).length+1)=a+1+(bnd t).length+(t.parts.flatMap ws).length by lia];exact ⟨r4.ob,r4.wd,u1.trans r4.up⟩
 cases t with
 | num z =>
   obtain ⟨m,rfl⟩:∃ m:Nat,z=m:=⟨z.toNat,by have:=ok.1;lia⟩
   have hm:m<1000000:=by have:=ok.2;lia
   exact leaf (dg (m:Int)) rfl (Zm7 m hm) fun h=>Zrk H k m h hm
 | name x=>exact leaf x rfl (Zmw ok) fun h=>Zrj H k h ok
 | fn x e=>exact form (O "fn") rfl rfl rfl (by simpa [bnd] using ok.1)
 | rcc f x e=>exact form (O "rec") rfl rfl rfl (by simpa [bnd] using ⟨ok.1,ok.2.1⟩)
 | call f e=>exact form (O "call") rfl rfl rfl (by simp [bnd])
 | iff c f e=>exact form (O "if") rfl rfl rfl (by simp [bnd])
 | op w f e=>exact form w.s rfl (by cases w<;>rfl) rfl (by simp [bnd])
theorem ZsD (H:Lw P):∀ (d n:Nat) (t:T) (l:Int) (h:Hd) (a:Nat),dep t<=d->l+d<=20->Ok3 t->ws t <+: ss.drop a->Rdr h h o wl ss a->∃ h',run P (n+d+5) (mnm (O "Reader") (O "take_expression")) [.ref o,.int l] h=.ok t.d h'/\Rdr h h' o wl ss (a+(ws t).length)
 | 0,n,t,l,h,a,hd,hl,ok,hp,r=>te1 H (n+0) t l (by lia) ok r hp fun s hs=>by have:=Zm hs;lia
 | d+1,n,t,l,h,a,hd,hl,ok,hp,r=>te1 H (n+(d+1)) t l (by lia) ok r hp fun s hs h' a' hp' r'=>ZsD H d n s (l+1) h' a' (by have:=Zm hs;lia) (by lia) (ZhT ok hs) hp' r'
theorem ZnV (H:Lw P) (n:Nat) (t:T) (h:Hd) (ok:Ok3 t):run P (n+1) (O "has_name_twice") [t.d] h=.ok (.bl false) h:=by
 rw [Zj H.has_name_twice rfl];have no:∀ (w:Str) (ds:List D),t.d=.tup (.str w::ds)->w≠O "rec" -> Ze (xs2 (P.tbl n) Z2 [some t.d] h)=.ok (.bl false) h:=fun w ds e ne=>by
   have q:ev (P.tbl n) (.cmp .Eq (.ix (.var 0) (.cst (.int 0))) (.cst (.str (O "rec")))) [some t.d] h=.ok (.bl false) h:=(Zs ((ZH rfl rfl).trans (by rw [e];exact ZmJ)) rfl).trans (by rw [Zby,Zam,decide_eq_false ne];rfl);have w:xs2 (P.tbl n) Z2 [some t.d] h=.ok (.rt (.bl false),[some t.d]) h:=Zc (Zo (by rw [Zba,Zab,q,Zh]));exact congrArg Ze w
 cases t with
 | rcc f x e =>
   have q:ev (P.tbl n) (.cmp .Eq (.ix (.var 0) (.cst (.int 0))) (.cst (.str (O "rec")))) [some (T.rcc f x e).d] h=.ok (.bl true) h:=(Zs (x:=.str (O "rec")) rfl rfl).trans (by rw [Zby,Zam,decide_eq_true rfl];rfl);have q2:ev (P.tbl n) (.cmp .Eq (.ix (.var 0) (.cst (.int 1))) (.ix (.var 0) (.cst (.int 2)))) [some (T.rcc f x e).d] h=.ok (.bl false) h:=(Zs (x:=.str f) (y:=.str x) rfl rfl).trans (by rw [Zby,Zam,decide_eq_false ok.2.2.1];rfl);have w:xs2 (P.tbl n) Z2 [some (T.rcc f x e).d] h=.ok (.rt (.bl false),[some (T.rcc f x e).d]) h:=Zc (Zo (by rw [Zba,Zab,q,Zh,Zbr];exact q2));exact congrArg Ze w
 | num z=>exact no _ _ rfl (by simp)
 | name x=>exact no _ _ rfl (by simp)
 | fn x e=>exact no _ _ rfl (by simp)
 | call f e=>exact no _ _ rfl (by simp)
 | iff c f e=>exact no _ _ rfl (by simp)
 | op w f e=>exact no _ _ rfl (by simp)
theorem Zz:∀ {t:T},Ok3 t->∀ s∈t.places,Ok3 s
 | .num _,n,s,h=>by rw [Ox.mp h];exact n
 | .name _,n,s,h=>by rw [Ox.mp h];exact n
 | .fn x e,n,s,h=>by rcases O2.mp h with rfl|h;exact n;exact Zz n.2 s h
 | .rcc f x e,n,s,h=>by rcases O2.mp h with rfl|h;exact n;exact Zz n.2.2.2 s h
 | .call f a,n,s,h=>by
   rcases O2.mp h with rfl|h
   . exact n
   . rcases OD.mp h with h|h;exact Zz n.1 s h;exact Zz n.2 s h
 | .iff c a b,n,s,h=>by
   rcases O2.mp h with rfl|h
   . exact n
   . rcases OD.mp h with h|h
     . exact Zz n.1 s h
     . rcases OD.mp h with h|h;exact Zz n.2.1 s h;exact Zz n.2.2 s h
 | .op w f a,n,s,h=>by
   rcases O2.mp h with rfl|h
   . exact n
   . rcases OD.mp h with h|h;exact Zz n.1 s h;exact Zz n.2 s h
theorem ZpW(H:Lw P)(n:Nat){h:Hd}(hj:h[j]? = some (.lst L)):∀ (ps:List T) (o:Option D),(∀ s∈ps,Ok3 s)->∃ o',ZN [(j,L)] (.nm 1) (xs2 (P.tbl (n+1)) ZbI) (ps.map T.d) [E,o] h=.ok (.nx,[E,o']) h
 | [],o,_=>⟨o,ZdD hj⟩
 | s::ps,o,hs=>by
   obtain ⟨o',e⟩:=ZpW H n (E:=E) hj ps (some s.d) fun x hx=>hs x (.tail _ hx);exact ⟨o',(Zd7 hj (ρ1:=[E,some s.d]) rfl ((Za ((Zx (Zao (Zn (ZnV H n s h (hs s (.head _))) rfl))).trans rfl)).trans rfl)).trans e⟩
theorem ZnY (H:Lw P) (n:Nat) (t:T) (h:Hd) (ok:Ok3 t) (cl:lf t=[]) (hs:t.size<=800000) (hd:dep t<=900):∃ g,run P (n+3) (O "check_names") [t.d] h=.ok .non (h++g):=by
 obtain ⟨g,e⟩:=ZqC H.f n t h hs hd (by rw [cl];simp) (by rw [cl];simp [ddS]);rw [cl] at e;have e2:=Gn.Zft H.f.t H.pl n t (h++g++[.lst ((ZaH (ddS [])).map .str)]) hs;generalize eh:h++g++[DO.lst ((ZaH (ddS [])).map .str)]=h1 at e e2;have i1:h1[(h++g).length]? = some (.lst []):=by rw [<- eh];simp [ddS,ZaH]
 obtain ⟨o',e3⟩:=ZpW H (n+1) (E:=some t.d) (h:=h1++[.lst (t.places.map T.d),.lst []]) (j:=h1.length) (L:=t.places.map T.d) (by simp) t.places none fun s hs=>Zz ok s hs;refine ⟨g++[.lst []]++[.lst (t.places.map T.d),.lst []],?_⟩;rw [Zj H.check_names rfl];have w:xs2 (P.tbl (n+2)) Zc5 [some t.d,none] h=.ok (.nx,[some t.d,o']) (h1++[.lst (t.places.map T.d),.lst []]):=(Za ((Zx ((ZlG (Zn e rfl) i1).trans rfl)).trans rfl)).trans ((Za ((ZaQ (Zd9 (Zn e2 rfl) (by simp))).trans e3)).trans rfl);rw [show h++(g++[DO.lst []]++[.lst (t.places.map T.d),.lst []])=h1++[.lst (t.places.map T.d),.lst []] by rw [<- eh];simp [ddS,ZaH]];exact congrArg Ze w
end K03L
end
section
namespace K03L
open PySem L2 IV Tm Fr
open Gn (dep Zm Up)
variable {P:Pg}
theorem ZfE{h g:Hd}{k:Nat}(e:h[k]? = some o):(h++g)[k]? = some o:=by rw [Oe (Gn.Zl e)];exact e
theorem Zh6:∀ k∈["fn", "rec", "call", "if", "+", "-", "*", "<"],(∀ c∈(Str.ofString k).cps.toList,c<1114112/\c≠32)/\(Str.ofString k).length<=8:=by decide +kernel
theorem ZsX{t:T}(ok:Ok3 t):∀ w∈ow t,Wd8 w:=by
 cases t with
 | num n=>intro w hw;rw [Ox.mp hw];exact Zp4 ok.1 ok.2
 | name x=>intro w hw;rw [Ox.mp hw];exact Zj0 ok
 | fn x e=>intro w hw;simp [ow] at hw;rcases hw with rfl|rfl;exact Zh6 _ (by simp);exact Zj0 ok.1
 | rcc f x e=>intro w hw;simp [ow] at hw;rcases hw with rfl|rfl|rfl;exact Zh6 _ (by simp);exact Zj0 ok.1;exact Zj0 ok.2.1
 | call f e=>intro w hw;simp [ow] at hw;rw [hw];exact Zh6 _ (by simp)
 | iff c f e=>intro w hw;simp [ow] at hw;rw [hw];exact Zh6 _ (by simp)
 | op v f e=>intro w hw;simp [ow] at hw;rw [hw];cases v<;>exact Zh6 _ (by simp)
theorem Zjw{t:T}(ok:Ok3 t):∀ w∈ws t,Wd8 w:=fun w hw=>by
 obtain ⟨s,hs,hw⟩:=List.mem_flatMap.mp hw;exact ZsX (Zz ok s hs) w hw
theorem Zi2(t:T):1<=(ow t).length/\(ow t).length<=3:=by cases t<;>simp [ow]
theorem ZmS:∀ ps:List T,ps.length<=(ps.flatMap ow).length/\(ps.flatMap ow).length<=3 * ps.length
 | []=>by simp
 | s::ps=>by have:=ZmS ps;have:=Zi2 s;rw [List.flatMap_cons,OA,Os];lia
theorem Zfi(t:T):1<=(ws t).length/\(ws t).length<=3 * t.size:=by
 have:=ZmS t.places;have:=Gn.Zfv t;unfold ws T.size
 lia
theorem ZlP{ss:List Str}(ne:ss≠[])(h:∀ w∈ss,Wd8 w):ZdV (ZK ss)=ss:=by
 unfold ZdV ZK;rw [Zjo,Zg1 (by simpa using ne) (fun w hw=>by
   obtain ⟨p,hp,rfl⟩:=List.mem_map.mp hw;exact fun q=>((h p hp).1 32 q).2 rfl),List.map_map]
 refine Eq.trans (List.map_congr_left (g:=fun p=>p) fun p _=>ZiM p) ?_;simp
theorem Zkc:∀ (A:List (List Nat)) (c:Nat),c∈ZeT A->c=32\/∃ w∈A,c∈w
 | [],c,h=>by cases h
 | [w],c,h=>.inr ⟨w,.head _,h⟩
 | w::v::r,c,h=>by
   rcases OD.mp (show c∈w++32::ZeT (v::r) from h) with q|q
   . exact .inr ⟨w,.head _,q⟩
   . rcases O2.mp q with q|q
     . exact .inl q
     . rcases Zkc (v::r) c q with e|⟨u,hu,e⟩
       . exact .inl e
       . exact .inr ⟨u,.tail _ hu,e⟩
theorem Zkd:∀ (A:List (List Nat)),(∀ w∈A,w.length<=8)->(ZeT A).length<=9 * A.length
 | [],_=>by simp [ZeT]
 | [w],h=>by have:=h w (.head _);simp [ZeT];lia
 | w::v::r,h=>by
   have:=h w (.head _);have:=Zkd (v::r) fun x hx=>h x (.tail _ hx);show (w++32::ZeT (v::r)).length<=_;rw [OA,Os];simp only [Os] at *
   lia
theorem ZoT{ss:List Str}(h:∀ w∈ss,Wd8 w):PyData.strOk (ZK ss)=true:=Zi7.mpr fun c hc=>by
 unfold ZK at hc;rw [Zjo] at hc;rcases Zkc _ c hc with e|⟨w,hw,e⟩
 . lia
 . obtain ⟨p,hp,rfl⟩:=List.mem_map.mp hw;exact ((h p hp).1 c e).1
theorem ZmI{ss:List Str}(h:∀ w∈ss,Wd8 w):(ZK ss).length<=9 * ss.length:=by
 rw [Zdy];unfold ZK;rw [Zjo];have:=Zkd (ss.map (·.cps.toList)) fun w hw=>by
   obtain ⟨p,hp,rfl⟩:=List.mem_map.mp hw;rw [<- Zdy];exact (h p hp).2
 rwa [List.length_map] at this
theorem ZoS{ss:List Str}(h:∀ w∈ss,Wd8 w)(hl:ss.length<=100000):JoinOk blk ss=true:=by
 have gen:∀ (ss:List Str) (z:Nat),(∀ w∈ss,Wd8 w)->ss.foldl (·+·.length+blk.length) z<=z+9 * ss.length:=by
   intro ss;induction ss with
   | nil=>intro z _;simp
   | cons w r ih =>
     intro z hw;have l1:blk.length=1:=by decide +kernel
     have:=(hw w (.head _)).2;have:=ih (z+w.length+blk.length) fun x hx=>hw x (.tail _ hx);rw [List.foldl_cons,Os]
     lia
 have:=gen ss 0 h;unfold JoinOk Builtin.Str.tooLong;rw [<- Array.foldl_toList];show (!decide (ss.toArray.toList.foldl (·+·.length+blk.length) 0 > sizeLine))=true;rw [decide_eq_false (by rw [sizeLine_eq];show ¬ (ss.foldl (·+·.length+blk.length) 0 > _);lia)];rfl
theorem ZmX {U:Tb}{e:Ex}{ss:List Str} (p:ev U e S h=.ok (.ref r) h1) (l:h1[r]? = some (.lst (ss.map .str))) (h8:∀ w∈ss,Wd8 w) (hl:ss.length<=100000):ev U (.tmt .joi (.cst (.str (O " "))) e) S h=.ok (.str (ZK ss)) h1:=by
 rw [ZrE,ZrI,Zh];show (ev U e S h).bnd _=_;rw [p,Zh];simp only [txm,lstOf,l,Option.bind_some,Fr.ZjG];exact if_pos ⟨rfl,ZoS h8 hl,ZoT h8⟩
theorem ZsF (H:Lw P) (n:Nat) (wl:Nat) (h:Hd):Zmx (run P (n+1)) (O "Reader") [.ref wl] h=.ok (.ref h.length) (h++[rdo wl 0]):=by
 unfold Zmx;rw [ZdW H.n_Reader___init__ H.Reader___init__ (by rfl)];simp [ZM,Zbg,ZaF,ZaE,ZaG,Zfs,ZkQ,sizeLine_eq,rdo]
theorem ZqA (H:Lw P) (n:Nat) (t:T) (h:Hd) (ok:Ok3 t) (cl:lf t=[]) (hd:dep t<=20) (hs:t.size<=100):∃ g,run P (n+26) (O "read") [.str (ZK (ws t))] h=.ok t.d (h++g):=by
 have w8:=Zjw ok;have wl:=Zfi t;have sp:=ZlP (ss:=ws t) (fun e=>by rw [e] at wl;simp at wl) w8;have jl:=ZmI w8;rw [Zj H.read rfl];have e1:ev (P.tbl (n+25)) (.tmt .spl (.var 0) (.cst (.str (O " ")))) [some (.str (ZK (ws t))),none,none] h=.ok (.ref h.length) (h++[.lst ((ws t).map .str)]):=by
   show txm .spl (.str (ZK (ws t))) (.str (O " ")) h=_;simp only [txm];rw [if_pos ⟨rfl,by lia,by rw [sp];lia,by rw [sp];exact OC.mpr fun w hw=>Zi7.mpr fun c hc=>((w8 w hw).1 c hc).1⟩,sp];rfl
 have e2:=ZsF H (n+24) h.length (h++[.lst ((ws t).map .str)]);have x1:xs1 (P.tbl (n+25)) ZiA [some (.str (ZK (ws t))),none,none] h=.ok (.nx,[some (.str (ZK (ws t))),some (.ref (h++[DO.lst ((ws t).map .str)]).length),none]) (h++[.lst ((ws t).map .str)]++[rdo h.length 0]):=Zw (i:=1) (by
   rw [ZtE,Zb e1 rfl,Zh];exact e2)
 generalize eh1:h++[DO.lst ((ws t).map .str)]++[rdo h.length 0]=h1 at x1;generalize eo:(h++[DO.lst ((ws t).map .str)]).length=o at x1;have ob:h1[o]? = some (rdo h.length ((0:Nat):Int)):=by rw [<- eh1,<- eo];simp
 have wd:h1[h.length]? = some (.lst ((ws t).map .str)):=by rw [<- eh1];simp
 have ol:o=h.length+1:=by rw [<- eo];simp
 obtain ⟨h2,e3,r2⟩:=ZsD H (ss:=ws t) 20 n t 0 h1 0 hd (by lia) ok (by rw [List.drop_zero];exact List.prefix_rfl) ⟨ob,wd,Up.refl⟩;have x2:xs1 (P.tbl (n+25)) Ziz [some (.str (ZK (ws t))),some (.ref o),none] h1=.ok (.nx,[some (.str (ZK (ws t))),some (.ref o),some t.d]) h2:=Zw (i:=2) (Zk6 rfl ob (by simp [List.lookup]) (Zb rfl rfl) e3);have e4:run P (n+25) (mnm (O "Reader") (O "take_end")) [.ref o] h2=.ok .non h2:=by
   rw [ZdW H.n_Reader_take_end H.Reader_take_end rfl];have tt:tst (P.tbl (n+24)) ZaB [some (.ref o)] h2=.ok false h2:=ZP (Zrg (Znm rfl r2.ob) (Zae (Zb (Znl rfl r2.ob) rfl) (ZgF r2.wd))) (decide_eq_false (by rw [List.length_map];lia));have w:xs2 (P.tbl (n+24)) Zbf [some (.ref o)] h2=.ok (.nx,[some (.ref o)]) h2:=(Za ((Zx tt).trans rfl)).trans rfl;exact congrArg Ze w
 have x3:xs1 (P.tbl (n+25)) Ziy [some (.str (ZK (ws t))),some (.ref o),some t.d] h2=.ok (.nx,[some (.str (ZK (ws t))),some (.ref o),some t.d]) h2:=ZeG (Zk6 rfl r2.ob (by simp [List.lookup]) rfl e4);have e5:=Gn.Zft H.f.t H.pl (n+23) t h2 (by lia);have x4:xs1 (P.tbl (n+25)) Zix [some (.str (ZK (ws t))),some (.ref o),some t.d] h2=.ok (.nx,[some (.str (ZK (ws t))),some (.ref o),some t.d]) (h2++[.lst (t.places.map T.d),.lst []]):=(Zx (ZP (ZrA (Zae (Zb (Zn e5 rfl) rfl) (ZgF (ys:=t.places.map T.d) (by simp))) (show ev (P.tbl (n+25)) (.glo (O "MOST_PLACES")) [some (.str (ZK (ws t))),some (.ref o),some t.d] (h2++[.lst (t.places.map T.d),.lst []])=.ok (.int 100) (h2++[.lst (t.places.map T.d),.lst []]) from congrArg (fun o=>R.ofO o (h2++[DO.lst (t.places.map T.d),.lst []])) H.gp)) (decide_eq_false (by rw [List.length_map];unfold T.size at hs;lia)))).trans rfl;obtain ⟨g5,e6⟩:=ZnY H (n+22) t (h2++[.lst (t.places.map T.d),.lst []]) ok cl (by lia) (by lia);have x5:xs1 (P.tbl (n+25)) Ziv [some (.str (ZK (ws t))),some (.ref o),some t.d] (h2++[.lst (t.places.map T.d),.lst []])=.ok (.nx,[some (.str (ZK (ws t))),some (.ref o),some t.d]) (h2++[.lst (t.places.map T.d),.lst []]++g5):=ZeG (Zn e6 rfl);have u:=r2.up;obtain ⟨g,eg⟩:=kept (h:=h) (h':=h2++[.lst (t.places.map T.d),.lst []]++g5) (by have:=u.1;rw [<- eh1] at this;simp at this ⊢;lia) fun m hm=>by
   have l1:h1.length=h.length+2:=by rw [<- eh1];simp
   have:=u.1;rw [Oz,Oe (by lia),u.2 m (by lia) (by lia),<- eh1,Oz,Oe hm]
 refine ⟨g,?_⟩;rw [<- eg];have w:xs2 (P.tbl (n+25)) Znj [some (.str (ZK (ws t))),none,none] h=.ok (.rt t.d,[some (.str (ZK (ws t))),some (.ref o),some t.d]) (h2++[.lst (t.places.map T.d),.lst []]++g5):=(Za x1).trans ((Za x2).trans ((Za x3).trans ((Za x4).trans ((Za x5).trans (Zc (Zo rfl))))));exact congrArg Ze w
end K03L
end
section
namespace K03L
open PySem L2 IV Tm Fr
open Gn (dep Zm Up)
variable {P:Pg}
theorem ZpL{n:Int}(h0:0<=n)(h1:n<1000000):Zcq GD .sto [.int n] h=.ok (.str (dg n)) h:=if_pos ⟨ZrQ h0 h1,ZtI h0 h1⟩
theorem ZsE (H:Lw P) (n:Nat) (t:T) (h:Hd) (ok:Ok3 t):run P (n+2) (O "own_words") [t.d] h=.ok (.tup ((ow t).map .str)) h:=by
 rw [Zj H.own_words rfl];have eb:=ZpQ H.f.t H.f.bound_names n t h;have hl:=(Zdb t).1;have oth:∀ (w:Str) (ds:List D),t.d=.tup (.str w::ds)->w≠O "num" -> w≠O "name" -> ow t=w::bnd t->Ze (xs2 (P.tbl (n+1)) Zaq [some t.d] h)=.ok (.tup ((ow t).map .str)) h:=fun w ds e n1 n2 eo=>by
   have h0:ev (P.tbl (n+1)) (.ix (.var 0) (.cst (.int 0))) [some t.d] h=.ok (.str w) h:=(ZH rfl rfl).trans (by rw [e];exact ZmJ);have w:xs2 (P.tbl (n+1)) Zaq [some t.d] h=.ok (.rt (.tup ((ow t).map .str)),[some t.d]) h:=(Za ((Zx (ZP (Zgc h0 rfl) (decide_eq_false n1))).trans rfl)).trans ((Za ((Zx (ZP (Zgc h0 rfl) (decide_eq_false n2))).trans rfl)).trans (Zc (Zo ((Zd (Zcp (xs:=[_]) (Zb h0 rfl) (show 1<=1000 by decide)) (Zn eb rfl)).trans ((ZjY (by rw [sizeLine_eq];simp;lia)).trans (by rw [eo];rfl))))));exact congrArg Ze w
 cases t with
 | num z =>
   have w:xs2 (P.tbl (n+1)) Zaq [some (T.num z).d] h=.ok (.rt (.tup [.str (dg z)]),[some (T.num z).d]) h:=Zc ((Zaa (ZP (Zgc (x:=O "num") rfl rfl) (decide_eq_true rfl))).trans (Zc (Zo (Zcp (xs:=[_]) (Zb (Zae (xs:=[.int z]) rfl (ZpL ok.1 ok.2)) rfl) (show 1<=1000 by decide)))));exact congrArg Ze w
 | name x =>
   have w:xs2 (P.tbl (n+1)) Zaq [some (T.name x).d] h=.ok (.rt (.tup [.str x]),[some (T.name x).d]) h:=(Za ((Zx (ZP (Zgc (x:=O "name") rfl rfl) (decide_eq_false (by simp)))).trans rfl)).trans (Zc ((Zaa (ZP (Zgc (x:=O "name") rfl rfl) (decide_eq_true rfl))).trans (Zc (Zo (Zcp (xs:=[_]) rfl (show 1<=1000 by decide))))));exact congrArg Ze w
 | fn x e=>exact oth _ _ rfl (by simp) (by simp) rfl
 | rcc f x e=>exact oth _ _ rfl (by simp) (by simp) rfl
 | call f e=>exact oth _ _ rfl (by simp) (by simp) rfl
 | iff c f e=>exact oth _ _ rfl (by simp) (by simp) rfl
 | op w f e=>exact oth _ _ rfl (by simp) (by simp) rfl
theorem ZlW{h:Hd}{w:Nat}(e:h[w]? = some x):h.set w x=h:=by
 refine List.ext_getElem? fun i=>?_;by_cases q:w=i
 . subst q;rw [Ol (Gn.Zl e),e]
 . rw [Oc q]
theorem ZtB(e:h[i]? = some (.lst ys))(hz:ys.length+zs.length<=sizeLine):Zbp .ext (.ref i) [.tup zs] h=.ok .non (h.set i (.lst (ys++zs))):=by
 simp only [Zbp,e,ZfA,ZoN];exact if_pos hz
theorem Zj6(H:Lw P)(n:Nat)(jw:j≠w):∀ (ps:List T) (acc:List Str) (h:Hd) (o:Option D),(∀ s∈ps,Ok3 s)->h[j]? = some (.lst L)->h[w]? = some (.lst (acc.map .str))->acc.length+3 * ps.length<=100000 ->
   ∃ o',ZN [(j,L)] (.nm 2) (xs2 (P.tbl (n+2)) ZgH) (ps.map T.d) [E,some (.ref w),o] h=.ok (.nx,[E,some (.ref w),o']) (h.set w (.lst ((acc++ps.flatMap ow).map .str)))
 | [],acc,h,o,_,hj,hw,_=>⟨o,(ZdD hj).trans (by rw [List.flatMap_nil,List.append_nil];congr 1;exact (ZlW hw).symm)⟩
 | s::ps,acc,h,o,hs,hj,hw,hz=>by
   rw [Os] at hz;have ol:=Zi2 s;have hw':(h.set w (.lst ((acc++ow s).map .str)))[w]? = some (.lst ((acc++ow s).map .str)):=by rw [Ol (Gn.Zl hw)]
   obtain ⟨o',e⟩:=Zj6 H n (E:=E) (L:=L) jw ps (acc++ow s) (h.set w (.lst ((acc++ow s).map .str))) (some s.d) (fun x hx=>hs x (.tail _ hx)) (by rw [Oc (Ne.symm jw)];exact hj) hw' (by simp;lia);refine ⟨o',(Zd7 hj (ρ1:=[E,some (.ref w),some s.d]) rfl ((Za (ZeG (Zlj (i:=w) rfl hw (Zb (Zn (ZsE H n s h (hs s (.head _))) rfl) rfl) ((ZtB hw (by rw [sizeLine_eq];simp;lia)).trans (by rw [<- List.map_append]))))).trans rfl)).trans (e.trans ?_)⟩;rw [List.set_set,Oz];rfl
theorem Zg4 (H:Lw P) (n:Nat) (t:T) (h:Hd) (ok:Ok3 t) (hs:t.size<=30000):∃ g,run P (n+3) (O "shown") [t.d] h=.ok (.str (ZK (ws t))) (h++g):=by
 have e1:=Gn.Zft H.f.t H.pl n t (h++[.lst []]) (by lia);obtain ⟨o',e2⟩:=Zj6 H n (E:=some t.d) (j:=(h++[DO.lst []]).length) (w:=h.length) (L:=t.places.map T.d) (by simp) t.places [] (h++[.lst []]++[.lst (t.places.map T.d),.lst []]) none (fun s hs=>Zz ok s hs) (by simp) (by simp) (by unfold T.size at hs;simp;lia);rw [OB] at e2;have eh:(h++[DO.lst []]++[DO.lst (t.places.map T.d),DO.lst []]).set h.length (DO.lst ((t.places.flatMap ow).map .str))=h++.lst ((ws t).map .str)::[.lst (t.places.map T.d),.lst []]:=by simp [ws]
 rw [eh] at e2;refine ⟨.lst ((ws t).map .str)::[.lst (t.places.map T.d),.lst []],?_⟩;rw [Zj H.shown rfl];have wl:=Zfi t;have w:xs2 (P.tbl (n+2)) Zkw [some t.d,none,none] h=.ok (.rt (.str (ZK (ws t))),[some t.d,some (.ref h.length),o']) (h++.lst ((ws t).map .str)::[.lst (t.places.map T.d),.lst []]):=(Za (Zw (i:=1) (Zhl (xs:=[]) rfl (Nat.zero_le _)))).trans ((Za ((ZaQ (Zd9 (Zn e1 rfl) (by simp))).trans e2)).trans (Zc (Zo (ZmX (r:=h.length) rfl (by simp) (Zjw ok) (by lia)))));exact congrArg Ze w
noncomputable def vws(t:T)(r:Nat)(o:Option D):Ev:=[some t.d,some (.ref r),o]
noncomputable def Fw(d:D)(x:Str):Prop:=(d=.str x)\/∃ n:Int,d=.int n/\x=dg n/\0<=n/\n<1000000
theorem Zo1(f:Fw d x):Gn.ZaN d=true:=by rcases f with rfl|⟨n,rfl,_⟩<;>rfl
theorem ZrC{GD}(f:Fw d x):Zcq GD .sto [d] h=.ok (.str x) h:=by
 rcases f with rfl|⟨n,rfl,rfl,h0,h1⟩
 . rfl
 . exact ZpL h0 h1
inductive Fws:List D->List Str->Prop
 | nil:Fws [] []
 | cons:Fw d x->Fws ds xs->Fws (d::ds) (x::xs)
theorem Zsf{U:Tb}:∀ (ds:List D) (xs:List Str) (rest:List D) (acc:List Str) (h:Hd) (o:Option D),Fws ds xs->h[r]? = some (.lst (acc.map .str))->acc.length+xs.length<=100000 ->
   ∃ o',ZN [] (.nm 2) (xs2 U Zak) (ds++rest) (vws t r o) h=ZN [] (.nm 2) (xs2 U Zak) rest (vws t r o') (h.set r (.lst ((acc++xs).map .str)))
 | [],_,rest,acc,h,o,.nil,hr,_=>⟨o,by rw [List.append_nil,OB,ZlW hr]⟩
 | d::ds,x::xs,rest,acc,h,o,.cons f fs,hr,hz=>by
   rw [Os] at hz;obtain ⟨o',e⟩:=Zsf (U:=U) (t:=t) ds xs rest (acc++[x]) (h.set r (.lst ((acc++[x]).map .str))) (some d) fs (by rw [Ol (Gn.Zl hr)]) (by simp;lia);refine ⟨o',(Zda (ρ1:=vws t r (some d)) rfl ((Za ((Zx (ZpX (Zo1 f) rfl)).trans ((Za (ZeG (Zlj (i:=r) rfl hr (Zb (Zae (xs:=[d]) rfl (ZrC f)) rfl) ((Zdw hr (by rw [sizeLine_eq,List.length_map];lia)).trans (by rw [List.map_append];rfl))))).trans rfl))).trans rfl)).trans (e.trans ?_)⟩;rw [List.set_set,Oz];rfl
theorem Zse {U:Tb}{hb:Nat}:∀ (ss:List T) (acc:List Str) (h:Hd) (r:Nat) (o:Option D),(∀ s∈ss,∀ h,∃ g q,U.C (O "_law_words") [s.d] h=.ok (.ref q) (h++g)/\(h++g)[q]? = some (.lst ((ws s).map .str)))->h[r]? = some (.lst (acc.map .str))->hb<=r->hb<=h.length->acc.length+(ss.flatMap ws).length<=9000000 ->
   ∃ h' r' o',ZN [] (.nm 2) (xs2 U Zak) (ss.map T.d) (vws t r o) h=.ok (.nx,vws t r' o') h'/\h'[r']? = some (.lst ((acc++ss.flatMap ws).map .str))/\h.length<=h'.length/\∀ m,m<hb->h'[m]? = h[m]?
 | [],acc,h,r,o,_,hr,_,_,_=>⟨h,r,o,rfl,by simpa using hr,Oq _,fun _ _=>rfl⟩
 | s::ss,acc,h,r,o,hc,hr,hbr,hbh,hz=>by
   rw [List.flatMap_cons,OA] at hz;obtain ⟨g1,r1,c,e1⟩:=hc s (.head _) h;obtain ⟨h2,r2,o2,e2,q2,l2,k2⟩:=Zse (U:=U) (t:=t) (hb:=hb) ss (acc++ws s) (h++g1++[.lst ((acc++ws s).map .str)]) (h++g1).length (some s.d) (fun x hx=>hc x (.tail _ hx)) (by simp) (by simp;lia) (by simp;lia) (by rw [OA];lia);refine ⟨h2,r2,o2,(Zda (ρ1:=vws t r (some s.d)) rfl ((Za ((Zaa (Zkf s rfl)).trans ((Za (Zw (i:=1) ((Zd rfl (Zn c rfl)).trans ((add_l (ZfE hr) e1 (by simp;lia)).trans (by rw [<- List.map_append]))))).trans rfl))).trans rfl)).trans e2,by rw [List.flatMap_cons,<- Oz];exact q2,by simp at l2;lia,fun m hm=>?_⟩;rw [k2 m hm,Oz,Oe (by lia)]
theorem Zlt (H:Lw P) (m:Nat) (t:T) (h:Hd) (ok:Ok3 t) (hs:t.size<=30000) (hc:∀ s∈t.parts,∀ h,∃ g q,run P m (O "_law_words") [s.d] h=.ok (.ref q) (h++g)/\(h++g)[q]? = some (.lst ((ws s).map .str))):∃ g q,run P (m+1) (O "_law_words") [t.d] h=.ok (.ref q) (h++g)/\(h++g)[q]? = some (.lst ((ws t).map .str)):=by
 have gen:∀ (ds:List D),Fws ds (ow t)->evi (P.tbl m) Zbi (vws t h.length none) (h++[.lst []])=.ok ⟨[],ds++t.parts.map T.d⟩ (h++[.lst []])->∃ g q,run P (m+1) (O "_law_words") [t.d] h=.ok (.ref q) (h++g)/\(h++g)[q]? = some (.lst ((ws t).map .str)):=fun ds fs ei=>by
   have ol:=Zi2 t;obtain ⟨o1,e1⟩:=Zsf (U:=P.tbl m) (t:=t) (r:=h.length) ds (ow t) (t.parts.map T.d) [] (h++[.lst []]) none fs (by simp) (by simp;lia);rw [OB,show (h++[DO.lst []]).set h.length (.lst ((ow t).map .str))=h++[.lst ((ow t).map .str)] by simp] at e1;have wl:=Zfi t;have wp:=ZhE t;obtain ⟨h2,r2,o2,e2,q2,l2,k2⟩:=Zse (U:=P.tbl m) (t:=t) (hb:=h.length) t.parts (ow t) (h++[.lst ((ow t).map .str)]) h.length o1 hc (by simp) (Oq _) (by simp) (by rw [<- OA,<- wp];lia);obtain ⟨g,rfl⟩:=kept (h:=h) (h':=h2) (by simp at l2;lia) fun i hi=>(k2 i hi).trans (by rw [Oe hi]);refine ⟨g,r2,?_,by rw [wp];exact q2⟩;rw [Zj H.law_words rfl];have w:xs2 (P.tbl m) ZeK [some t.d,none,none] h=.ok (.rt (.ref r2),vws t r2 o2) (h++g):=(Za (Zw (i:=1) (Zhl (xs:=[]) rfl (Nat.zero_le _)))).trans ((Za ((ZaQ ei).trans (e1.trans e2))).trans (Zc (Zo rfl)));exact congrArg Ze w
 have ix:∀ (w:Str) (ds:List D) (b:Bool),t.d=.tup (.str w::ds)->decide (w∈[O "num",O "name"])=b->evi (P.tbl m) Zbi (vws t h.length none) (h++[.lst []])=.ok ⟨[],cutD (.str w::ds) (some (if b then 1 else 0)) none⟩ (h++[.lst []]):=fun w ds b e eb=>by
   have q1:ev (P.tbl m) (.cmp .In (.ix (.var 0) (.cst (.int 0))) (.tupl (.cons (.cst (.str (O "num"))) (.cons (.cst (.str (O "name"))) .nil)))) (vws t h.length none) (h++[.lst []])=.ok (.bl b) (h++[.lst []]):=(Zs (x:=.str w) ((ZH rfl rfl).trans (by rw [e];exact ZmJ)) (Zcp (xs:=[.str (O "num"),.str (O "name")]) rfl (show 2<=1000 by decide))).trans ((Zdu (ss:=[O "num",O "name"])).trans (by rw [eb]));have q2:ev (P.tbl m) (.blt .int (.cons (.cmp .In (.ix (.var 0) (.cst (.int 0))) (.tupl (.cons (.cst (.str (O "num"))) (.cons (.cst (.str (O "name"))) .nil)))) .nil)) (vws t h.length none) (h++[.lst []])=.ok (.int (if b then 1 else 0)) (h++[.lst []]):=Zae (Zb q1 rfl) rfl;exact Zhj ((Gn.ZlT (a:=.var 0) (x:=t.d) (l:=some (if b then 1 else 0)) (u:=none) rfl (Gn.Zhk q2) rfl).trans (by rw [e,Zmr]))
 have c0:∀ (ds:List D),cutD ds (some 0) none=ds:=fun ds=>by simp [cutD,HT.sIx]
 cases t with
 | num z=>exact gen [.int z] (.cons (.inr ⟨z,rfl,rfl,ok.1,ok.2⟩) .nil) ((ix _ _ true rfl (by simp)).trans rfl)
 | name x=>exact gen [.str x] (.cons (.inl rfl) .nil) ((ix _ _ true rfl (by simp)).trans rfl)
 | fn x e=>exact gen [.str (O "fn"),.str x] (.cons (.inl rfl) (.cons (.inl rfl) .nil)) ((ix _ _ false rfl (by simp)).trans (by simp only [OG,if_false];rw [c0];rfl))
 | rcc f x e=>exact gen [.str (O "rec"),.str f,.str x] (.cons (.inl rfl) (.cons (.inl rfl) (.cons (.inl rfl) .nil))) ((ix _ _ false rfl (by simp)).trans (by simp only [OG,if_false];rw [c0];rfl))
 | call f e=>exact gen [.str (O "call")] (.cons (.inl rfl) .nil) ((ix _ _ false rfl (by simp)).trans (by simp only [OG,if_false];rw [c0];rfl))
 | iff c f e=>exact gen [.str (O "if")] (.cons (.inl rfl) .nil) ((ix _ _ false rfl (by simp)).trans (by simp only [OG,if_false];rw [c0];rfl))
 | op w f e=>exact gen [.str w.s] (.cons (.inl rfl) .nil) ((ix w.s _ false rfl (by simp)).trans (by simp only [OG,if_false];rw [c0];rfl))
theorem Zg3 (H:Lw P):∀ (d n:Nat) (t:T) (h:Hd),dep t<=d->Ok3 t->t.size<=30000->∃ g q,run P (n+d+1) (O "_law_words") [t.d] h=.ok (.ref q) (h++g)/\(h++g)[q]? = some (.lst ((ws t).map .str))
 | 0,n,t,h,hd,ok,hs=>Zlt H (n+0) t h ok hs fun s q=>by have:=Zm q;lia
 | d+1,n,t,h,hd,ok,hs=>Zlt H (n+(d+1)) t h ok hs fun s q h'=>Zg3 H d n s h' (by have:=Zm q;lia) (ZhT ok q) (OE (ZnL q) hs)
theorem ZpO (H:Lw P) (m:Nat) (t:T) (h:Hd) (hc:∀ s∈t.parts,∀ h,∃ g,run P m (O "_law_size") [s.d] h=.ok (.int (s.size:Int)) (h++g)):∃ g,run P (m+1) (O "_law_size") [t.d] h=.ok (.int (t.size:Int)) (h++g):=by
 rw [Zj H.law_size rfl];obtain ⟨g,e⟩:=Gn.ZfR (U:=P.tbl m) (e:=.call (O "_law_size") (.cons (.var 0) .nil)) (f:=fun s=>(s.size:Int)) t.parts [] h (fun s hs h1=>by
   obtain ⟨g,e⟩:=hc s hs h1;exact ⟨g,Zn e rfl⟩) (by cases t<;>simp [T.parts])
 have e1:=Gn.ZfT (U:=P.tbl m) (e:=.call (O "_law_size") (.cons (.var 0) .nil)) (acc:=[]) (rest:=t.parts.map T.d) (h:=h) (fr t).tail (ZnF t) (by rw [sizeLine_eq];simp);rw [e,OB] at e1;refine ⟨g++[.lst (t.parts.map fun s=>.int s.size)],?_⟩;have sm:Zcq P.GD .sum [.ref (h++g).length] (h++g++[.lst (t.parts.map fun s=>D.int s.size)])=.ok (.int (t.parts.map fun s=>(s.size:Int)).sum) (h++g++[.lst (t.parts.map fun s=>D.int s.size)]):=by
   simp only [Zcq,Zpu,lstOf,Znn,Option.bind_some,Gn.ints_map];rfl
 have w:xs2 (P.tbl m) ZfX [some t.d] h=.ok (.rt (.int (t.size:Int)),[some t.d]) (h++g++[.lst (t.parts.map fun s=>D.int s.size)]):=Zc (Zo ((Zd (x:=.int 1) rfl (Zae (Zb (ZfO (Zhj (Zsz rfl)) e1) rfl) sm)).trans (by rw [Gn.ZnM];rfl)));rw [<- Oz];exact congrArg Ze w
theorem ZiW (H:Lw P):∀ (d n:Nat) (t:T) (h:Hd),dep t<=d->∃ g,run P (n+d+1) (O "_law_size") [t.d] h=.ok (.int (t.size:Int)) (h++g)
 | 0,n,t,h,hd=>ZpO H (n+0) t h fun s q=>by have:=Zm q;lia
 | d+1,n,t,h,hd=>ZpO H (n+(d+1)) t h fun s q h'=>ZiW H d n s h' (by have:=Zm q;lia)
end K03L
end
section
namespace K03L
open PySem L2 IV Tm Fr
open Gn (dep Zm Up)
variable {P:Pg}
theorem ZhB (H:Lw P) (n:Nat) (x:Str) (h:Hd):run P (n+1) (O "_law_alike") [.str x,.str x] h=.ok (.bl true) h:=by
 rw [Zj H.law_alike rfl];have q:ev (P.tbl n) (.cmp .Eq (.var 0) (.var 1)) [some (.str x),some (.str x)] h=.ok (.bl true) h:=(Zs rfl rfl).trans (by rw [Zby,Zam,decide_eq_true rfl];rfl);have w:xs2 (P.tbl n) Zbe [some (.str x),some (.str x)] h=.ok (.rt (.bl true),[some (.str x),some (.str x)]) h:=(Za ((Zx (Zao (b:=false) (Zae (Zb rfl (Zb rfl rfl)) rfl))).trans rfl)).trans (Zc ((Zaa (Zao (b:=true) (Zae (Zb rfl (Zb rfl rfl)) rfl))).trans (Zc (Zo (by rw [Zba,Zab];exact q)))));exact congrArg Ze w
theorem ZnU (H:Lw P) (n:Nat) (z:Int) (h:Hd):run P (n+1) (O "_law_whole") [.int z] h=.ok (.bl true) h:=by
 rw [Zj H.law_whole rfl];exact rfl
theorem Zr1 (H:Lw P) (n:Nat) (z:Int) (h:Hd):run P (n+2) (O "_law_alike") [.int z,.int z] h=.ok (.bl true) h:=by
 rw [Zj H.law_alike rfl];have q:ev (P.tbl (n+1)) (.cmp .Eq (.var 0) (.var 1)) [some (.int z),some (.int z)] h=.ok (.bl true) h:=(Zs rfl rfl).trans (by rw [Zby,Zds,decide_eq_true rfl];rfl);have q1:ev (P.tbl (n+1)) (.call (O "_law_whole") (.cons (.var 0) .nil)) [some (.int z),some (.int z)] h=.ok (.bl true) h:=Zn (ZnU H n z h) rfl;have w:xs2 (P.tbl (n+1)) Zbe [some (.int z),some (.int z)] h=.ok (.rt (.bl true),[some (.int z),some (.int z)]) h:=(Za ((Zx (Zao (b:=false) (Zae (Zb rfl (Zb rfl rfl)) rfl))).trans rfl)).trans ((Za ((Zx (Zao (b:=false) (Zae (Zb rfl (Zb rfl rfl)) rfl))).trans rfl)).trans (Zc (Zo (by rw [Zba,Zab,q1,Zh,Zbr];exact q))));exact congrArg Ze w
theorem ZtR {U:Tb}:∀ (xs acc:List D) (h:Hd),(∀ x∈xs,∀ h,∃ g,U.C (O "_law_alike") [x,x] h=.ok (.bl true) (h++g))->acc.length+xs.length<=1000->∃ g,Zu [] (.two 0 1) (tsto U none) (ev U (.call (O "_law_alike") (.cons (.var 0) (.cons (.var 1) .nil)))) (Zfh xs xs) [none,none] acc h=.ok (acc++xs.map fun _=>D.bl true) (h++g)
 | [],acc,h,_,_=>⟨[],by simp [Zfh,Zu,Wk.stays]⟩
 | x::xs,acc,h,hc,hz=>by
   rw [Os] at hz;obtain ⟨g,e⟩:=hc x (.head _) h;obtain ⟨g',e'⟩:=ZtR (U:=U) xs (acc++[.bl true]) (h++g) (fun y hy=>hc y (.tail _ hy)) (by simp;lia);refine ⟨g++g',?_⟩;show Zu [] (.two 0 1) (tsto U none) (ev U (.call (O "_law_alike") (.cons (.var 0) (.cons (.var 1) .nil)))) (.tup [x,x]::Zfh xs xs) [none,none] acc h=_;rw [Z8,if_pos ⟨rfl,by rw [sizeLine_eq];lia⟩];show (ev U (.call (O "_law_alike") (.cons (.var 0) (.cons (.var 1) .nil))) [some x,some x] h).plain.bnd _=_;rw [Zn (U:=U) (es:=.cons (.var 0) (.cons (.var 1) .nil)) (S:=[some x,some x]) e rfl];show Zu [] (.two 0 1) (tsto U none) (ev U (.call (O "_law_alike") (.cons (.var 0) (.cons (.var 1) .nil)))) (Zfh xs xs) [none,none] (acc++[.bl true]) (h++g)=_;rw [e'];simp
theorem Zns (H:Lw P) (k:Nat) (t:T) (h:Hd) (hc:∀ s∈t.parts,∀ h,∃ g,run P (k+2) (O "_law_alike") [s.d,s.d] h=.ok (.bl true) (h++g)):∃ g,run P (k+3) (O "_law_alike") [t.d,t.d] h=.ok (.bl true) (h++g):=by
 have fl:∀ d,Gn.ZaN d=true->∀ h,∃ g,run P (k+2) (O "_law_alike") [d,d] h=.ok (.bl true) (h++g):=fun d f h=>⟨[],by
   rw [List.append_nil];cases d with
   | str x=>exact ZhB H (k+1) x h
   | int z=>exact Zr1 H k z h
   | _=>cases f⟩
 have bl:=Zdb t;obtain ⟨g,e⟩:=ZtR (U:=P.tbl (k+2)) (fr t++t.parts.map T.d) [] h (fun x hx=>by
   rcases OD.mp hx with q|q
   . have:Gn.ZaN x=true:=by cases t<;>simp [fr] at q<;>(try rcases q with rfl|rfl|rfl)<;>(try rcases q with rfl|rfl)<;>(try subst q)<;>rfl
     exact fl x this
   . obtain ⟨s,hs,rfl⟩:=List.mem_map.mp q;exact hc s hs) (by cases t<;>simp [fr,T.parts])
 rw [OB] at e;generalize eb:((fr t++t.parts.map T.d).map fun _=>D.bl true)=bs at e;refine ⟨g++[.lst bs],?_⟩;rw [Zj H.law_alike rfl,<- Oz];have et:=ZtM t;have al:Zcq P.GD .all [.ref (h++g).length] (h++g++[.lst bs])=.ok (.bl true) (h++g++[.lst bs]):=by
   have eo:ZeJ bs=some ((fr t++t.parts.map T.d).map fun _=>true):=by rw [<- Zht,<- eb,List.map_map];rfl
   show Zjs [.ref (h++g).length] _=_;simp only [Zjs,lstOf,Znn,Option.bind_some,eo,Option.map_some];show R.ok (D.bl (((fr t++t.parts.map T.d).map fun _=>true).all id)) _=_;rw [List.all_map];simp
 have ln:∀ (i:Nat) (hi:i<2),ev (P.tbl (k+2)) (.blt .len (.cons (.var i) .nil)) [some t.d,some t.d] h=.ok (.int ((fr t++t.parts.map T.d).length:Int)) h:=fun i hi=>by
   have:i=0\/i=1:=by lia
   rcases this with rfl|rfl
   . exact Zae (Zb rfl rfl) (by rw [et];rfl)
   . exact Zae (Zb rfl rfl) (by rw [et];rfl)
 have zp:evi (P.tbl (k+2)) (.zp (.var 0) (.var 1)) [some t.d,some t.d] h=.ok ⟨[],Zfh (fr t++t.parts.map T.d) (fr t++t.parts.map T.d)⟩ h:=by
   show zpD t.d t.d h=_;rw [et];exact if_pos rfl
 have w:xs2 (P.tbl (k+2)) Zbe [some t.d,some t.d] h=.ok (.rt (.bl true),[some t.d,some t.d]) (h++g++[.lst bs]):=Zc ((Zaa (Zkf t rfl)).trans ((Za ((Zx (ZsZ (ZhU (b:=true) (Zkf t rfl)) (Zao (b:=false) ((Zs (ln 0 (by lia)) (ln 1 (by lia))).trans (by rw [Zi5,Zds,decide_eq_true rfl];rfl))))).trans rfl)).trans (Zc (Zo (Zae (Zb (ZfO zp e) rfl) al)))));exact congrArg Ze w
theorem ZjR (H:Lw P):∀ (d n:Nat) (t:T) (h:Hd),dep t<=d->∃ g,run P (n+d+3) (O "_law_alike") [t.d,t.d] h=.ok (.bl true) (h++g)
 | 0,n,t,h,hd=>Zns H (n+0) t h fun s q=>by have:=Zm q;lia
 | d+1,n,t,h,hd=>Zns H (n+(d+1)) t h fun s q h'=>ZjR H d n s h' (by have:=Zm q;lia)
theorem ZkM(f a:T):(T.call f a).size=1+f.size+a.size:=by simp [T.size,T.places];lia
noncomputable def vsr(t:T)(m:Nat)(f k o:Option D):Ev:=[some t.d,some (.ref m),f,k,o]
theorem ZpV{U:Tb}{ns:List Str}(h5:ns.length=5)(hm:h[m]? = some (.lst (ns.map .str)))(nw:∀ x∈ns,NmW x):∀ (ks:List Int) (u:T) (k:Option D),Ok3 u->∃ u' k',ZN [] (.nm 3) (xs2 U Zaz) (ks.map .int) (vsr t m (some u.d) k o) h=.ok (.nx,vsr t m (some u'.d) k' o) h/\Ok3 u'/\dep u'<=dep u+ks.length/\u'.size=u.size+2 * ks.length
 | [],u,k,ok=>⟨u,k,rfl,ok,by simp,by simp⟩
 | c::ks,u,k,ok=>by
   obtain ⟨x,hx,e⟩:=Zj1 (U:=U) (S:=vsr t m (some u.d) (some (.int c)) o) (h:=h) (a:=.var 1) (e:=.var 3) (z:=c) h5 hm rfl rfl;obtain ⟨u',k',e2,ok2,d2,s2⟩:=ZpV (U:=U) (t:=t) (o:=o) h5 hm nw ks (.call (.name x) u) (some (.int c)) ⟨nw x hx,ok⟩;refine ⟨u',k',(Zda (ρ1:=vsr t m (some u.d) (some (.int c)) o) rfl ((Za (Zw (i:=2) (Zcp (xs:=[_,_,_]) (Zb rfl (Zb (Zcp (xs:=[_,_]) (Zb rfl (Zb e rfl)) (show 2<=1000 by decide)) (Zb rfl rfl))) (show 3<=1000 by decide)))).trans rfl)).trans e2,ok2,?_,?_⟩
   . simp only [dep,Os] at d2 ⊢;lia
   . rw [s2,ZkM,Os];simp [T.size,T.places];lia
theorem ZlM(H:Lw P)(u:T)(h:Hd)(ok:Ok3 u)(hd:dep u<=30)(hs:u.size<=5000)(t:T)(m:Nat)(f k:Option D):∃ g,xs2 (P.tbl 249) Zay (vsr t m f k (some u.d)) h=.ok (.nx,vsr t m f k (some u.d)) (h++g):=by
 obtain ⟨g1,e1⟩:=ZiW H 30 218 u h hd;have t1:tst (P.tbl 249) (.ex (.cmp .LtE (.call (O "_law_size") (.cons (.var 4) .nil)) (.cst (.int 120)))) (vsr t m f k (some u.d)) h=.ok (decide ((u.size:Int)<=120)) (h++g1):=Zrl (Zn e1 rfl) rfl;by_cases hz:(u.size:Int)<=120
 . obtain ⟨g2,e2⟩:=Zg4 H 246 u (h++g1) ok (by lia);obtain ⟨g3,q,e3,l3⟩:=Zg3 H 30 218 u (h++g1++g2) hd ok (by lia);have wl:=Zfi u;have e4:=ZmX (U:=P.tbl 249) (S:=vsr t m f k (some u.d)) (h:=h++g1++g2) (e:=.call (O "_law_words") (.cons (.var 4) .nil)) (Zn e3 rfl) l3 (Zjw ok) (by lia);refine ⟨g1++(g2++g3),?_⟩;have t2:tst (P.tbl 249) (.nt (.ex (.call (O "_law_alike") (.cons (.call (O "shown") (.cons (.var 4) .nil)) (.cons (.tmt .joi (.cst (.str (O " "))) (.call (O "_law_words") (.cons (.var 4) .nil))) .nil))))) (vsr t m f k (some u.d)) (h++g1)=.ok false (h++g1++g2++g3):=ZhU (b:=true) (Zao (Zn (ZhB H 248 (ZK (ws u)) _) (Zb (Zn e2 rfl) (Zb e4 rfl))));rw [show h++(g1++(g2++g3))=h++g1++g2++g3 by simp];exact (Za ((Zx (Znp (ZP t1 (decide_eq_true hz)) t2)).trans rfl)).trans rfl
 . exact ⟨g1,(Za ((Zx (Znq (ZP t1 (decide_eq_false hz)))).trans rfl)).trans rfl⟩
theorem Zl2 (H:Lw P) {ns:List Str} (t:T) (h:Hd) (h5:ns.length=5) (hm:h[m]? = some (.lst (ns.map .str))) (nw:∀ x∈ns,NmW x) (ok:Ok3 t) (hd:dep t<=6) (hs:t.size<=2000):∃ g,run P 250 (O "_law_shown_right") [t.d,.ref m] h=.ok (.bl true) (h++g):=by
 rw [Zj (n:=249) H.law_shown_right rfl];obtain ⟨u,k',e2,ok2,d2,s2⟩:=ZpV (U:=P.tbl 249) (t:=t) (o:=none) h5 hm nw ((List.range 17).map fun (i:Nat)=>(i:Int)) t none ok;simp only [List.length_map,List.length_range] at d2 s2;have x2:xs1 (P.tbl 249) ZaD (vsr t m (some t.d) none none) h=.ok (.nx,vsr t m (some u.d) k' none) h:=(ZaQ (w:=⟨[],((List.range 17).map fun (i:Nat)=>(i:Int)).map .int⟩) rfl).trans e2;obtain ⟨g1,f1⟩:=ZlM H t (h++[.lst [t.d,u.d]]) ok (by lia) (by lia) t m (some u.d) k';obtain ⟨g2,f2⟩:=ZlM H u (h++[.lst [t.d,u.d]]++g1) ok2 (by lia) (by lia) t m (some u.d) k';have i0:(h++[DO.lst [t.d,u.d]])[h.length]? = some (.lst [t.d,u.d]):=by simp
 have x3:xs1 (P.tbl 249) ZaC (vsr t m (some u.d) k' none) h=.ok (.nx,vsr t m (some u.d) k' (some u.d)) (h++[.lst [t.d,u.d]]++g1++g2):=(ZaQ (Zd9 (Zhl (xs:=[t.d,u.d]) rfl (show 2<=1000 by decide)) i0)).trans ((Zd7 i0 (ρ1:=vsr t m (some u.d) k' (some t.d)) rfl f1).trans ((Zd7 (ZfE i0) (ρ1:=vsr t m (some u.d) k' (some u.d)) rfl f2).trans (ZdD (ZfE (ZfE i0)))));refine ⟨[.lst [t.d,u.d]]++(g1++g2),?_⟩;have w:xs2 (P.tbl 249) Zbc (vsr t m none none none) h=.ok (.rt (.bl true),vsr t m (some u.d) k' (some u.d)) (h++[.lst [t.d,u.d]]++g1++g2):=(Za (Zw (i:=2) (d:=t.d) rfl)).trans ((Za x2).trans ((Za x3).trans (Zc (Zo rfl))));rw [show h++([DO.lst [t.d,u.d]]++(g1++g2))=h++[.lst [t.d,u.d]]++g1++g2 by simp];exact congrArg Ze w
end K03L
end
section
namespace K03L
open PySem L2 IV Tm Fr
open Gn (dep Zm Up)
variable {P:Pg}
theorem Zcx:∀ {t:T}{ns:List Str},(∀ x∈ns,NmW x)->Na ns t->Ok3 t
 | .num _,_,_,n=>n
 | .name x,_,h,n=>h x n
 | .fn x e,_,h,n=>⟨h x n.1,Zcx h n.2⟩
 | .rcc f x e,_,h,n=>⟨h f n.1,h x n.2.1,n.2.2.1,Zcx h n.2.2.2⟩
 | .call f a,_,h,n=>⟨Zcx h n.1,Zcx h n.2⟩
 | .iff c a b,_,h,n=>⟨Zcx h n.1,Zcx h n.2.1,Zcx h n.2.2⟩
 | .op w a b,_,h,n=>⟨Zcx h n.1,Zcx h n.2⟩
noncomputable def wr(ns:List Str)(t:T):T:=ns.foldl (fun t x=>.fn x t) t
theorem ZpE:∀ (ns:List Str) (t:T) (x:Str),x∈lf (wr ns t)->x∈lf t/\x ∉ ns
 | [],t,x,h=>⟨h,by simp⟩
 | y::ns,t,x,h=>by
   obtain ⟨h1,h2⟩:=ZpE ns (.fn y t) x h;obtain ⟨h3,h4⟩:=List.mem_filter.mp h1;exact ⟨h3,fun q=>by rcases O2.mp q with q|q;exact of_decide_eq_true h4 q;exact h2 q⟩
theorem ZpD:∀ (ns:List Str) (t:T),(∀ x∈ns,NmW x)->Ok3 t->Ok3 (wr ns t)/\dep (wr ns t)=dep t+ns.length/\(wr ns t).size=t.size+ns.length
 | [],t,_,ok=>⟨ok,rfl,rfl⟩
 | y::ns,t,h,ok=>by
   obtain ⟨a,b,c⟩:=ZpD ns (.fn y t) (fun x hx=>h x (.tail _ hx)) ⟨h y (.head _),ok⟩;refine ⟨a,b.trans (by simp only [dep,Os];lia),c.trans ?_⟩;have:(T.fn y t).size=t.size+1:=by simp [T.size,T.places]
   rw [this,Os];lia
noncomputable def vl3(s:D)(i m:Nat)(a b c d:Option D):Ev:=[some s,some (.ref i),some (.ref m),a,b,c,d]
theorem Ztk{U:Tb}{ns:List Str}(hm:h[m]? = some (.lst L)):∀ (xs:List Str) (t:T) (o:Option D),∃ o',ZN [(m,L)] (.nm 4) (xs2 U ZgI) (xs.map .str) (vl3 s i m (some t.d) o c d) h=.ok (.nx,vl3 s i m (some (wr xs t).d) o' c d) h
 | [],t,o=>⟨o,ZdD hm⟩
 | x::xs,t,o=>by
   obtain ⟨o',e⟩:=Ztk (U:=U) (ns:=ns) (s:=s) (i:=i) (c:=c) (d:=d) hm xs (.fn x t) (some (.str x));exact ⟨o',(Zd7 hm (ρ1:=vl3 s i m (some t.d) (some (.str x)) c d) rfl ((Za (Zw (i:=3) (Zcp (xs:=[_,_,_]) rfl (show 3<=1000 by decide)))).trans rfl)).trans e⟩
theorem Ztl(H:Lw P)(u:T)(h:Hd)(ok:Ok3 u)(cl:lf u=[])(hd:dep u<=20)(hs:u.size<=3000)(s:D)(i m:Nat)(b c d:Option D):∃ g c' d',xs2 (P.tbl 250) (.cons Zep (.cons ZgV .nil)) (vl3 s i m (some u.d) b c d) h=.ok (.nx,vl3 s i m (some u.d) b c' d') (h++g):=by
 obtain ⟨g3,q,e3,l3⟩:=Zg3 H 20 229 u h hd ok (by lia);have wl:=Zfi u;have e4:=ZmX (U:=P.tbl 250) (S:=vl3 s i m (some u.d) b c d) (h:=h) (e:=.call (O "_law_words") (.cons (.var 3) .nil)) (Zn e3 rfl) l3 (Zjw ok) (by lia);have x4:xs1 (P.tbl 250) Zep (vl3 s i m (some u.d) b c d) h=.ok (.nx,vl3 s i m (some u.d) b (some (.str (ZK (ws u)))) d) (h++g3):=Zw (i:=5) e4;obtain ⟨g5,e5⟩:=ZiW H 20 229 u (h++g3) hd;have t5:tst (P.tbl 250) ZgQ (vl3 s i m (some u.d) b (some (.str (ZK (ws u)))) d) (h++g3)=.ok (decide ((u.size:Int)<=100)) (h++g3++g5):=Zrl (Zn e5 rfl) rfl;by_cases hz:(u.size:Int)<=100
 . obtain ⟨g6,e6⟩:=ZqA H 224 u (h++g3++g5) ok cl hd (by lia);obtain ⟨g7,e7⟩:=ZjR H 20 227 u (h++g3++g5++g6) hd;obtain ⟨g8,e8⟩:=Zg4 H 247 u (h++g3++g5++g6++g7) ok (by lia);obtain ⟨g9,e9⟩:=Zg4 H 247 u (h++g3++g5++g6++g7++g8) ok (by lia);refine ⟨g3++(g5++(g6++(g7++(g8++g9)))),some (.str (ZK (ws u))),some u.d,?_⟩;have y1:xs1 (P.tbl 250) ZdO (vl3 s i m (some u.d) b (some (.str (ZK (ws u)))) d) (h++g3++g5)=.ok (.nx,vl3 s i m (some u.d) b (some (.str (ZK (ws u)))) (some u.d)) (h++g3++g5++g6):=Zw (i:=6) (Zn e6 rfl);have t2:tst (P.tbl 250) ZdI (vl3 s i m (some u.d) b (some (.str (ZK (ws u)))) (some u.d)) (h++g3++g5++g6)=.ok false (h++g3++g5++g6++g7++g8++g9) :=
     Zs0 (ZhU (b:=true) (Zao (Zn e7 rfl))) (ZhU (b:=true) (Zao (Zn (ZhB H 249 (ZK (ws u)) _) (Zb (Zn e8 rfl) rfl)))) (ZhU (b:=true) (Zao (Zn (ZhB H 249 (ZK (ws u)) _) (Zb (Zn e9 rfl) rfl))))
   rw [show h++(g3++(g5++(g6++(g7++(g8++g9)))))=h++g3++g5++g6++g7++g8++g9 by simp];exact (Za x4).trans ((Za ((Zaa (ZP t5 (decide_eq_true hz))).trans ((Za y1).trans ((Za ((Zx t2).trans rfl)).trans rfl)))).trans rfl)
 . refine ⟨g3++g5,some (.str (ZK (ws u))),d,?_⟩;rw [<- Oz];exact (Za x4).trans ((Za ((Zx (ZP t5 (decide_eq_false hz))).trans rfl)).trans rfl)
theorem ZpU(H:Lw P){ns:List Str}(two:∃ a∈ns,∃ b∈ns,a≠b)(h5:ns.length=5)(nw:∀ x∈ns,NmW x)(im:m≠i):∀ (F a:Nat) (h:Hd) (oa ob oc od:Option D),cs.length+1 - a<F->St2 h i j cs a->h[m]? = some (.lst (ns.map .str))->∃ h' pa pb pc pd,Z7 (tst (P.tbl 250) Zhs) (xs2 (P.tbl 250) Zj7) F (vl3 s i m oa ob oc od) h=.ok (.nx,vl3 s i m pa pb pc pd) h'
 | 0,a,h,oa,ob,oc,od,hf,_,_=>by lia
 | F+1,a,h,oa,ob,oc,od,hf,st,hm=>by
   have tt:tst (P.tbl 250) Zhs (vl3 s i m oa ob oc od) h=.ok (decide ((a:Int)<=(cs.map D.int).length)) h:=Zrl ((ZH rfl rfl).trans ((ZG st.1).trans rfl)) (Zae (Zb ((ZH rfl rfl).trans ((ZG st.1).trans rfl)) rfl) (ZgF st.2.1));rw [List.length_map] at tt;by_cases ha:a<=cs.length
   . obtain ⟨t,h1,a1,e1,u1,s1,l1,n1,d1⟩:=ZjP H.m (cs:=cs) (j:=j) h5 im 6 242 h a 6 rfl st hm;have m1:=u1.at hm im;obtain ⟨t',g1,e2,n2,d2⟩:=ZjQ H.m two h5 6 243 t h1 d1 n1 m1;have sz:=Z3 6 t' d2;have s4:t'.size<=2000:=OE (show t'.size<=1093 by have z:3 ^ (6+1)=2187:=rfl;lia) (by decide);have ok:=Zcx nw n2;have m2:(h1++g1)[m]? = some (.lst (ns.map .str)):=ZfE m1;obtain ⟨g2,e3⟩:=Zl2 H t' (h1++g1) h5 m2 nw ok d2 s4;have m3:(h1++g1++g2)[m]? = some (.lst (ns.map .str)):=ZfE m2;obtain ⟨o4,e4⟩:=Ztk (U:=P.tbl 250) (ns:=ns) (s:=s) (i:=i) (c:=oc) (d:=od) m3 ns t' ob;obtain ⟨wok,wd,wsz⟩:=ZpD ns t' nw ok;have cl:lf (wr ns t')=[]:=List.eq_nil_iff_forall_not_mem.mpr fun x hx=>by
       obtain ⟨q1,q2⟩:=ZpE ns t' x hx;exact q2 (ZcA (Zcy n2) x q1)
     obtain ⟨g5,c',d',e5⟩:=Ztl H (wr ns t') (h1++g1++g2) wok cl (by lia) (by lia) s i m o4 oc od;obtain ⟨h',pa,pb,pc,pd,e6⟩:=ZpU H two h5 nw im (s:=s) (j:=j) (cs:=cs) F a1 (h1++g1++g2++g5) (some (wr ns t').d) o4 c' d' (by lia) s1.app.app.app (ZfE m3);have x1:xs1 (P.tbl 250) ZgY (vl3 s i m oa ob oc od) h=.ok (.nx,vl3 s i m (some t'.d) ob oc od) (h1++g1):=Zw (i:=3) (Zn e2 (Zb (Zn e1 rfl) rfl));have x2:xs1 (P.tbl 250) ZgX (vl3 s i m (some t'.d) ob oc od) (h1++g1)=.ok (.nx,vl3 s i m (some t'.d) ob oc od) (h1++g1++g2):=(Zx (ZhU (b:=true) (Zao (Zn e3 rfl)))).trans rfl;have x3:xs1 (P.tbl 250) ZgW (vl3 s i m (some t'.d) ob oc od) (h1++g1++g2)=.ok (.nx,vl3 s i m (some (wr ns t').d) o4 oc od) (h1++g1++g2):=(ZaQ (Zd9 (i:=m) rfl m3)).trans e4;exact ⟨h',pa,pb,pc,pd,(Zjy (ZP tt (decide_eq_true (by lia))) ((Za x1).trans ((Za x2).trans ((Za x3).trans e5)))).trans e6⟩
   . exact ⟨h,oa,ob,oc,od,Zjz (ZP tt (decide_eq_false (by lia)))⟩
theorem ZsG (H:Lw P) (ns:List Int) (hl:ns.length<=63):∃ h',run P (250+1) (O "law") [.ro (ns.map .int)] []=.ok (.bl true) h':=by
 rw [Zj H.law rfl];obtain ⟨zs,ez,lz⟩:∃ zs:List Int,cutD (ns.map .int) none (some 150)=zs.map .int/\zs.length<=63:=by
   unfold cutD;rw [<- List.map_drop,<- List.map_take];exact ⟨_,rfl,by simp;lia⟩
 have e0:ev (P.tbl 250) (.bin .Add (.lstl (.cons (.cst (.int 0)) .nil)) (.sl (.var 0) none (some (.cst (.int 150))))) [some (.ro (ns.map .int)),none,none,none,none,none,none] []=.ok (.ref 2) [.lst [.int 0],.lst (zs.map .int),.lst ((0::zs).map .int)]:=by
   refine (Zd (Zhl (xs:=[.int 0]) rfl (by decide)) (y:=.ref 1) (h2:=[.lst [.int 0],.lst (zs.map .int)]) ?_).trans ?_
   . show Za3 (.lst (cutD (ns.map .int) none (some 150))) [.lst [.int 0]]=_;rw [ez];rfl
   . exact (add_l (h:=[.lst [.int 0],.lst (zs.map .int)]) (i:=0) (j:=1) rfl rfl (by simp;lia)).trans rfl
 obtain ⟨cs,lc,ec⟩:=ZfS H.m (n:=249) (h:=[.lst [.int 0],.lst (zs.map .int),.lst ((0::zs).map .int)]) (k:=2) (xs0:=(0::zs).map .int) rfl (0::zs) 0 [] (by simp;lia) (by simp;lia);have ei:evi (P.tbl 250) (.enu (.bin .Add (.lstl (.cons (.cst (.int 0)) .nil)) (.sl (.var 0) none (some (.cst (.int 150)))))) [some (.ro (ns.map .int)),none,none,none,none,none,none] []=.ok ⟨[(2,(0::zs).map .int)],(0::zs).mapIdx fun q x=>D.tup [.int ((q+0:Nat):Int),.int x]⟩ [.lst [.int 0],.lst (zs.map .int),.lst ((0::zs).map .int)]:=by
   rw [Zo4,e0,Zh];show R.ok (⟨[(2,(0::zs).map .int)],Zb1 ((0::zs).map .int)⟩:Wk) _=_;have en:∀ ys:List Int,Zb1 (ys.map D.int)=ys.mapIdx fun q x=>D.tup [.int ((q+0:Nat):Int),.int x]:=fun ys=>by
     unfold Zb1;apply List.ext_getElem?;intro q;simp [List.getElem?_mapIdx];cases ys[q]?<;>rfl
   rw [en]
 have x1:xs1 (P.tbl 250) Zkz [some (.ro (ns.map .int)),none,none,none,none,none,none] []=.ok (.nx,[some (.ro (ns.map .int)),some (.ref 4),none,none,none,none,none]) [.lst [.int 0],.lst (zs.map .int),.lst ((0::zs).map .int),.lst (cs.map .int),.lst [.ref 3,.int 1]]:=Zw (i:=1) ((Zhl (h1:=[.lst [.int 0],.lst (zs.map .int),.lst ((0::zs).map .int),.lst (cs.map .int)]) (xs:=[.ref 3,.int 1]) (Zb ((ZfO (h2:=[.lst [.int 0],.lst (zs.map .int),.lst ((0::zs).map .int)]) (xs:=cs.map .int) ei ec).trans rfl) rfl) (by decide)).trans rfl);have st:St2 [.lst [.int 0],.lst (zs.map .int),.lst ((0::zs).map .int),.lst (cs.map .int),.lst [.ref 3,.int 1]] 4 3 cs 1:=⟨rfl,rfl,by decide⟩
 generalize [DO.lst [.int 0],.lst (zs.map .int),.lst ((0::zs).map .int),.lst (cs.map .int),.lst [.ref 3,.int 1]]=h1 at *;obtain ⟨c,cr,rfl⟩:∃ c r,cs=c::r:=by
   rcases cs with _|⟨c,r⟩
   . simp at lc
   . exact ⟨c,r,rfl⟩
 obtain ⟨nn,l5,ok,two,e2⟩:=ZnX H.m 248 c h1;have x2:xs1 (P.tbl 250) Zky [some (.ro (ns.map .int)),some (.ref 4),none,none,none,none,none] h1=.ok (.nx,vl3 (.ro (ns.map .int)) 4 h1.length none none none none) (h1++[.lst (nn.map .str)]):=Zw (i:=2) (Zn e2 (Zb ((ZH ((ZH rfl rfl).trans ((ZG st.1).trans rfl)) rfl).trans ((ZG st.2.1).trans (by rw [Op,ZkA];rfl))) rfl));obtain ⟨h',pa,pb,pc,pd,e3⟩:=ZpU H two l5 (fun x hx=>(ok x hx).2) (m:=h1.length) (i:=4) (j:=3) (cs:=c::cr) (s:=.ro (ns.map .int)) (by have:=Gn.Zl st.1;lia) P.L 1 (h1++[.lst (nn.map .str)]) none none none none (by have:=H.f.t.big;simp at lc ⊢;lia) st.app (by simp);have x3:xs1 (P.tbl 250) Zkx (vl3 (.ro (ns.map .int)) 4 h1.length none none none none) (h1++[.lst (nn.map .str)])=.ok (.nx,vl3 (.ro (ns.map .int)) 4 h1.length pa pb pc pd) h':=e3;have w:xs2 (P.tbl 250) Zp9 [some (.ro (ns.map .int)),none,none,none,none,none,none] []=.ok (.rt (.bl true),vl3 (.ro (ns.map .int)) 4 h1.length pa pb pc pd) h':=(Za x1).trans ((Za x2).trans ((Za x3).trans (Zc (Zo rfl))));exact ⟨h',congrArg Ze w⟩
end K03L
end
section
set_option maxHeartbeats 4000000
namespace K03
open PySem L2 IV PyProof.Rows
noncomputable def Zan:Fd:=⟨[(O "_law_cell")],[(O "_law_cell"),(O "_law_letters"),(O "_law_size_here"),(O "_law_at"),(O "_law_found"),(O "_law_k"),(O "_law_text"),(O "_law_j")],K02L.Zb4⟩
noncomputable def cG:List (Str×D):=[((O "KEPT_WORDS"),(.tup [(.str (O "fn")),(.str (O "rec")),(.str (O "call")),(.str (O "if"))])),((O "LETTERS"),(.str (O "abcdefghijklmnopqrstuvwxyz"))),((O "FIGURES"),(.str (O "0123456789"))),((O "MOST_LETTERS"),(.int 8)),((O "MOST_FIGURES"),(.int 6)),((O "MOST_PLACES"),(.int 100)),((O "MOST_DEEP"),(.int 20)),((O "FORMS"),.kd (O "FORMS"))]
noncomputable def cD:List (Str×List (Key×D)):=[((O "FORMS"),[(.inr (O "fn"),(.tup [(.int 1),(.int 1)])),(.inr (O "rec"),(.tup [(.int 2),(.int 1)])),(.inr (O "call"),(.tup [(.int 0),(.int 2)])),(.inr (O "if"),(.tup [(.int 0),(.int 3)])),(.inr (O "+"),(.tup [(.int 0),(.int 2)])),(.inr (O "-"),(.tup [(.int 0),(.int 2)])),(.inr (O "*"),(.tup [(.int 0),(.int 2)])),(.inr (O "<"),(.tup [(.int 0),(.int 2)]))])]
noncomputable def dl:List (Str×Fd×Nat):=[((O "bound_names"),K02L.Zal,6),((O "parts_of"),Gn.ZfL,7),((O "places"),Gn.ZdE,8),((O "free_names"),K02L.ZdG,9),((O "is_made_of"),K03L.ZdF,16),((O "is_name"),K03L.ZgN,17),((O "is_number"),K03L.ZeF,18),((O "read_number"),K03L.ZcG,19),((O "leaf_of"),K03L.ZgM,23),((O "has_name_twice"),K03L.Zbq,25),((O "check_names"),K03L.ZcH,26),((O "read"),K03L.ZmT,27),((O "own_words"),K03L.Zey,28),((O "shown"),K03L.Zkj,29),((O "_law_whole"),K03L.ZeA,31),((O "_law_mixed"),K02L.ZeB,32),((O "_law_next"),K02L.ZfN,33),((O "_law_names"),Zan,34),((O "_law_drawn"),K02L.ZeC,35),((O "_law_words"),K03L.Zez,36),((O "_law_size"),K03L.ZfM,37),((O "_law_apart"),K02L.ZeD,38),((O "_law_alike"),K03L.ZeE,39),((O "_law_shown_right"),K03L.Za8,40),((O "law"),K03L.Zih,41)]
noncomputable def tb:List (Str×Fd):=dl.map fun p=>(p.1,p.2.1)
noncomputable def mo1:List Ml:=[((O "take_word"),(O "Reader.take_word"),K03L.ZaR,24,1),((O "take_name"),(O "Reader.take_name"),K03L.ZaS,24,2),((O "take_expression"),(O "Reader.take_expression"),K03L.Z4,24,3),((O "take_end"),(O "Reader.take_end"),K03L.Za9,24,4)]
noncomputable def ms:List (Str×Fd):=[(mnm (O "Reader") (O "__init__"),K03L.ZM)]++mo1.map (fun p=>(mnm (O "Reader") p.1,p.2.2.1))
noncomputable def pg:Pg:=⟨tb,fun x=>cG.lookup x,fun x=>cD.lookup x,1000000,ms⟩
noncomputable def kl:Kl:=⟨[(O "Reader")],[(O "at"),(O "words")],mo1.map (fun p=>((O "Reader"),p.1)),[(O "Reader")],[],[]⟩
noncomputable abbrev Zih:Fd:=K03L.Zih
noncomputable def top(i:Nat):Stmt:=PySem.Challenge.pw_samestride_k03_read_and_shown.main.body.getD i (.Pass ⟨0,0,0,0⟩)
noncomputable def mt(i j:Nat):Stmt:=inClass (top i) j
noncomputable def fs:List Str:=tb.map (·.1)
local macro_rules|`(tactic| wtm_at "al")=>`(tactic| repeat' first|exact trivial|refine' And.intro ?_ ?_)
local macro_rules|`(tactic| wtm_at "chk")=>`(tactic| exact ⟨by constructor<;>decide +kernel,fun _ _ _ _ _ _ us hl=>by
   first
   | (have e:=Zsi (show us.length=0 from hl);subst e;rfl)
   | (obtain ⟨a0,e⟩:=Zsh (show us.length=1 from hl);subst e;rfl)
   | (obtain ⟨a0,a1,e⟩:=Zsg (show us.length=2 from hl);subst e;rfl)
   | (obtain ⟨a0,a1,a2,e⟩:=Zue (show us.length=3 from hl);subst e;rfl)
   | (obtain ⟨a0,a1,a2,a3,e⟩:=us_4 (show us.length=4 from hl);subst e;rfl)
   | (obtain ⟨a0,a1,a2,a3,a4,e⟩:=us_5 (show us.length=5 from hl);subst e;rfl)
   | (obtain ⟨a0,a1,a2,a3,a4,a5,e⟩:=us_6 (show us.length=6 from hl);subst e;rfl)
   | (obtain ⟨a0,a1,a2,a3,a4,a5,a6,e⟩:=us_7 (show us.length=7 from hl);subst e;rfl),by decide +kernel⟩)
theorem kd:All (fun p:Str×Fd×Nat=>Chk kl fs p.1 p.1 p.2.1 (top p.2.2)) dl:=by
 wtm_at "al"
 all_goals wtm_at "chk"
theorem km1:All (fun p:Ml=>Chk kl fs p.1 p.2.1 p.2.2.1 (mt p.2.2.2.1 p.2.2.2.2)) mo1:=by
 wtm_at "al"
 all_goals wtm_at "chk"
theorem kk1:All (fun p:Ml=>pg.look (mnm (O "Reader") p.1)=some p.2.2.1) mo1:=by
 wtm_at "al"
 all_goals kernel_rfl
theorem ki1:Chk kl fs (O "__init__") (O "Reader.__init__") K03L.ZM (mt 24 0):=by wtm_at "chk"
end K03
end
section
namespace K03
open PySem L2 IV
theorem Zrn:pg.tb.lookup (O "law")=some Zih:=by kernel_rfl
theorem tre:Gn.Tre pg:=by
 constructor
 all_goals (first|kernel_rfl|decide)
theorem fre:Fr.Fre pg:=by
 constructor;exact tre
 all_goals kernel_rfl
theorem mak:K02L.Mak pg:=⟨by kernel_rfl,by kernel_rfl,⟨Zan.ps,Zan.N,rfl,rfl,by kernel_rfl⟩,by kernel_rfl,by kernel_rfl⟩
theorem lw:K03L.Lw pg:=by
 constructor
 case f=>exact fre
 case m=>exact mak
 all_goals kernel_rfl
theorem runs:∀ ns:List Int,ns.length<=63->∃ h',run pg (250+1) (O "law") [.ro (ns.map .int)] []=.ok (.bl true) h':=fun ns hl=>K03L.ZsG lw ns hl
end K03
end
section
set_option maxHeartbeats 4000000
namespace K03
open PySem L2 IV PyProof.Rows
theorem tp2 {K:PySem.W.Frag} (h:K.lookup a=some ⟨.type "tuple",od,.seq #[.int x t,.int y u] n,sl⟩):RD ⟨K,mg⟩ H B (.tup [.int x,.int y]) (.ref a):=.tup (ZpM (vs:=[.int x,.int y]) h (by show 2<=sizeLine;decide) (.cons Zbn (.cons Zbn .nil))) (.cons (.int _) (.cons (.int _) .nil))
theorem md{Pr:Program}{w:World}{K:PySem.W.Frag}{h:Heap}{mg:Str->Option Value}(X:K.In h)(G:h.Ns mainGlobals mg)
   (tb0:Zfl K=true)
   (dd:All (fun p:Str×Fd×Nat=>Zr6 K p.1 (top p.2.2)) dl)
   (y1a:PySem.W.nsIn K mainGlobals (O "Reader")=some (some (.ref ca1))) (y1b:Cls K ca1)
   (n1:All (fun f=>PySem.W.findIn K (.ref ca1) f=some none) kl.ats)
   (y1m:PySem.W.makesIn K ca1=true) (y1k:PySem.W.keepIn K (.ref ca1)=true)
   (i1:Znu K ca1 (O "__init__") (O "Reader.__init__") (mt 24 0))
   (u1:All (fun p:Ml=>Znu K ca1 p.1 p.2.1 (mt p.2.2.2.1 p.2.2.2.2)) mo1)
   (zz:All (fun x:Str=>PySem.W.nsIn K mainGlobals x=some none) Zku)
   (h105:K.lookup q101=some ⟨.type "tuple",r102,.seq #[.str (O "fn") t106,.str (O "rec") t107,.str (O "call") t108,.str (O "if") t109] n103,v104⟩)
   (g110:PySem.W.nsIn K mainGlobals (O "KEPT_WORDS")=some (some (.ref q101)))
   (g112:PySem.W.nsIn K mainGlobals (O "LETTERS")=some (some (.str (O "abcdefghijklmnopqrstuvwxyz") t111)))
   (g114:PySem.W.nsIn K mainGlobals (O "FIGURES")=some (some (.str (O "0123456789") t113)))
   (g116:PySem.W.nsIn K mainGlobals (O "MOST_LETTERS")=some (some (.int 8 t115)))
   (g118:PySem.W.nsIn K mainGlobals (O "MOST_FIGURES")=some (some (.int 6 t117)))
   (g120:PySem.W.nsIn K mainGlobals (O "MOST_PLACES")=some (some (.int 100 t119)))
   (g122:PySem.W.nsIn K mainGlobals (O "MOST_DEEP")=some (some (.int 20 t121)))
   (h134:K.lookup q130=some ⟨.type "tuple",r131,.seq #[.int 1 t135,.int 1 t136] n132,v133⟩)
   (h143:K.lookup q139=some ⟨.type "tuple",r140,.seq #[.int 2 t144,.int 1 t145] n141,v142⟩)
   (h152:K.lookup q148=some ⟨.type "tuple",r149,.seq #[.int 0 t153,.int 2 t154] n150,v151⟩)
   (h161:K.lookup q157=some ⟨.type "tuple",r158,.seq #[.int 0 t162,.int 3 t163] n159,v160⟩)
   (h170:K.lookup q166=some ⟨.type "tuple",r167,.seq #[.int 0 t171,.int 2 t172] n168,v169⟩)
   (h179:K.lookup q175=some ⟨.type "tuple",r176,.seq #[.int 0 t180,.int 2 t181] n177,v178⟩)
   (h188:K.lookup q184=some ⟨.type "tuple",r185,.seq #[.int 0 t189,.int 2 t190] n186,v187⟩)
   (h197:K.lookup q193=some ⟨.type "tuple",r194,.seq #[.int 0 t198,.int 2 t199] n195,v196⟩)
   (g125:PySem.W.nsIn K mainGlobals (O "FORMS")=some (some (.ref q123)))
   (h126:K.lookup q123=some ⟨.type "dict",none,.dict #[⟨j128,.str (O "fn") t129,.ref q130⟩,⟨j137,.str (O "rec") t138,.ref q139⟩,⟨j146,.str (O "call") t147,.ref q148⟩,⟨j155,.str (O "if") t156,.ref q157⟩,⟨j164,.str (O "+") t165,.ref q166⟩,⟨j173,.str (O "-") t174,.ref q175⟩,⟨j182,.str (O "*") t183,.ref q184⟩,⟨j191,.str (O "<") t192,.ref q193⟩] e124,#[]⟩)
   (x200:j128=hashStr w (O "fn"))
   (x201:j137=hashStr w (O "rec"))
   (x202:j146=hashStr w (O "call"))
   (x203:j155=hashStr w (O "if"))
   (x204:j164=hashStr w (O "+"))
   (x205:j173=hashStr w (O "-"))
   (x206:j182=hashStr w (O "*"))
   (x207:j191=hashStr w (O "<"))
   (w127:(q123==sysModules)=false):Md Pr w K mg pg kl:=by
 have D_FORMS:∃ a kvs',mg (O "FORMS")=some (.ref a)/\DkK Pr w K a kvs'/\∀ H B,RKs ⟨K,mg⟩ H B (cD.lookup (O "FORMS") |>.getD []) kvs':=by
   refine ⟨q123,[(Sum.inr (O "fn"),(.ref q130)),(Sum.inr (O "rec"),(.ref q139)),(Sum.inr (O "call"),(.ref q148)),(Sum.inr (O "if"),(.ref q157)),(Sum.inr (O "+"),(.ref q166)),(Sum.inr (O "-"),(.ref q175)),(Sum.inr (O "*"),(.ref q184)),(Sum.inr (O "<"),(.ref q193))],PySem.W.mg_of X G g125,⟨_,_,_,[(Sum.inr (O "fn"),.ref q130),(Sum.inr (O "rec"),.ref q139),(Sum.inr (O "call"),.ref q148),(Sum.inr (O "if"),.ref q157),(Sum.inr (O "+"),.ref q166),(Sum.inr (O "-"),.ref q175),(Sum.inr (O "*"),.ref q184),(Sum.inr (O "<"),.ref q193)],h126,⟨rfl,rfl,rfl⟩,rfl,?_,(.cons (Zr _ t129) rfl (.cons (Zr _ t138) rfl (.cons (Zr _ t147) rfl (.cons (Zr _ t156) rfl (.cons (Zr _ t165) rfl (.cons (Zr _ t174) rfl (.cons (Zr _ t183) rfl (.cons (Zr _ t192) rfl .nil)))))))),(by show ([Sum.inr (O "fn"),Sum.inr (O "rec"),Sum.inr (O "call"),Sum.inr (O "if"),Sum.inr (O "+"),Sum.inr (O "-"),Sum.inr (O "*"),Sum.inr (O "<")]:List Key).Nodup;decide +kernel),(.cons ⟨rfl,Zac⟩ (.cons ⟨rfl,Zac⟩ (.cons ⟨rfl,Zac⟩ (.cons ⟨rfl,Zac⟩ (.cons ⟨rfl,Zac⟩ (.cons ⟨rfl,Zac⟩ (.cons ⟨rfl,Zac⟩ (.cons ⟨rfl,Zac⟩ .nil)))))))),(by show 8<=sizeLine;decide),w127⟩,fun _ _=>(.cons (tp2 h134) (.cons (tp2 h143) (.cons (tp2 h152) (.cons (tp2 h161) (.cons (tp2 h170) (.cons (tp2 h179) (.cons (tp2 h188) (.cons (tp2 h197) .nil))))))))⟩;exact (by
       intro e he;simp only [List.mem_toArray,O2,List.not_mem_nil,or_false] at he;rcases he with rfl|rfl|rfl|rfl|rfl|rfl|rfl|rfl
       . exact ⟨Sum.inr (O "fn"),Zr (O "fn") t129,x200⟩
       . exact ⟨Sum.inr (O "rec"),Zr (O "rec") t138,x201⟩
       . exact ⟨Sum.inr (O "call"),Zr (O "call") t147,x202⟩
       . exact ⟨Sum.inr (O "if"),Zr (O "if") t156,x203⟩
       . exact ⟨Sum.inr (O "+"),Zr (O "+") t165,x204⟩
       . exact ⟨Sum.inr (O "-"),Zr (O "-") t174,x205⟩
       . exact ⟨Sum.inr (O "*"),Zr (O "*") t183,x206⟩
       . exact ⟨Sum.inr (O "<"),Zr (O "<") t192,x207⟩
     )
 refine ⟨tb0,fun x kvs hx=>?_,fun x d hx=>?_,?_,fun x fd hx=>?_,?_,?_,?_,?_,?_⟩
 . have hm:(x,kvs)∈cD:=lookup_mem hx;have e:(x,kvs)=((O "FORMS"),(cD.lookup (O "FORMS") |>.getD [])):=by
     simp only [cD,O2,List.not_mem_nil,or_false] at hm;exact hm
   cases e;exact D_FORMS
 . have hm:(x,d)∈cG:=lookup_mem hx;have all:All (fun p:Str×D=>∃ v u,mg p.1=some u/\RelV v u/\∀ H B,RD ⟨K,mg⟩ H B p.2 v) cG:=⟨⟨(.ref q101),_,PySem.W.mg_of X G g110,Zac,fun _ _=>(.tup (ZpM (vs:=[(.str (O "fn")),(.str (O "rec")),(.str (O "call")),(.str (O "if"))]) h105 (by show 4<=sizeLine;decide) (.cons Zbm (.cons Zbm (.cons Zbm (.cons Zbm .nil))))) (.cons (.str _ (by decide +kernel)) (.cons (.str _ (by decide +kernel)) (.cons (.str _ (by decide +kernel)) (.cons (.str _ (by decide +kernel)) .nil)))))⟩,⟨(.str (O "abcdefghijklmnopqrstuvwxyz")),_,PySem.W.mg_of X G g112,Zbm,fun _ _=>(.str _ (by decide +kernel))⟩,⟨(.str (O "0123456789")),_,PySem.W.mg_of X G g114,Zbm,fun _ _=>(.str _ (by decide +kernel))⟩,⟨(.int 8),_,PySem.W.mg_of X G g116,Zbn,fun _ _=>(.int _)⟩,⟨(.int 6),_,PySem.W.mg_of X G g118,Zbn,fun _ _=>(.int _)⟩,⟨(.int 100),_,PySem.W.mg_of X G g120,Zbn,fun _ _=>(.int _)⟩,⟨(.int 20),_,PySem.W.mg_of X G g122,Zbn,fun _ _=>(.int _)⟩,⟨.ref q123,_,PySem.W.mg_of X G g125,rfl,fun _ _=>.kd (PySem.W.mg_of X G g125)⟩,trivial⟩;exact all.mem _ hm
 . exact (ZhW X G zz).mem
 . exact (Zkm X G dd kd).mem _ (lookup_mem hx)
 . have all:All (fun C=>∃ a,mg C=some (.ref a)/\Cls K a/\∀ f∈kl.ats,Zai K a f) kl.cs:=⟨⟨ca1,PySem.W.mg_of X G y1a,y1b,n1.mem⟩,trivial⟩
   exact all.mem
 . exact (show All _ kl.ms from (Zj3 X G y1a y1b u1 km1 kk1)).mem
 . have all:All (fun C:Str=>∃ a f fdd fd st q,mg C=some (.ref a)/\Mk K a f/\pg.look (mnm C (O "__init__"))=some fd/\BodyOk K kl (pg.tb.map (·.1)) (O "__init__") q fd st f fdd) kl.is:=⟨Zrd X G y1a y1m y1k i1 ki1 (by kernel_rfl),trivial⟩
   exact all.mem
 . have all:All (fun C:Str=>∃ a,mg C=some (.ref a)/\XOk K a) kl.xs:=trivial;exact all.mem
 . have all:All (fun p:Str×Str=>∃ a b,mg p.1=some (.ref a)/\mg p.2=some (.ref b)/\XAs K a b) kl.xa:=trivial;exact all.mem
end K03
end
section
set_option maxHeartbeats 4000000
open PySem PySem.W PyProof.Rows
local macro_rules|`(tactic| wtm_at "al")=>`(tactic| repeat' first|exact trivial|refine' And.intro ?_ ?_)
local macro_rules|`(tactic| wtm_at "dg")=>`(tactic| (refine' ⟨_,_,?na,L2.ZmQ ?l ?c ?k⟩;(case na=>k_is);(case l=>k_is);(case c=>k_is);(case k=>k_is)))
local macro_rules|`(tactic| wtm_at "mg")=>`(tactic| (refine' ⟨_,_,?na,?f,?k,L2.ZmQ ?l ?c ?kk⟩;(case na=>k_is);(case f=>k_is);(case l=>k_is);(case c=>k_is);(case k=>k_is);(case kk=>k_is)))
set_option maxRecDepth 100000 in
set_option maxHeartbeats 0 in
theorem PySem.Challenge.cw_samestride_k03_read_and_shown_holds : PySem.Challenge.rw_samestride_k03_read_and_shown.Holds := by
 refine K03hd ?_
 k_fill
 refine IV.Zsd (l:=PySem.Challenge.rw_samestride_k03_read_and_shown) (P:=K03.pg) 250 rfl rfl rfl ⟨rfl,by decide,by decide,rfl⟩ (kl:=K03.kl) (fun w h Y=>PySem.W.kIn_of Y) K03.Zrn rfl K03.runs ?MM0
 case MM0 =>
   intro w mg h KX G;refine' K03.md KX G ?tb0 ?dd ?y1a ?y1b ?n1 ?y1m ?y1k ?i1 ?u1 ?zz ?h105 ?g110 ?g112 ?g114 ?g116 ?g118 ?g120 ?g122 ?h134 ?h143 ?h152 ?h161 ?h170 ?h179 ?h188 ?h197 ?g125 ?h126 ?x200 ?x201 ?x202 ?x203 ?x204 ?x205 ?x206 ?x207 ?w127
   (case tb0=>(first|k_is|kernel_rfl|decide +kernel))
   (case y1a=>k_is)
   (case y1b=>(refine ⟨?_,?_,?_,?_⟩<;>k_is))
   (case n1=>(wtm_at "al";all_goals (dsimp only;k_is)))
   (case y1m=>k_is)
   (case y1k=>k_is)
   (case i1=>wtm_at "mg")
   (case u1=>(wtm_at "al";all_goals wtm_at "mg"))
   (case dd=>(wtm_at "al";all_goals wtm_at "dg"))
   (case zz=>(wtm_at "al";all_goals (dsimp only;k_is)))
   (case g110=>k_is)
   (case h105=>k_is)
   (case g112=>k_is)
   (case g114=>k_is)
   (case g116=>k_is)
   (case g118=>k_is)
   (case g120=>k_is)
   (case g122=>k_is)
   (case g125=>k_is)
   (case h126=>k_is)
   (case h134=>k_is)
   (case h143=>k_is)
   (case h152=>k_is)
   (case h161=>k_is)
   (case h170=>k_is)
   (case h179=>k_is)
   (case h188=>k_is)
   (case h197=>k_is)
   (case x200=>(first|rfl|k_is|fail))
   (case x201=>(first|rfl|k_is|fail))
   (case x202=>(first|rfl|k_is|fail))
   (case x203=>(first|rfl|k_is|fail))
   (case x204=>(first|rfl|k_is|fail))
   (case x205=>(first|rfl|k_is|fail))
   (case x206=>(first|rfl|k_is|fail))
   (case x207=>(first|rfl|k_is|fail))
   (case w127=>rfl)
end
