import PyProof.Rows.All
import Wide.All
import OpenK.AllK
import Wide.FinOn
import PyProof.EqAt
import PyProof.EqKinds
import PyProof.TupleCall
import Lean
import PySem.Challenge.RW_samestride_k15_other_names
set_option Elab.async false
set_option linter.all false
set_option maxRecDepth 100000
open PySem.Str renaming ofString->O
open Bool renaming and_eq_true->Oa
open List renaming getElem?_eq_some_iff->Ob
open List renaming getElem?_set_ne->Oc
open PySem.Heap renaming get?_push_of_some->Od
open List renaming getElem?_append_left->Oe
open List renaming size_toArray->Of
open List renaming getElem?_eq_getElem->Og
open List renaming mem_cons_of_mem->Oh
open List renaming mem_cons_self->Oi
open PySem.Heap renaming get?_push_size->Oj
open List renaming mem_of_getElem?->O1
open List renaming getElem?_set_self->Ol
open List renaming getElem?_append_right->Om
open List renaming getElem?_map->On
open Option renaming map_eq_some_iff->Oo
open List renaming map_cons->Op
open Nat renaming le_refl->Oq
open List renaming mem_cons->O2
open List renaming length_cons->Os
open Nat renaming lt_of_lt_of_le->Ot
open Nat renaming ne_of_lt->Ou
open List renaming mem_append_right->Ov
open Bool renaming false_ne_true->Ow
open List renaming mem_singleton->Ox
open List renaming map_nil->Oy
open List renaming append_assoc->Oz
open List renaming length_append->OA
open List renaming nil_append->OB
open List renaming all_eq_true->OC
open List renaming mem_append->OD
open Nat renaming le_trans->OE
open List renaming lookup_cons->OF
open Bool renaming false_eq_true->OG
open Nat renaming lt_succ_self->OH
open List renaming sum_cons->OI
open List renaming getElem?_cons_zero->OJ
open List renaming getElem?_cons_succ->O0
set_option genSizeOf false
section
open PySem PySem.W PyProof.Rows
set_option maxHeartbeats 0
namespace PySem.W.Fast
def tw8158706141715757222:=Nat
def tw11235934677681411751:=Nat
def tw6691548480951952571:=Nat
def tw11212552973855534598:=Nat
def tw16782849887244954626:=Nat
def tw12540831370301942934:=Nat
def tw14521834693842860547:=Nat
def tw15769642808043531503:=Nat
def tw10057805977791850564:=Nat
def tw12334166081567192184:=Nat
def tw17603103574204874993:=Nat
def tw3884348713407925423:=Nat
def tw15640928726147368452:=Nat
def tw3411586513207975375:=Nat
def tw3248493295373274425:=Nat
def tw12270747650804816128:=Nat
def tw792729123353671498:=Nat
def tw11709322964061859392:=Nat
def tw1882259908241034929:=Nat
def tw941944656282806857:=Nat
def tw10507701044886119484:=Nat
def tw14228326764964156736:=Nat
def tw8719811740941366633:=Nat
def tw11327067369597074060:=Nat
def tw645234975696517183:=Nat
def tw10582509712574354230:=Nat
def tw4769215366857777320:=Nat
def tw13106166859576426025:=Nat
def tw15414069786022191161:=Nat
def tw5300524848348869414:=Nat
def tw15557653020854392814:=Nat
def tw11212152969883084763:=Nat
def tw10003924023658676305:=Nat
def tw13973455734787877714:=Nat
def tw7784949307855368235:=Nat
def tw15160182627514594931:=Nat
def tw6912387193670069882:=Nat
def tw2995449896562698150:=Nat
def tw13966225795152634272:=Nat
def tw7951678559112127686:=Nat
def tw15343401003767936785:=Nat
def tw8155036840912647858:=Nat
def tw9140407517276170594:=Nat
def tw9973894713704584545:=Nat
def tw2693207366204876931:=Nat
def tw4093594952978632230:=Nat
def tw827831750405433880:=Nat
def tw11882850666953510739:=Nat
def tw13198771593341219898:=Nat
def tw15545610764287016708:=Nat
def tw5925540146362570258:=Nat
def tw9547798597585895579:=Nat
def tw1202160304664384581:=Nat
def tw18167371663042208829:=Nat
def tw17569275222989937901:=Nat
def tw2603580401754190540:=Nat
def tw9603262285590833528:=Nat
def tw557423131784438130:=Nat
def tw10257764774887983207:=Nat
def tw14471569029969455438:=Nat
def tw10283066321608458763:=Nat
def tw3899083511786532554:=Nat
def tw14949343216640653790:=Nat
def tw16310101754131136774:=Nat
def tw6806624815350929055:=Nat
def tw17315713256179316412:=Nat
def tw5735728455550132786:=Nat
def tw3371248387263798851:=Nat
def tw4623332316930021835:=Nat
def tw14490590380041340077:=Nat
def tw13141865588119221521:=Nat
def tw8904922599585992464:=Nat
def tw6072106808019804174:=Nat
def tw2692593743848034309:=Nat
def tw4272829543942434205:=Nat
def tw11456098360176048864:=Nat
def tw11336040896252381036:=Nat
def tw3818590778243263111:=Nat
def tw3046951224375209851:=Nat
def tw17939597205616931095:=Nat
def tw8605869002359759782:=Nat
def tw1357995447808274853:=Nat
def tw11411279886342098243:=Nat
def tw15434359691257511542:=Nat
def tw7750770895986188359:=Nat
def tw8747749073229190754:=Nat
def tw13999516529240857627:=Nat
def tw6336176024241403322:=Nat
def tw5089792867580066835:=Nat
def tw15767673238421024071:=Nat
def tw7923605632176339546:=Nat
def tw8111275877435907755:=Nat
def tw5529883542169161439:=Nat
def tw14508086612377836431:=Nat
def tw7974533317811032358:=Nat
def tw10326739267726741195:=Nat
def tw5356371001750660674:=Nat
def tw16401474620803100624:=Nat
def tw4976842694324906098:=Nat
def tw3479966716657684813:=Nat
def tw17750421148105127995:=Nat
def tw4193380286227938418:=Nat
def tw52491618239563046:=Nat
def tw2976128345504645912:=Nat
def tw6298778554540810750:=Nat
def tw10479458228056416863:=Nat
def tw11411129329846968841:=Nat
def tw17718883310532321700:=Nat
def tw6104166702755191259:=Nat
def tw11338592230406908417:=Nat
def tw16205942821526074378:=Nat
def tw2076417471444268966:=Nat
def tw7198026634738709783:=Nat
def tw10433717945234452556:=Nat
def tw9817144440143051751:=Nat
def tw2682360934519132116:=Nat
def tw5317012614518234892:=Nat
def tw3646720031089018618:=Nat
def tw12790889500111962053:=Nat
def tw1735887691857630862:=Nat
def tw10000372143445340086:=Nat
def tw14915578170522494819:=Nat
def tw8602413167043643108:=Nat
def tw17885410184344640614:=Nat
def tw4458287433438844006:=Nat
def tw2683859650509319676:=Nat
def tw1932980064169014458:=Nat
def tw11236891681725907610:=Nat
def tw16944153565410736689:=Nat
def tw14783655489390279132:=Nat
def tw10735934086856704958:=Nat
def tw13796061955943951727:=Nat
def tw15640989741977603068:=Nat
def tw1611224284235685525:=Nat
def tw2762109961025510845:=Nat
def tw11705736291966950793:=Nat
def tw2648854944797872106:=Nat
def tw13689927358165654096:=Nat
def tw1735836041997018032:=Nat
def tw9966531227841892272:=Nat
def tw5289275941507989113:=Nat
end PySem.W.Fast
open_top K15hd for PySem.Challenge.rw_samestride_k15_other_names
end
section
namespace L2
open PySem PySem.Spec PyProof.Rows
noncomputable abbrev Key:=Sum Int Str
noncomputable def ZeI:Key->Value->Bool
 | .inl k,v=>Value.isInt k v
 | .inr x,v=>Value.isStrOf x v
noncomputable def Zuq(w:World):Key->Int
 | .inl k=>hashInt k
 | .inr x=>hashStr w x
theorem ZE:∀ {k:Key}{v:Value},ZeI k v=true->(∃ i t,k=Sum.inl i/\v=Value.int i t)\/(∃ x t,k=Sum.inr x/\v=Value.str x t)
 | .inl i,v,h=>by
   obtain ⟨t,e⟩:=Value.isInt_shape (k:=i) (v:=v) h;exact .inl ⟨i,t,rfl,e⟩
 | .inr x,v,h=>by
   obtain ⟨t,e⟩:=Value.isStrOf_shape (x:=x) (v:=v) h;exact .inr ⟨x,t,rfl,e⟩
theorem Zkw(i:Int)(t:Tok):ZeI (.inl i) (.int i t)=true:=by simp [ZeI,Value.isInt]
theorem Zr(x:Str)(t:Tok):ZeI (.inr x) (.str x t)=true:=by simp [ZeI,Value.isStrOf]
theorem ZqQ(a b:Int):decide ((Sum.inl a:Key)=Sum.inl b)=(a==b):=by
 by_cases e:a=b
 . subst e;simp
 . have h:¬ (Sum.inl a:Key)=Sum.inl b:=fun q=>e (Sum.inl.inj q);rw [decide_eq_false h];exact (beq_eq_false_iff_ne.mpr e).symm
theorem ZqN(a b:Str):decide ((Sum.inr a:Key)=Sum.inr b)=decide (a=b):=by
 by_cases e:a=b
 . subst e;simp
 . have h:¬ (Sum.inr a:Key)=Sum.inr b:=fun q=>e (Sum.inr.inj q);rw [decide_eq_false h,decide_eq_false e]
theorem ZqP(a:Int)(b:Str):decide ((Sum.inl a:Key)=Sum.inr b)=false:=decide_eq_false (fun q=>nomatch q)
theorem ZqO(a:Str)(b:Int):decide ((Sum.inr a:Key)=Sum.inl b)=false:=decide_eq_false (fun q=>nomatch q)
noncomputable def ZD(prog:Program)(w:World):PySem.KeyKind prog w Key where
 is:=ZeI
 hash:=Zuq w
 inj:=fun v a b ha hb=>by
   rcases ZE ha with ⟨i,t,rfl,rfl⟩|⟨x,t,rfl,rfl⟩
   . rcases ZE hb with ⟨j,u,rfl,e⟩|⟨y,u,rfl,e⟩
     . injection e with e1 _;rw [e1]
     . exact nomatch e
   . rcases ZE hb with ⟨j,u,rfl,e⟩|⟨y,u,rfl,e⟩
     . exact nomatch e
     . injection e with e1 _;rw [e1]
 byValue:=fun k v h=>by
   rcases ZE h with ⟨i,t,rfl,rfl⟩|⟨x,t,rfl,rfl⟩<;>rfl
 pyHash:=fun hv h=>by
   rcases ZE hv with ⟨i,t,rfl,rfl⟩|⟨x,t,rfl,rfl⟩
   . exact wpAny_pyHash_int h
   . exact wpAny_pyHash_str h
 eqBool:=fun hu hv h=>by
   rcases ZE hu with ⟨i,t,rfl,rfl⟩|⟨x,t,rfl,rfl⟩
   . rcases ZE hv with ⟨j,u,rfl,rfl⟩|⟨y,u,rfl,rfl⟩
     . rw [ZqQ] at h;exact wpAny_eqBool_int h
     . rw [ZqP] at h;exact SeqAt.EqAt.int_str i t y u _ _ _ _ h
   . rcases ZE hv with ⟨j,u,rfl,rfl⟩|⟨y,u,rfl,rfl⟩
     . rw [ZqO] at h;exact SeqAt.EqAt.str_int x t j u _ _ _ _ h
     . rw [ZqN] at h;exact wpAny_eqBool_str h
 «strs»:=fun k x t v h=>by
   rcases ZE h with ⟨i,u,rfl,e⟩|⟨y,u,rfl,e⟩
   . exact nomatch e
   . injection e with e1 _;subst e1;cases v<;>rfl
theorem ZgZ(prog:Program)(w:World)(i:Int)(t:Tok):(ZD prog w).is (.inl i) (.int i t)=true:=Zkw i t
theorem ZgY(prog:Program)(w:World)(x:Str)(t:Tok):(ZD prog w).is (.inr x) (.str x t)=true:=Zr x t
end L2
namespace L2
open PySem PySem.Spec PyProof.Rows
inductive V where
 | non|bl (b:Bool)|int (i:Int)|str (x:Str)|byt (b:Array UInt8)|flt (b:UInt64)|ref (a:Addr)|ty (n:String)
 deriving DecidableEq
noncomputable def RelV:V->Value->Prop
 | .non,u=>u=Value.none
 | .bl b,u=>u=Value.bool b
 | .int i,u=>∃ t,u=Value.int i t
 | .str x,u=>∃ t,u=Value.str x t
 | .byt b,u=>∃ t,u=Value.bytes b t
 | .flt b,u=>∃ t,u=Value.float b t
 | .ref a,u=>u=Value.ref a
 | .ty n,u=>u=Value.type n
noncomputable abbrev Zj:List V->List Value->Prop:=Paired RelV
theorem Zj.length(r:Zj xs us):xs.length=us.length:=Paired.length r
theorem Zj.get:∀ {xs:List V}{us:List Value}{i:Nat}{x:V},Zj xs us->xs[i]? = some x->∃ u,us[i]? = some u/\RelV x u
 | _,_,_,_,.nil,e=>by simp at e
 | _,_,0,_,.cons r _,e=>by simp at e;subst e;exact ⟨_,rfl,r⟩
 | _,_,i+1,x,.cons _ t,e=>by
   obtain ⟨u,h1,h2⟩:=Zj.get (i:=i) (x:=x) t (by simpa using e);exact ⟨u,by simpa using h1,h2⟩
theorem Zj.set(r:RelV x u):∀ {xs:List V}{us:List Value} (i:Nat),Zj xs us->Zj (xs.set i x) (us.set i u)
 | _,_,_,.nil=>.nil
 | _,_,0,.cons _ t=>.cons r t
 | _,_,i+1,.cons q t=>.cons q (Zj.set r i t)
theorem Zj.append:∀ {xs ys:List V}{us ws:List Value},Zj xs us->Zj ys ws->Zj (xs++ys) (us++ws)
 | _,_,_,_,.nil,s=>s
 | _,_,_,_,.cons r t,s=>.cons r (Zj.append t s)
theorem Zj.take:∀ {xs:List V}{us:List Value} (n:Nat),Zj xs us->Zj (xs.take n) (us.take n)
 | _,_,0,_=>.nil
 | _,_,_+1,.nil=>.nil
 | _,_,n+1,.cons r t=>.cons r (Zj.take n t)
theorem Zj.drop:∀ {xs:List V}{us:List Value} (n:Nat),Zj xs us->Zj (xs.drop n) (us.drop n)
 | _,_,0,r=>r
 | _,_,_+1,.nil=>.nil
 | _,_,n+1,.cons _ t=>Zj.drop n t
noncomputable def ZdD:Option V->Option Value->Prop
 | some v,some u=>RelV v u
 | none,none=>True
 | _,_=>False
noncomputable def KV:List (κ×V)->List (κ×Value)->Prop:=Paired fun (p:κ×V) (q:κ×Value)=>p.1=q.1/\RelV p.2 q.2
noncomputable def kV:Key->V
 | .inl i=>.int i
 | .inr x=>.str x
inductive HO where
 | lst (xs:List V)
 | tup (xs:List V)
 | dK (kvs:List (Key×V))|dT (kvs:List (List Key×V))
 | set (S_:Int->Bool) (n:Nat)
 | ins (C dx:Addr) (fs:List (Str×V))
 | own (x:Addr)
 | xd (fs:List (Str×V))
 | met (f x:Addr)
 | rng (lo hi:Int)
 | frz (o:Obj) (u:HO)
 | tbl (ps:Array Value)
 | ext (φ:Heap->Prop)
noncomputable abbrev Hp:=Addr->Option HO
noncomputable def upd(H:Hp)(a:Addr)(o:HO):Hp:=fun b=>if b=a then some o else H b
theorem Zg:upd H a o a=some o:=by unfold upd;rw [if_pos rfl]
theorem Zh(h:b≠a):upd H a o b=H b:=by unfold upd;rw [if_neg h]
theorem ZJ{H:Hp}(h:H a=some o)(h':H b=none):a≠b:=by
 intro e;subst e;rw [h] at h';cases h'
section
variable (P:Program) (w:World)
noncomputable def Zau (h:Heap) (a:Addr) (items:Array Value):Prop:=∃ o,h.get? a=some o/\o.cls=.type "tuple" /\ o.dict=none/\∃ n,o.data=.seq items n
theorem Zau.tup(x:Zau h a items):IsTup h a items:=let ⟨o,ho,hc,_,r⟩:=x;⟨o,ho,hc,r⟩
theorem Zau.fresh (h:Heap) (items:Array Value):Zau (h.push {cls:=.type "tuple",data:=.seq items}) h.objs.size items:=⟨_,Oj _ rfl,rfl,rfl,_,rfl⟩
noncomputable def Z4(H:Hp)(h:Heap)(a:Addr):HO->Prop
 | .lst xs=>xs.length<=sizeLine/\∃ (its:List Value) (n:Nat),Zj xs its/\h.get? a=some {cls:=.type "list",data:=.seq its.toArray n}
 | .tup xs=>xs.length<=sizeLine/\∃ its:List Value,Zj xs its/\Zau h a its.toArray
 | .dK kvs=>kvs.length<=sizeLine/\(a==sysModules)=false/\∃ vs,KV kvs vs/\h.DictOf (ZD P w) a vs
 | .dT kvs=>kvs.length<=sizeLine/\(a==sysModules)=false/\∃ xs:List (List Key×Addr×Value),
     Paired (fun (p:List Key×V) (q:List Key×Addr×Value)=>p.1=q.1/\H q.2.1=some (.tup (p.1.map kV))/\RelV p.2 q.2.2) kvs xs /\
     ∃ o es ep,h.get? a=some o/\o.ExactDict/\o.data=.dict es ep/\es.toList=xs.map (entryOfKey (tupleKind (ZD P w)))/\(xs.map (·.1)).Nodup
 | .set S_ n=>h.SetOf (intKind P w) a S_ n
 | .ins C dx fs=>H dx=some (.own a)/\fs.length<=1000/\dx≠a/\h.get? a=some (PySem.W.instObj C dx) /\
     ∃ mA,h.Ns1 dx mA/\(∀ f,ZdD (fs.lookup f) (mA f))/\PySem.Within mA (fs.map (·.1))
 | .own _=>∃ o,h.get? a=some o
 | .xd fs=>∃ mA,h.Ns1 a mA/\∀ f,ZdD (fs.lookup f) (mA f)
 | .rng lo hi=>∃ t u v,h.get? a=some {cls:=.type "range",data:=.fields #[.int lo t,.int hi u,.int 1 v]}
 | .frz o u=>h.get? a=some o/\Z4 H h a u
 | .tbl ps=>h.get? a=some {cls:=.none,data:=.fields ps}
 | .met f x=>h.get? a=some (PySem.W.methodObj (.ref f) (.ref x))
 | .ext φ=>φ h/\(∃ o,h.get? a=some o)/\∀ h1 h2:Heap,φ h1->(∀ o,h1.get? a=some o->h2.get? a=some o)->φ h2
noncomputable def HOk(H:Hp)(h:Heap):Prop:=∀ a o,H a=some o->Z4 P w H h a o
end
section
variable {P:Program}{w:World}{H H':Hp}{h h':Heap}{a:Addr}{o:HO}
theorem Z4.lt(x:Z4 P w H h a o):a<h.objs.size:=by
 cases o with
 | lst xs=>obtain ⟨_,_,_,_,e⟩:=x;exact Heap.lt_size e
 | tup xs=>obtain ⟨_,_,_,p⟩:=x;exact p.tup.lt
 | dK kvs=>obtain ⟨_,_,_,_,o,_,_,e,_⟩:=x;exact Heap.lt_size e
 | dT kvs=>obtain ⟨_,_,_,_,o,_,_,e,_⟩:=x;exact Heap.lt_size e
 | set S_ n=>obtain ⟨o,_,_,_,e,_⟩:=x;exact Heap.lt_size e
 | ins C dx fs=>obtain ⟨_,_,_,e,_⟩:=x;exact Heap.lt_size e
 | own y=>obtain ⟨_,e⟩:=x;exact Heap.lt_size e
 | xd fs=>obtain ⟨_,⟨_,_,_,e,_⟩,_⟩:=x;exact Heap.lt_size e
 | rng lo hi=>obtain ⟨_,_,_,e⟩:=x;exact Heap.lt_size e
 | frz ob u=>obtain ⟨e,_⟩:=x;exact Heap.lt_size e
 | tbl ps=>exact Heap.lt_size (show h.get? a=some _ from x)
 | met f y=>exact Heap.lt_size (show h.get? a=some _ from x)
 | ext φ=>obtain ⟨_,⟨_,e⟩,_⟩:=x;exact Heap.lt_size e
theorem Paired.mapP:∀ {l₁:List α}{l₂:List β},Paired F l₁ l₂->(∀ a b,F a b->G a b)->Paired G l₁ l₂
 | _,_,.nil,_=>.nil
 | _,_,.cons r t,f=>.cons (f _ _ r) (Paired.mapP t f)
theorem Z4.stay(x:Z4 P w H h a o)(k:∀ b u,(b=a\/H b=some (.own a))->h.get? b=some u->h'.get? b=some u)
   (ho:∀ b,H b=some (.own a)->H' b=some (.own a)) (ht:∀ b xs,H b=some (.tup xs)->H' b=some (.tup xs)):Z4 P w H' h' a o:=by
 induction o with
 | lst xs=>obtain ⟨z,its,n,r,e⟩:=x;exact ⟨z,its,n,r,k _ _ (.inl rfl) e⟩
 | tup xs=>obtain ⟨z,its,r,ob,e,c⟩:=x;exact ⟨z,its,r,ob,k _ _ (.inl rfl) e,c⟩
 | dK kvs=>obtain ⟨z,y,vs,r,ob,es,ep,e,c⟩:=x;exact ⟨z,y,vs,r,ob,es,ep,k _ _ (.inl rfl) e,c⟩
 | dT kvs =>
   obtain ⟨z,y,xs,r,ob,es,ep,e,c⟩:=x;exact ⟨z,y,xs,Paired.mapP r fun p q z=>⟨z.1,ht _ _ z.2.1,z.2.2⟩,ob,es,ep,k _ _ (.inl rfl) e,c⟩
 | set S_ n=>obtain ⟨ob,es,ep,t,e,c⟩:=x;exact ⟨ob,es,ep,t,k _ _ (.inl rfl) e,c⟩
 | ins C dx fs =>
   obtain ⟨d,z,ne,e,mA,⟨od,es,ep,e2,c⟩,r⟩:=x;exact ⟨ho _ d,z,ne,k _ _ (.inl rfl) e,mA,⟨od,es,ep,k _ _ (.inr d) e2,c⟩,r⟩
 | own y=>obtain ⟨ob,e⟩:=x;exact ⟨ob,k _ _ (.inl rfl) e⟩
 | xd fs=>obtain ⟨mA,⟨od,es,ep,e,c⟩,r⟩:=x;exact ⟨mA,⟨od,es,ep,k _ _ (.inl rfl) e,c⟩,r⟩
 | rng lo hi=>obtain ⟨t,u,v,e⟩:=x;exact ⟨t,u,v,k _ _ (.inl rfl) e⟩
 | frz ob u ih=>obtain ⟨e,q⟩:=x;exact ⟨k _ _ (.inl rfl) e,ih q⟩
 | tbl ps =>
   have e:h.get? a=some {cls:=.none,data:=.fields ps}:=x;show h'.get? a=some {cls:=.none,data:=.fields ps};exact k a _ (.inl rfl) e
 | met f y =>
   have e:h.get? a=some (PySem.W.methodObj (.ref f) (.ref y)):=x;show h'.get? a=some (PySem.W.methodObj (.ref f) (.ref y));exact k a _ (.inl rfl) e
 | ext φ=>obtain ⟨p,⟨o,e⟩,st⟩:=x;exact ⟨st _ _ p fun o q=>k _ _ (.inl rfl) q,⟨o,k _ _ (.inl rfl) e⟩,st⟩
theorem HOk.lt(x:HOk P w H h)(e:H a=some o):a<h.objs.size:=(x a o e).lt
theorem HOk.fresh(x:HOk P w H h)(e:h.objs.size<=a):H a=none:=by
 cases q:H a with
 | none=>rfl
 | some u=>exact absurd (Ot (x.lt q) e) (Nat.lt_irrefl _)
theorem HOk.kept(x:HOk P w H h)(k:∀ b u,h.get? b=some u->h'.get? b=some u):HOk P w H h':=fun a o e =>
 (x a o e).stay (fun b u _ q=>k b u q) (fun _ q=>q) fun _ _ q=>q
theorem HOk.laid(x:HOk P w H h)(k:∀ b u,h.get? b=some u->h'.get? b=some u)(hp:h.objs.size<=a)(new:Z4 P w (upd H a o) h' a o):HOk P w (upd H a o) h':=fun b u e=>by
 have hn:=x.fresh hp;by_cases hb:b=a
 . subst hb;rw [Zg] at e;cases e;exact new
 . rw [Zh hb] at e;exact (x b u e).stay (fun c v _ q=>k c v q) (fun c q=>by rw [Zh (ZJ q hn)];exact q) fun c xs q=>by rw [Zh (ZJ q hn)];exact q
end
noncomputable def Rd(H:Hp)(a:Addr)(u:HO):Prop:=H a=some u\/∃ o,H a=some (.frz o u)
theorem Rd.ok{P:Program}{w:World}{H:Hp}{h:Heap}{a:Addr}{u:HO}(r:Rd H a u)(x:HOk P w H h):Z4 P w H h a u:=by
 rcases r with r|⟨o,r⟩
 . exact x a u r
 . obtain ⟨_,q⟩:=x a _ r;exact q
noncomputable def Mut:Option HO->Prop
 | some (.lst _)=>True
 | some (.dK _)=>True
 | some (.dT _)=>True
 | some (.set _ _)=>True
 | some (.ins _ _ _)=>True
 | some (.ext _)=>True
 | _=>False
section
variable {P:Program}{w:World}{H:Hp}{h h':Heap}{x e:Addr}{o':HO}
theorem HOk.write(ok:HOk P w H h)(mu:Mut (H x))(he:e=x\/H e=some (.own x))(k:∀ b u,b≠e->h.get? b=some u->h'.get? b=some u)(heo:∃ u,h'.get? e=some u)
   (new:Z4 P w (upd H x o') h' x o'):HOk P w (upd H x o') h':=fun b u q=>by
 have nown:∀ c y,H c=some (.own y)->c≠x:=fun c y r z=>by subst z;rw [r] at mu;exact mu
 have ntup:∀ c xs,H c=some (.tup xs)->c≠x:=fun c xs r z=>by subst z;rw [r] at mu;exact mu
 by_cases hb:b=x
 . subst hb;rw [Zg] at q;cases q;exact new
 . rw [Zh hb] at q;by_cases hbe:b=e
   . have q':H b=some (.own x):=by
       rcases he with z|z
       . exact absurd (hbe.trans z) hb
       . rw [hbe];exact z
     rw [q] at q';cases q';obtain ⟨v,hv⟩:=heo;exact ⟨v,by rw [hbe];exact hv⟩
   . refine (ok b u q).stay (fun c v hc r=>k c v ?_ r) (fun c r=>by rw [Zh (nown c b r)];exact r) fun c xs r=>by rw [Zh (ntup c xs r)];exact r
     rcases hc with rfl|hc
     . exact hbe
     . rintro rfl;rcases he with z|z
       . exact nown c b hc z
       . rw [hc] at z;cases z;exact hb rfl
end
structure Un(fs ex:List Addr)(H H':Hp)(h h':Heap):Prop where
 keep:∀ b o,h.get? b=some o->H b=none->b ∉ fs->b ∉ ex->h'.get? b=some o
 slot:∀ b o,h.get? b=some o->H b=none->b∈fs->b ∉ ex->∃ sl,h'.get? b=some {o with slots:=sl}
 free:∀ b o,h.get? b=some o->H b=none->b ∉ ex->H' b=none
 there:∀ b o,h.get? b=some o->b ∉ ex->∃ o',h'.get? b=some o'
 tups:∀ b xs,H b=some (.tup xs)->H' b=some (.tup xs)
 frzs:∀ b o u,H b=some (.frz o u)->H' b=some (.frz o u)
 tbls:∀ b ps,H b=some (.tbl ps)->∃ more,H' b=some (.tbl (ps++more))
section
variable {fs fs' ex ex':List Addr}{H H1 H2:Hp}{h h1 h2 h':Heap}{a x e:Addr}{o:HO}
theorem Un.any(u:Un fs ex H H1 h h1)(q:h.get? b=some ob)(n:H b=none)(hx:b ∉ ex):∃ sl,h1.get? b=some {ob with slots:=sl}:=by
 by_cases hb:b∈fs
 . exact u.slot b ob q n hb hx
 . exact ⟨ob.slots,u.keep b ob q n hb hx⟩
theorem Un.trans(a:Un fs ex H H1 h h1)(b:Un fs ex H1 H2 h1 h2):Un fs ex H H2 h h2 where
 keep:=fun c ob q n hc hx=>b.keep c ob (a.keep c ob q n hc hx) (a.free c ob q n hx) hc hx
 slot:=fun c ob q n hc hx=>by
   obtain ⟨sl,e1⟩:=a.slot c ob q n hc hx;obtain ⟨sl',e2⟩:=b.slot c _ e1 (a.free c ob q n hx) hc hx;exact ⟨sl',e2⟩
 free:=fun c ob q n hx=>by
   obtain ⟨o',e1⟩:=a.there c ob q hx;exact b.free c o' e1 (a.free c ob q n hx) hx
 there:=fun c ob q hx=>by
   obtain ⟨o',e1⟩:=a.there c ob q hx;exact b.there c o' e1 hx
 tups:=fun c xs q=>b.tups c xs (a.tups c xs q)
 frzs:=fun c ob xs q=>b.frzs c ob xs (a.frzs c ob xs q)
 tbls:=fun c ps q=>by
   obtain ⟨m1,e1⟩:=a.tbls c ps q;obtain ⟨m2,e2⟩:=b.tbls c _ e1;exact ⟨m1++m2,by rw [e2,Array.append_assoc]⟩
theorem Un.kept(k:∀ b u,h.get? b=some u->h'.get? b=some u):Un fs ex H H h h' :=
 ⟨fun b ob q _ _ _=>k b ob q,fun b ob q _ _ _=>⟨ob.slots,k b ob q⟩,fun _ _ _ n _=>n,fun b ob q _=>⟨ob,k b ob q⟩,fun _ _ q=>q,fun _ _ _ q=>q,fun _ ps q=>⟨#[],by rw [q];simp⟩⟩
theorem Un.refl:Un fs ex H H h h:=Un.kept fun _ _ q=>q
theorem Un.laid(k:∀ b u,h.get? b=some u->h'.get? b=some u)(hp:h.objs.size<=a)(hn:H a=none):Un fs ex H (upd H a o) h h' where
 keep:=fun b u q _ _ _=>k b u q
 slot:=fun b u q _ _ _=>⟨u.slots,k b u q⟩
 free:=fun b u q n _=>by rw [Zh (Ou (Ot (Heap.lt_size q) hp))];exact n
 there:=fun b u q _=>⟨u,k b u q⟩
 tups:=fun b xs q=>by rw [Zh (ZJ q hn)];exact q
 frzs:=fun b u xs q=>by rw [Zh (ZJ q hn)];exact q
 tbls:=fun b ps q=>⟨#[],by rw [Zh (ZJ q hn),q];simp⟩
theorem Un.write(mu:Mut (H x))(he:e=x\/H e=some (.own x))(k:∀ b u,b≠e->h.get? b=some u->h'.get? b=some u)(heo:∃ u,h'.get? e=some u):Un fs ex H (upd H x o) h h':=by
 have hx:∀ b,H b=none->b≠x:=fun b n z=>by subst z;rw [n] at mu;exact mu
 have hb:∀ b,H b=none->b≠e:=fun b n z=>by
   subst z;rcases he with r|r
   . exact hx b n r
   . rw [n] at r;cases r
 have hm:∀ b u,H b=some u->¬ Mut (some u)->b≠x:=fun b u q nm z=>by subst z;rw [q] at mu;exact nm mu
 refine ⟨fun b u q n _ _=>k b u (hb b n) q,fun b u q n _ _=>⟨u.slots,k b u (hb b n) q⟩,fun b u q n _=>by rw [Zh (hx b n)];exact n,fun b u q _=>?_,
   fun b xs q=>by rw [Zh (hm b _ q fun z=>z)];exact q,fun b u xs q=>by rw [Zh (hm b _ q fun z=>z)];exact q,fun b ps q=>⟨#[],by rw [Zh (hm b _ q fun z=>z),q];simp⟩⟩
 by_cases hbe:b=e
 . subst hbe;exact heo
 . exact ⟨u,k b u hbe q⟩
end
noncomputable def trk(h:Heap)(H:Hp):List Addr:=(List.range h.objs.size).filter fun a=>(H a).isSome
noncomputable def Zgg(h:Heap)(H:Hp):Heap:=PySem.W.hideAll h (trk h H)
theorem Zky(h:Heap)(H:Hp):(Zgg h H).objs.size=h.objs.size:=PySem.W.hideAll_size _ _
theorem Zma(e:h.get? b=some o)(n:H b=none):(Zgg h H).get? b=some o :=
 PySem.W.hideAll_get _ e fun hm=>by
   have q:(H b).isSome=true:=(List.mem_filter.mp hm).2;rw [n] at q;simp at q
theorem Zn1(e:(Zgg h H).get? b=some o):h.get? b=some o/\H b=none:=by
 have e':h.get? b=some o:=PySem.W.of_hideAll (trk h H) e;refine ⟨e',?_⟩;cases q:H b with
 | none=>rfl
 | some x =>
   have hm:b∈trk h H:=List.mem_filter.mpr ⟨List.mem_range.mpr (Heap.lt_size e'),by simp [q]⟩;have z:(Zgg h H).get? b=none:=PySem.W.hideAll_none (trk h H) hm;rw [z] at e;cases e
end L2
namespace L2
open PySem PySem.Spec PyProof.Rows
structure Mod(K:PySem.W.Frag)(mg:Str->Option Value)(base:Heap):Prop where
 kin:K.In base
 glob:base.Ns mainGlobals mg
 blt:∃ mb,base.Ns builtinsNs mb/\∀ x:Str,x ≠ "__name__" -> mb x=bootBuiltins x
 nolimit:base.NoLimit
structure Cx where
 prog:Program
 w:World
 K:PySem.W.Frag
 mg:Str->Option Value
 base:Heap
 A:Around
 N:List Str
 s₀:Shared
 H₀:Hp
 env:Env
 outer:List Env
 stack:List Env
 ex:List Addr
 fn:Str->Bool
 calm:Bool
 pn:List (Addr×Obj)
 xe:Value->Shared->Prop
noncomputable def frs(l:List Env):List Addr:=l.filterMap (·.frame)
noncomputable abbrev Cx.fs(X:Cx):List Addr:=frs X.outer
noncomputable def Vis(sc:Scope)(x:Str):Prop:=sc.names.lookup x=some .local\/sc.names.lookup x=some .cell\/sc.names.lookup x=some .free
noncomputable def Loc(sc:Scope)(x:Str):Prop:=sc.names.lookup x=some .local\/sc.names.lookup x=some .cell
noncomputable def Look(env:Env)(h:Heap)(m:Str->Option Value)(x:Str)(u:Value):Prop :=
 (env.kindOf x=some .local/\m x=some u)\/((env.kindOf x=some .cell\/env.kindOf x=some .free)/\∃ c,env.cells.lookup x=some c/\h.IsCell c (some u))
structure Cx.Ok(X:Cx):Prop where
 mod:Mod X.K X.mg X.base
 kind:X.env.scope.kind=.function
 glob:X.env.globals=mainGlobals
 blt:X.env.builtins=builtinsNs
 above:X.s₀.heap.objs.size<=X.env.locals
 inj:∀ x y c,X.env.cells.lookup x=some c->X.env.cells.lookup y=some c->x=y
 has:∀ x,(X.env.kindOf x=some .cell\/X.env.kindOf x=some .free)->∃ c,X.env.cells.lookup x=some c
 cab:∀ x c,X.fn x=true->X.env.cells.lookup x=some c->X.s₀.heap.objs.size<=c
 hd:X.calm=true->X.A.handled=none
 frames:X.A.frames=some X.stack
 stk:X.stack=X.outer\/(X.stack=X.env::X.outer/\X.env.frame=some X.env.locals)
 exf:∀ b∈X.ex,b≠X.env.locals/\∀ x c,X.env.cells.lookup x=some c->c≠b
 bs:∀ b o,X.base.get? b=some o->X.s₀.heap.get? b=some o/\X.H₀ b=none
 bsz:X.base.objs.size<=X.s₀.heap.objs.size
 noex:∀ b o,X.base.get? b=some o->b ∉ X.ex
 exfs:∀ b∈X.ex,b ∉ X.fs
 funs:X.s₀.heap.FunFrames X.base X.outer
 frf:∀ b∈X.fs,X.H₀ b=none
structure Inv(X:Cx)(pins:List (Addr×Obj))(Z:List (Option V))(H:Hp)(s:Shared):Prop where
 ok:X.Ok
 os:s.os=X.s₀.os
 bare:AllBare s.gens
 base:Un X.fs X.ex X.H₀ H X.s₀.heap s.heap
 loc:∃ m,s.heap.Ns X.env.locals m/\∀ (i:Nat) (x:Str) (v:V),X.N[i]? = some x->Z[i]? = some (some v)->Vis X.env.scope x->∃ u,RelV v u/\Look X.env s.heap m x u
 cell:∀ x c,X.env.cells.lookup x=some c->∃ v,s.heap.IsCell c v
 free:H X.env.locals=none
 freeC:∀ x c,X.env.cells.lookup x=some c->H c=none
 pin:∀ p∈X.pn++pins,s.heap.get? p.1=some p.2/\H p.1=none/\p.1≠X.env.locals/\p.1 ∉ X.fs/\∀ v,p.2.data≠.cell v
 hok:HOk X.prog X.w H s.heap
 len:Z.length=X.N.length
section
variable {X:Cx}{pins:List (Addr×Obj)}{Z:List (Option V)}{H H':Hp}{s:Shared}{h':Heap}
theorem Cx.Ok.nofr(ok:X.Ok)(e:X.base.get? b=some o):b ∉ X.fs:=fun hb=>by
 have:=(ok.funs.mem hb).1;rw [e] at this;cases this
theorem Inv.bs(I:Inv X pins Z H s):∀ b o,X.base.get? b=some o->s.heap.get? b=some o/\H b=none:=fun b o e =>
 ⟨I.base.keep b o (I.ok.bs b o e).1 (I.ok.bs b o e).2 (I.ok.nofr e) (I.ok.noex b o e),I.base.free b o (I.ok.bs b o e).1 (I.ok.bs b o e).2 (I.ok.noex b o e)⟩
theorem Inv.bk(I:Inv X pins Z H s):∀ b o,X.base.get? b=some o->s.heap.get? b=some o:=fun b o e=>(I.bs b o e).1
theorem Inv.mod(I:Inv X pins Z H s):Mod X.K X.mg X.base:=I.ok.mod
theorem Inv.kIn(I:Inv X pins Z H s):X.K.In s.heap:=I.ok.mod.kin.keeps I.bk
theorem Inv.lt(I:Inv X pins Z H s):X.env.locals<s.heap.objs.size:=let ⟨_,hn,_⟩:=I.loc;hn.lt
theorem Inv.sz(I:Inv X pins Z H s):X.s₀.heap.objs.size<=s.heap.objs.size:=OE I.ok.above (Nat.le_of_lt I.lt)
theorem Inv.nofs(I:Inv X pins Z H s)(h:s.heap.objs.size<=a):a ∉ X.fs:=fun hb=>by
 obtain ⟨_,o,ho,_⟩:=I.ok.funs.mem hb;exact absurd (Ot (Heap.lt_size ho) (OE I.sz h)) (Nat.lt_irrefl _)
theorem Inv.cne(I:Inv X pins Z H s):∀ x c,X.env.cells.lookup x=some c->c≠X.env.locals:=fun x c e z=>by
 obtain ⟨v,o,ho,hd⟩:=I.cell x c e;obtain ⟨m,⟨o',es,ep,ho',hd',_⟩,_⟩:=I.loc;rw [z,ho'] at ho;cases ho;rw [hd'] at hd;cases hd
theorem Inv.funs(I:Inv X pins Z H s):s.heap.FunFrames X.base X.outer:=by
 have all:∀ (l:List Env),(∀ b∈frs l,b∈X.fs)->X.s₀.heap.FunFrames X.base l->s.heap.FunFrames X.base l:=by
   intro l;induction l with
   | nil=>intro _ _;trivial
   | cons env r ih =>
     intro hs hl;obtain ⟨hk,⟨L,o,hf,hn,ho,hd⟩,hr⟩:=hl;have hL:L∈X.fs:=hs L (by unfold frs;rw [List.filterMap_cons,hf];exact Oi);obtain ⟨sl,e⟩:=I.base.slot L o ho (I.ok.frf L hL) hL fun z=>I.ok.exfs L z hL;exact ⟨hk,⟨L,_,hf,hn,e,hd⟩,ih (fun b hb=>hs b (by unfold frs;rw [List.filterMap_cons,hf];exact Oh _ hb)) hr⟩
 exact all X.outer (fun _ hb=>hb) I.ok.funs
theorem Inv.stack(I:Inv X pins Z H s):s.heap.FunFrames X.base X.stack:=by
 rcases I.ok.stk with e|⟨e,hf⟩
 . rw [e];exact I.funs
 . rw [e];obtain ⟨m,hn,_⟩:=I.loc;refine .cons (by rw [I.ok.kind];decide) hf hn ?_ I.funs;exact Heap.get?_none_of_le (OE I.ok.bsz I.ok.above)
theorem Inv.stkSub(I:Inv X pins Z H s):∀ b∈frs X.stack,b∈X.env.locals::X.fs:=fun b hb=>by
 rcases I.ok.stk with e|⟨e,hf⟩
 . rw [e] at hb;exact Oh _ hb
 . rw [e] at hb;unfold frs at hb;rw [List.filterMap_cons,hf] at hb;exact hb
theorem Inv.stkFree(I:Inv X pins Z H s):∀ b∈frs X.stack,H b=none:=fun b hb=>by
 rcases O2.mp (I.stkSub b hb) with e|hb
 . rw [e];exact I.free
 . obtain ⟨_,o,ho,_⟩:=I.ok.funs.mem hb;exact I.base.free b o ho (I.ok.frf b hb) fun z=>I.ok.exfs b z hb
theorem Inv.step{g':Array GenState}{t':Nat}{d':Drawn}{ch:List Addr}(I:Inv X pins Z H s)
   (hch:∀ b∈ch,(b∈X.ex\/X.s₀.heap.objs.size<=b)/\b≠X.env.locals/\(∀ x c,X.env.cells.lookup x=some c->c≠b)/\∀ p∈X.pn++pins,p.1≠b)
   (keep:∀ b o,b≠X.env.locals->b ∉ X.fs->b ∉ ch->s.heap.get? b=some o->H b=none->h'.get? b=some o)
   (slot:∀ b o,b≠X.env.locals->b∈X.fs->b ∉ ch->s.heap.get? b=some o->H b=none->∃ sl,h'.get? b=some {o with slots:=sl}) (free:∀ b o,b ∉ ch->s.heap.get? b=some o->H b=none->H' b=none)
   (there:∀ b o,b ∉ ch->s.heap.get? b=some o->∃ o',h'.get? b=some o')
   (tups:∀ b xs,H b=some (.tup xs)->H' b=some (.tup xs)) (frzs:∀ b o u,H b=some (.frz o u)->H' b=some (.frz o u)) (tbls:∀ b ps,H b=some (.tbl ps)->∃ more,H' b=some (.tbl (ps++more)))
   (ns:∀ m,s.heap.Ns X.env.locals m->h'.Ns X.env.locals m) (hok:HOk X.prog X.w H' h') (hg:AllBare g') :
   Inv X pins Z H' {s with heap:=h',gens:=g',drawn:=d',toks:=t'}:=by
 have neL:∀ b o,X.s₀.heap.get? b=some o->b≠X.env.locals:=fun b o e=>Ou (Ot (Heap.lt_size e) I.ok.above);have neC:∀ b o,X.s₀.heap.get? b=some o->b ∉ X.ex->b ∉ ch:=fun b o e hx hb=>by
   rcases (hch b hb).1 with z|z
   . exact hx z
   . exact absurd (Ot (Heap.lt_size e) z) (Nat.lt_irrefl _)
 have cellK:∀ x c,X.env.cells.lookup x=some c->∀ v,s.heap.IsCell c v->h'.IsCell c v:=fun x c e v ⟨o,ho,hd⟩=>by
   have nch:c ∉ ch:=fun z=>(hch c z).2.2.1 x c e rfl;by_cases hc:c∈X.fs
   . obtain ⟨sl,q⟩:=slot c o (I.cne x c e) hc nch ho (I.freeC x c e);exact ⟨_,q,hd⟩
   . exact ⟨o,keep c o (I.cne x c e) hc nch ho (I.freeC x c e),hd⟩
 refine ⟨I.ok,I.os,hg,⟨fun b o e n hb hx=>?_,fun b o e n hb hx=>?_,fun b o e n hx=>?_,fun b o e hx=>?_,fun b xs e=>tups b xs (I.base.tups b xs e),fun b o xs e=>frzs b o xs (I.base.frzs b o xs e),fun b ps e=>?_⟩,?_,fun x c e=>?_,?_,fun x c e=>?_,fun p hp=>?_,hok,I.len⟩
 . exact keep b o (neL b o e) hb (neC b o e hx) (I.base.keep b o e n hb hx) (I.base.free b o e n hx)
 . obtain ⟨sl,e1⟩:=I.base.slot b o e n hb hx;obtain ⟨sl',e2⟩:=slot b _ (neL b o e) hb (neC b o e hx) e1 (I.base.free b o e n hx);exact ⟨sl',e2⟩
 . obtain ⟨o',e1⟩:=I.base.there b o e hx;exact free b o' (neC b o e hx) e1 (I.base.free b o e n hx)
 . obtain ⟨o',e1⟩:=I.base.there b o e hx;exact there b o' (neC b o e hx) e1
 . obtain ⟨m1,e1⟩:=I.base.tbls b ps e;obtain ⟨m2,e2⟩:=tbls b _ e1;exact ⟨m1++m2,by rw [e2,Array.append_assoc]⟩
 . obtain ⟨m,hn,hl⟩:=I.loc;refine ⟨m,ns m hn,fun i x v e1 e2 e3=>?_⟩;obtain ⟨u,r,l⟩:=hl i x v e1 e2 e3;refine ⟨u,r,?_⟩;rcases l with l|⟨k,c,e,z⟩
   . exact .inl l
   . exact .inr ⟨k,c,e,cellK x c e _ z⟩
 . obtain ⟨v,z⟩:=I.cell x c e;exact ⟨v,cellK x c e v z⟩
 . obtain ⟨m,⟨o,_,_,ho,_⟩,_⟩:=I.loc;exact free _ o (fun z=>(hch _ z).2.1 rfl) ho I.free
 . obtain ⟨v,o,ho,hd⟩:=I.cell x c e;exact free c o (fun z=>(hch c z).2.2.1 x c e rfl) ho (I.freeC x c e)
 . obtain ⟨e,n,ne,nf,d⟩:=I.pin p hp;have nch:p.1 ∉ ch:=fun z=>(hch p.1 z).2.2.2 p hp rfl;exact ⟨keep p.1 p.2 ne nf nch e n,free p.1 p.2 nch e n,ne,nf,d⟩
theorem Inv.un{t':Nat}(I:Inv X pins Z H s)(u:Un X.fs [] H H' s.heap h')(hok:HOk X.prog X.w H' h'):Inv X pins Z H' {s with heap:=h',toks:=t'}:=by
 obtain ⟨m,⟨o,es,ep,ho,r⟩,_⟩:=id I.loc;obtain ⟨sl,hL⟩:=u.any ho I.free (by simp);exact I.step (g':=s.gens) (d':=s.drawn) (ch:=[]) (fun _ z=>nomatch z) (fun b o _ hb _ e n=>u.keep b o e n hb (by simp)) (fun b o _ hb _ e n=>u.slot b o e n hb (by simp)) (fun b o _ e n=>u.free b o e n (by simp)) (fun b o _ e=>u.there b o e (by simp)) u.tups u.frzs u.tbls (fun m' hm=>by
   obtain ⟨o',es',ep',ho',r'⟩:=hm;rw [ho] at ho';cases ho';exact ⟨_,es',ep',hL,r'⟩) hok I.bare
theorem Inv.call{g':Array GenState}{t':Nat}{d':Drawn}{ch:List Addr}(I:Inv X pins Z H s)(u:Un (frs X.stack) ch H H' s.heap h')(hok:HOk X.prog X.w H' h')(hg:AllBare g')
   (hch:∀ b∈ch,(b∈X.ex\/X.s₀.heap.objs.size<=b)/\b≠X.env.locals/\(∀ x c,X.env.cells.lookup x=some c->c≠b)/\∀ p∈X.pn++pins,p.1≠b) :
   Inv X pins Z H' {s with heap:=h',gens:=g',drawn:=d',toks:=t'}:=by
 obtain ⟨m,⟨o,es,ep,ho,r⟩,_⟩:=id I.loc;obtain ⟨sl,hL⟩:=u.any ho I.free fun z=>(hch _ z).2.1 rfl;exact I.step (ch:=ch) hch (fun b o hL hb hc e n=>u.keep b o e n (fun z=>(O2.mp (I.stkSub b z)).elim hL hb) hc) (fun b o _ _ hc e n=>u.any e n hc) (fun b o hc e n=>u.free b o e n hc) (fun b o hc e=>u.there b o e hc) u.tups u.frzs u.tbls (fun m' hm=>by
   obtain ⟨o',es',ep',ho',r'⟩:=hm;rw [ho] at ho';cases ho';exact ⟨_,es',ep',hL,r'⟩) hok hg
theorem Inv.turned{t':Nat}{it:Addr}(I:Inv X pins Z H s)(k:∀ b o,b≠it->s.heap.get? b=some o->h'.get? b=some o)(hn:H it=none)(hL:it≠X.env.locals)
   (h1:it∈X.ex\/X.s₀.heap.objs.size<=it) (h2:∀ x c,X.env.cells.lookup x=some c->c≠it) (h3:∀ p∈X.pn++pins,p.1≠it):Inv X pins Z H {s with heap:=h',toks:=t'}:=by
 have nit:∀ b u,H b=some u->b≠it:=fun b u e z=>by rw [z,hn] at e;cases e
 refine I.step (g':=s.gens) (d':=s.drawn) (ch:=[it]) (fun b hb=>?_) (fun b o _ _ hc e _=>k b o (fun z=>hc (by simp [z])) e) (fun b o _ _ hc e _=>⟨o.slots,k b o (fun z=>hc (by simp [z])) e⟩) (fun _ _ _ _ n=>n)
   (fun b o hc e=>⟨o,k b o (fun z=>hc (by simp [z])) e⟩) (fun _ _ e=>e) (fun _ _ _ e=>e) (fun b ps e=>⟨#[],by rw [e];simp⟩) (fun m hm=>?_) (fun b u e=>?_) I.bare
 . have e:b=it:=by simpa using hb
   subst e;exact ⟨h1,hL,h2,h3⟩
 . obtain ⟨o,es,ep,ho,r⟩:=hm;exact ⟨o,es,ep,k _ o (Ne.symm hL) ho,r⟩
 . refine (I.hok b u e).stay (fun c v hc q=>k c v ?_ q) (fun _ q=>q) fun _ _ q=>q;rcases hc with z|z
   . rw [z];exact nit b u e
   . exact nit c _ z
theorem Inv.tok(I:Inv X pins Z H s)(t:Nat):Inv X pins Z H {s with toks:=t}:=I.un (h':=s.heap) (t':=t) Un.refl I.hok
theorem Inv.kept{t':Nat}(I:Inv X pins Z H s)(k:∀ b u,s.heap.get? b=some u->h'.get? b=some u):Inv X pins Z H {s with heap:=h',toks:=t'}:=I.un (Un.kept k) (I.hok.kept k)
theorem Inv.laid{a:Addr}{o:HO}{t':Nat}(I:Inv X pins Z H s)(k:∀ b u,s.heap.get? b=some u->h'.get? b=some u)(hp:s.heap.objs.size<=a)(new:Z4 X.prog X.w (upd H a o) h' a o) :
   Inv X pins Z (upd H a o) {s with heap:=h',toks:=t'}:=I.un (Un.laid k hp (I.hok.fresh hp)) (I.hok.laid k hp new)
theorem Inv.write(I:Inv X pins Z H s)(mu:Mut (H x))(he:e=x\/H e=some (.own x))(k:∀ b u,b≠e->s.heap.get? b=some u->h'.get? b=some u)(heo:∃ u,h'.get? e=some u)
   (new:Z4 X.prog X.w (upd H x o) h' x o):Inv X pins Z (upd H x o) {s with heap:=h',toks:=t'}:=I.un (Un.write mu he k heo) (I.hok.write mu he k heo new)
theorem Inv.weak(I:Inv X pins Z H s)(hl:σ'.length=Z.length)(w:∀ (i:Nat) v,σ'[i]? = some (some v)->Z[i]? = some (some v)):Inv X pins σ' H s :=
 ⟨I.ok,I.os,I.bare,I.base,let ⟨m,hn,hl'⟩:=I.loc;⟨m,hn,fun i x v e1 e2 e3=>hl' i x v e1 (w i v e2) e3⟩,I.cell,I.free,I.freeC,I.pin,I.hok,hl.trans I.len⟩
theorem Inv.pins_of(I:Inv X pins Z H s)(h:∀ p∈pins',s.heap.get? p.1=some p.2/\H p.1=none/\p.1≠X.env.locals/\p.1 ∉ X.fs/\∀ v,p.2.data≠.cell v):Inv X pins' Z H s :=
 ⟨I.ok,I.os,I.bare,I.base,I.loc,I.cell,I.free,I.freeC,fun p hp=>(OD.mp hp).elim (fun z=>I.pin p (List.mem_append_left _ z)) (h p),I.hok,I.len⟩
theorem ZgW{N:List Str}(hN:N.Nodup){i j:Nat}{x:Str}(a:N[i]? = some x)(b:N[j]? = some x):i=j:=by
 obtain ⟨h1,e1⟩:=Ob.mp a;obtain ⟨h2,e2⟩:=Ob.mp b;exact (List.getElem_inj hN).mp (e1.trans e2.symm)
theorem Zfu{M:Model}{A:Around}{Q:Unit->Shared->Prop}(I:Inv X pins Z H s)(hN:X.N.Nodup)(hi:X.N[i]? = some x)(hx:Loc X.env.scope x)(r:RelV v u)
   (h:∀ s',Inv X pins (Z.set i (some v)) H s'->(∃ a,Heap.SameBut a s.heap s'.heap/\(a=X.env.locals\/X.env.cells.lookup x=some a))->Q () s') (hf:X.fn x=true\/X.env.scope.names.lookup x=some .local:=by first|exact .inl rfl|exact .inr rfl|assumption):wpAny M A (storeName X.env x u) Q E s:=by
 obtain ⟨m,hn,hl⟩:=id I.loc;have hcls:(X.env.scope.kind==.class || (X.env.scope.kind==.module&&X.env.locals != X.env.globals))=false:=by rw [I.ok.kind];rfl
 have hiσ:i<Z.length:=by rw [I.len];exact (Ob.mp hi).1
 have cne:=I.cne;have tracked:∀ {a:Addr}{h':Heap},(∃ o,s.heap.get? a=some o/\H a=none)->Heap.SameBut a s.heap h'->HOk X.prog X.w H h':=fun {a h'} ha hs b ob e=>by
   obtain ⟨_,_,hfree⟩:=ha;refine (I.hok b ob e).stay (fun c w' hc q=>(hs.2 c ?_).trans q) (fun _ q=>q) fun _ _ q=>q;rintro rfl;rcases hc with rfl|hc
   . rw [hfree] at e;cases e
   . rw [hfree] at hc;cases hc
 rcases hx with hk|hk
 . refine wpAny_storeName_local hk hn (fun h' hn' hs=>?_) hcls;obtain ⟨oL,_,_,hoL,_⟩:=id hn;refine h _ ⟨I.ok,I.os,I.bare,⟨fun b o e n hb hx=>?_,fun b o e n hb hx=>?_,I.base.free,fun b o e hx=>?_,I.base.tups,I.base.frzs,I.base.tbls⟩,⟨_,hn',fun j y v' e1 e2 e3=>?_⟩,fun y c e=>?_,I.free,I.freeC,fun p hp=>?_,tracked ⟨oL,hoL,I.free⟩ hs,by simpa using I.len⟩ ⟨_,hs,.inl rfl⟩
   . exact (hs.2 b (Ou (Ot (Heap.lt_size e) I.ok.above))).trans (I.base.keep b o e n hb hx)
   . obtain ⟨sl,e1⟩:=I.base.slot b o e n hb hx;exact ⟨sl,(hs.2 b (Ou (Ot (Heap.lt_size e) I.ok.above))).trans e1⟩
   . obtain ⟨o',e1⟩:=I.base.there b o e hx;exact ⟨o',(hs.2 b (Ou (Ot (Heap.lt_size e) I.ok.above))).trans e1⟩
   . by_cases hj:j=i
     . subst hj;rw [hi] at e1;cases e1;rw [Ol hiσ] at e2;cases e2;exact ⟨u,r,.inl ⟨hk,by simp⟩⟩
     . rw [Oc (Ne.symm hj)] at e2;obtain ⟨u',r',q⟩:=hl j y v' e1 e2 e3;refine ⟨u',r',?_⟩;rcases q with ⟨k,e⟩|⟨k,c,e,z⟩
       . refine .inl ⟨k,?_⟩;have:y≠x:=fun e=>hj (ZgW hN e1 (e ▸ hi));simp [this,e]
       . exact .inr ⟨k,c,e,z.sameBut hs (cne y c e)⟩
   . obtain ⟨w',z⟩:=I.cell y c e;exact ⟨w',z.sameBut hs (cne y c e)⟩
   . obtain ⟨e,n,ne,nf,d⟩:=I.pin p hp;exact ⟨(hs.2 p.1 ne).trans e,n,ne,nf,d⟩
 . have hfn:X.fn x=true:=by
     rcases hf with z|z
     . exact z
     . rw [z] at hk;cases hk
   obtain ⟨c,hc⟩:=I.ok.has x (.inl hk);obtain ⟨w',z⟩:=I.cell x c hc;refine wpAny_storeName_cell I.ok.kind hk hc z (fun h' hc' hs=>?_);obtain ⟨oc,hoc,hocd⟩:=id z;refine h {s with heap:=h'} ⟨I.ok,I.os,I.bare,⟨fun b o e n hb hx=>?_,fun b o e n hb hx=>?_,I.base.free,fun b o e hx=>?_,I.base.tups,I.base.frzs,I.base.tbls⟩,⟨m,hn.sameBut hs (Ne.symm (cne x c hc)),fun j y v' e1 e2 e3=>?_⟩,fun y c' e=>?_,I.free,I.freeC,fun p hp=>?_,tracked ⟨oc,hoc,I.freeC x c hc⟩ hs,by simpa using I.len⟩ ⟨c,hs,.inr hc⟩
   . exact (hs.2 b (Ou (Ot (Heap.lt_size e) (I.ok.cab x c hfn hc)))).trans (I.base.keep b o e n hb hx)
   . obtain ⟨sl,e1⟩:=I.base.slot b o e n hb hx;exact ⟨sl,(hs.2 b (Ou (Ot (Heap.lt_size e) (I.ok.cab x c hfn hc)))).trans e1⟩
   . obtain ⟨o',e1⟩:=I.base.there b o e hx;exact ⟨o',(hs.2 b (Ou (Ot (Heap.lt_size e) (I.ok.cab x c hfn hc)))).trans e1⟩
   . by_cases hj:j=i
     . subst hj;rw [hi] at e1;cases e1;rw [Ol hiσ] at e2;cases e2;exact ⟨u,r,.inr ⟨.inl hk,c,hc,hc'⟩⟩
     . rw [Oc (Ne.symm hj)] at e2;obtain ⟨u',r',q⟩:=hl j y v' e1 e2 e3;refine ⟨u',r',?_⟩;rcases q with q|⟨k,c',e,z'⟩
       . exact .inl q
       . refine .inr ⟨k,c',e,z'.sameBut hs ?_⟩;rintro rfl;exact hj (ZgW hN e1 (I.ok.inj _ _ _ e hc ▸ hi))
   . by_cases hcc:c'=c
     . subst hcc;exact ⟨_,hc'⟩
     . obtain ⟨w2,z2⟩:=I.cell y c' e;exact ⟨w2,z2.sameBut hs hcc⟩
   . obtain ⟨e,n,ne,nf,d⟩:=I.pin p hp;refine ⟨(hs.2 p.1 ?_).trans e,n,ne,nf,d⟩;intro q;rw [q,hoc] at e;have q':oc=p.2:=Option.some.inj e;exact d w' (by rw [<- q'];exact hocd)
theorem Zer(I:Inv X pins Z H s)(hN:X.N.Nodup)(hi:X.N[i]? = some x)(hx:Loc X.env.scope x)(r:RelV v u)
   (h:∀ s',Inv X pins (Z.set i (some v)) H s'->Q () s') (hf:X.fn x=true\/X.env.scope.names.lookup x=some .local:=by first|exact .inl rfl|exact .inr rfl|assumption):wpAny M A (storeName X.env x u) Q E s :=
 Zfu I hN hi hx r (fun s' I' _=>h s' I') hf
theorem Inv.call'(I:Inv X pins Z H s)(ho:s'.os=s.os)(u:Un (frs X.stack) ch H H' s.heap s'.heap)(hok:HOk X.prog X.w H' s'.heap)(hg:AllBare s'.gens)
   (hch:∀ b∈ch,(b∈X.ex\/X.s₀.heap.objs.size<=b)/\b≠X.env.locals/\(∀ x c,X.env.cells.lookup x=some c->c≠b)/\∀ p∈X.pn++pins,p.1≠b):Inv X pins Z H' s':=by
 obtain ⟨h',g',d',t',o'⟩:=s';have e:o'=s.os:=ho;subst e;exact I.call (g':=g') (t':=t') (d':=d') u hok hg hch
end
noncomputable abbrev XK:=Value->Option Addr->Hp->Prop
noncomputable abbrev St:=List (Option V)
noncomputable abbrev VK:=V->Hp->Prop
noncomputable abbrev TE:=St->Hp->VK->Prop
noncomputable abbrev TT:=St->Hp->(Bool->Hp->Prop)->Prop
noncomputable abbrev TA:=St->Hp->(List V->Hp->Prop)->Prop
structure Ends where
 nx:St->Hp->Prop
 rt:VK
 bk:St->Hp->Prop:=fun _ _=>False
 ct:St->Hp->Prop:=fun _ _=>False
noncomputable abbrev TS:=Ends->St->Hp->Prop
noncomputable def EP(X:Cx)(pins:List (Addr×Obj))(Z:St)(Q:VK)(u:Value)(s':Shared):Prop:=∃ v H',Inv X pins Z H' s'/\RelV v u/\Q v H'
noncomputable def TP(X:Cx)(pins:List (Addr×Obj))(Z:St)(Q:Bool->Hp->Prop)(b:Bool)(s':Shared):Prop:=∃ H',Inv X pins Z H' s'/\Q b H'
noncomputable def AP(X:Cx)(pins:List (Addr×Obj))(Z:St)(Q:List V->Hp->Prop)(us:List Value)(s':Shared):Prop:=∃ vs H',Inv X pins Z H' s'/\Zj vs us/\Q vs H'
noncomputable def SP(X:Cx)(pins:List (Addr×Obj))(D:Ends)(f:Flow)(s':Shared):Prop :=
 match f with
 | .next=>∃ σ' H',Inv X pins σ' H' s'/\D.nx σ' H'
 | .brk=>∃ σ' H',Inv X pins σ' H' s'/\D.bk σ' H'
 | .cont=>∃ σ' H',Inv X pins σ' H' s'/\D.ct σ' H'
 | .ret u=>∃ v σ' H',Inv X pins σ' H' s'/\RelV v u/\D.rt v H'
noncomputable def PE(X:Cx)(e:Expr)(t:TE):Prop :=
 ∀ (pins:List (Addr×Obj)) (s:Shared) (Z:St) (H:Hp) (Q:VK),Inv X pins Z H s->t Z H Q->wpAny (model X.prog X.w) X.A (eval e X.env) (EP X pins Z Q) X.xe s
noncomputable def PT(X:Cx)(e:Expr)(t:TT):Prop :=
 ∀ (pins:List (Addr×Obj)) (s:Shared) (Z:St) (H:Hp) (Q:Bool->Hp->Prop),Inv X pins Z H s->t Z H Q->wpAny (model X.prog X.w) X.A (isTrue e X.env (eval e X.env)) (TP X pins Z Q) X.xe s
noncomputable def PW(X:Cx)(e:Expr)(t:TT):Prop :=
 ∀ (whole:Sem Value) (pins:List (Addr×Obj)) (s:Shared) (Z:St) (H:Hp) (Q:Bool->Hp->Prop),Inv X pins Z H s->t Z H Q->wpAny (model X.prog X.w) X.A (isTrue e X.env whole) (TP X pins Z Q) X.xe s
theorem PW.pt(h:PW X e t):PT X e t:=h _
noncomputable def PA(X:Cx)(es:List Expr)(t:TA):Prop :=
 ∀ (pos:Pos) (pins:List (Addr×Obj)) (s:Shared) (Z:St) (H:Hp) (Q:List V->Hp->Prop),Inv X pins Z H s->t Z H Q->wpAny (model X.prog X.w) X.A (spliced (backTo pos (starEach es X.env))) (AP X pins Z Q) X.xe s
noncomputable def PS(X:Cx)(st:Stmt)(t:TS):Prop :=
 ∀ (pins:List (Addr×Obj)) (s:Shared) (Z:St) (H:Hp) (D:Ends),Inv X pins Z H s->t D Z H->wpAny (model X.prog X.w) X.A (exec st X.env) (SP X pins D) X.xe s
noncomputable def PSs(X:Cx)(st:List Stmt)(t:TS):Prop :=
 ∀ (pins:List (Addr×Obj)) (s:Shared) (Z:St) (H:Hp) (D:Ends),Inv X pins Z H s->t D Z H->wpAny (model X.prog X.w) X.A (execs st X.env) (SP X pins D) X.xe s
theorem thn(h:wpAny M A t Q E s)(hQ:∀ a s,Q a s->Q' a s):wpAny M A t Q' E s:=wpAny_mono h hQ fun _ _ x=>x
end L2
namespace L2
open PySem PySem.Spec PyProof.Rows
section
variable {X:Cx}
noncomputable def ZtP(i:Nat):TE:=fun Z H Q=>∃ v,Z[i]? = some (some v)/\Q v H
noncomputable def tC(v:V):TE:=fun _ H Q=>Q v H
theorem Zqa (hN:X.N[i]? = some x) (hv:Vis X.env.scope x) (hd:(x==("__debug__" : Str))=false:=by decide) (hcd:(x==("__classdict__" : Str))=false:=by decide):PE X (.Name x pos) (ZtP i):=by
 intro pins s Z H Q I h;obtain ⟨v,e,h⟩:=h;obtain ⟨m,hn,hl⟩:=I.loc;obtain ⟨u,r,l⟩:=hl i x v hN e hv;have fin:EP X pins Z Q u s:=⟨v,H,I,r,h⟩
 rcases l with ⟨hk,hm⟩|⟨hk,c,hc,hcell⟩
 . exact wpAny_Name (wpAny_loadName_local I.ok.kind hk hn hm fin) hd
 . rcases hk with hk|hk
   . exact wpAny_Name (wpAny_loadName_cell I.ok.kind hk hc hcell fin) hd
   . exact wpAny_Name (wpAny_loadName_free I.ok.kind hk hc hcell fin hcd) hd
theorem Zly{i j pos}:PE X (.Constant (.int i) j pos) (tC (.int i)):=fun _ _ _ H _ I h=>wpAny_Constant_int ⟨.int i,H,I.tok _,⟨_,rfl⟩,h⟩
theorem Zsy{b j pos}:PE X (.Constant (.bool b) j pos) (tC (.bl b)):=fun _ _ _ H _ I h=>Constant_bool ⟨.bl b,H,I,rfl,h⟩
theorem Zqe{j pos}:PE X (.Constant .none j pos) (tC .non):=fun _ _ _ H _ I h=>Constant_none ⟨.non,H,I,rfl,h⟩
theorem Zqc{x j pos}:PE X (.Constant (.str x) j pos) (tC (.str x)):=fun _ _ _ H _ I h=>Calls.Constant_str ⟨.str x,H,I.tok _,⟨_,rfl⟩,h⟩
noncomputable def Gl(X:Cx)(x:Str):Prop:=X.env.kindOf x=some .globalImplicit
theorem Zei(I:Inv X pins Z H s)(hg:Gl X x)(hm:X.mg x=some u)(h:Q u s)
   (hd:(x==("__debug__" : Str))=false:=by decide):wpAny (model X.prog X.w) X.A (eval (.Name x pos) X.env) Q E s :=
 Calls.Name_function_global I.ok.kind hg (Calls.loadGlobal_global (by rw [I.ok.glob];exact I.mod.glob.keeps I.bk) hm h) hd
theorem ZbD(I:Inv X pins Z H s)(hg:Gl X x)(hm:X.mg x=none)(hv:bootBuiltins x=some u)(h:Q u s)
   (hn:x ≠ "__name__" := by decide) (hd:(x==("__debug__" : Str))=false:=by decide):wpAny (model X.prog X.w) X.A (eval (.Name x pos) X.env) Q E s:=by
 obtain ⟨mb,h1,h2⟩:=I.mod.blt;exact Calls.Name_function_global I.ok.kind hg (Calls.loadGlobal_builtin (by rw [I.ok.glob];exact I.mod.glob.keeps I.bk) hm (by rw [I.ok.blt];exact h1.keeps I.bk) ((h2 x hn).trans hv) h) hd
theorem ZnG (hg:Gl X x) (hm:X.mg x=some u) (r:RelV v u) (hd:(x==("__debug__" : Str))=false:=by decide):PE X (.Name x pos) (tC v) :=
 fun _ _ _ H _ I h=>Zei I hg hm ⟨v,H,I,r,h⟩ hd
theorem ZnL (hg:Gl X x) (hm:X.mg x=none) (hv:bootBuiltins x=some u) (r:RelV v u) (hn:x ≠ "__name__" := by decide) (hd:(x==("__debug__" : Str))=false:=by decide):PE X (.Name x pos) (tC v) :=
 fun _ _ _ H _ I h=>ZbD I hg hm hv ⟨v,H,I,r,h⟩ hn hd
variable {a b:Expr}{ta tb:TE}{pos:Pos}
variable {tA tB':TT}{rest:List Expr}
noncomputable def Zt3(t u:TT):TT:=fun Z H Q=>t Z H fun c H1=>if c=true then u Z H1 Q else Q false H1
noncomputable def tOr(t u:TT):TT:=fun Z H Q=>t Z H fun c H1=>if c=true then Q true H1 else u Z H1 Q
noncomputable def ZtU(t:TT):TT:=fun Z H Q=>t Z H fun c H1=>Q (!c) H1
theorem Znp(ha:PT X a tA):PW X (.BoolOp .And [a] pos) tA:=by
 intro wh pins s Z H Q I h;refine isTrue_and (thn (ha pins s Z H Q I h) fun c s1 e=>?_);cases c with
 | true=>exact isTrue_and_nil e
 | false=>exact e
theorem ZpX(ha:PT X a tA):PW X (.BoolOp .Or [a] pos) tA:=by
 intro wh pins s Z H Q I h;refine isTrue_or (thn (ha pins s Z H Q I h) fun c s1 e=>?_);cases c with
 | false=>exact isTrue_or_nil e
 | true=>exact e
theorem ZpY(ha:PT X a tA)(hb:PW X (.BoolOp .And (b::rest) pos) tB'):PW X (.BoolOp .And (a::b::rest) pos) (Zt3 tA tB'):=by
 intro wh pins s Z H Q I h;refine isTrue_and (thn (ha pins s Z H _ I h) fun c s1 ⟨H1,I1,q1⟩=>?_);cases c with
 | true=>exact hb wh pins s1 Z H1 Q I1 q1
 | false=>exact ⟨H1,I1,q1⟩
theorem Zsn(ha:PT X a tA)(hb:PW X (.BoolOp .Or (b::rest) pos) tB'):PW X (.BoolOp .Or (a::b::rest) pos) (tOr tA tB'):=by
 intro wh pins s Z H Q I h;refine isTrue_or (thn (ha pins s Z H _ I h) fun c s1 ⟨H1,I1,q1⟩=>?_);cases c with
 | true=>exact ⟨H1,I1,q1⟩
 | false=>exact hb wh pins s1 Z H1 Q I1 q1
theorem Zp0(ha:PT X a tA):PT X (.UnaryOp .Not a pos) (ZtU tA):=by
 intro pins s Z H Q I h;exact isTrue_not (ha pins s Z H (fun c H1=>Q (!c) H1) I h)
noncomputable def Zr5(ta tb:TE):TE:=fun Z H Q=>ta Z H fun x H1=>∃ c,x=.bl c/\if c=true then tb Z H1 Q else Q (.bl false) H1
noncomputable def ZtT(ta tb:TE):TE:=fun Z H Q=>ta Z H fun x H1=>∃ c,x=.bl c/\if c=true then Q (.bl true) H1 else tb Z H1 Q
noncomputable def ZrY(ta:TE):TE:=fun Z H Q=>ta Z H fun x H1=>∃ c,x=.bl c/\Q (.bl (!c)) H1
theorem Zlv{op}(h:PE X a t):PE X (.BoolOp op [a] pos) t:=fun pins s Z H Q I hw=>BoolOp_one (h pins s Z H Q I hw)
theorem Zqk(ha:PE X a ta)(hb:PE X (.BoolOp .And (b::rest) pos) tb):PE X (.BoolOp .And (a::b::rest) pos) (Zr5 ta tb):=by
 intro pins s Z H Q I h;refine BoolOp_and (thn (ha pins s Z H _ I h) fun v s1 ⟨x,H1,I1,r1,q1⟩=>?_);obtain ⟨c,rfl,q1⟩:=q1;cases r1;refine wpAny_truthy_bool ?_;cases c with
 | true=>exact hb pins s1 Z H1 Q I1 q1
 | false=>exact ⟨.bl false,H1,I1,rfl,q1⟩
theorem Zsu(ha:PE X a ta)(hb:PE X (.BoolOp .Or (b::rest) pos) tb):PE X (.BoolOp .Or (a::b::rest) pos) (ZtT ta tb):=by
 intro pins s Z H Q I h;refine BoolOp_or (thn (ha pins s Z H _ I h) fun v s1 ⟨x,H1,I1,r1,q1⟩=>?_);obtain ⟨c,rfl,q1⟩:=q1;cases r1;refine wpAny_truthy_bool ?_;cases c with
 | false=>exact hb pins s1 Z H1 Q I1 q1
 | true=>exact ⟨.bl true,H1,I1,rfl,q1⟩
theorem Zqd(ha:PE X a ta):PE X (.UnaryOp .Not a pos) (ZrY ta):=by
 intro pins s Z H Q I h;refine UnaryOp_ (thn (ha pins s Z H _ I h) fun v s1 ⟨x,H1,I1,r1,q1⟩=>?_);obtain ⟨c,rfl,q1⟩:=q1;cases r1;exact not_of (wpAny_truthy_bool ⟨.bl (!c),H1,I1,rfl,q1⟩)
noncomputable def tIf(t:TT)(ta tb:TE):TE:=fun Z H Q=>t Z H fun c H1=>if c=true then ta Z H1 Q else tb Z H1 Q
theorem Zlz(hc:PT X c tA)(ha:PE X a ta)(hb:PE X b tb):PE X (.IfExp c a b pos) (tIf tA ta tb):=by
 intro pins s Z H Q I h;refine wpAny_IfExp (thn (hc pins s Z H _ I h) fun d s1 ⟨H1,I1,q1⟩=>?_);cases d with
 | true=>exact ha pins s1 Z H1 Q I1 q1
 | false=>exact hb pins s1 Z H1 Q I1 q1
end
end L2
namespace L2
open PySem PySem.Spec PyProof.Rows
noncomputable def SqL(K:PySem.W.Frag)(H:Hp)(a:Addr)(xs:List V):Prop :=
 Rd H a (.lst xs) \/
   ∃ (o:Obj) (its:Array Value) (n:Nat),K.lookup a=some o/\o.cls=.type "list" /\ o.dict=none/\o.data=.seq its n/\its.size<=sizeLine/\Zj xs its.toList
noncomputable def SqT(K:PySem.W.Frag)(H:Hp)(a:Addr)(xs:List V):Prop :=
 Rd H a (.tup xs) \/
   ∃ (o:Obj) (its:Array Value) (n:Nat),K.lookup a=some o/\o.cls=.type "tuple" /\ o.data=.seq its n/\its.size<=sizeLine/\Zj xs its.toList
noncomputable def ZuN:Value->Option V
 | .none=>some .non
 | .bool b=>some (.bl b)
 | .int i _=>some (.int i)
 | .str x _=>some (.str x)
 | .bytes b _=>some (.byt b)
 | .float b _=>some (.flt b)
 | .ref a=>some (.ref a)
 | .type n=>some (.ty n)
 | _=>none
theorem RelV.abs(r:RelV x u):ZuN u=some x:=by
 cases x with
 | non=>cases r;rfl
 | bl _=>cases r;rfl
 | int _=>obtain ⟨t,rfl⟩:=r;rfl
 | str _=>obtain ⟨t,rfl⟩:=r;rfl
 | byt _=>obtain ⟨t,rfl⟩:=r;rfl
 | flt _=>obtain ⟨t,rfl⟩:=r;rfl
 | ref _=>cases r;rfl
 | ty _=>cases r;rfl
theorem RelV.inj(r:RelV x u)(q:RelV y u):x=y:=Option.some.inj (r.abs.symm.trans q.abs)
theorem Zj.inj:∀ {xs ys:List V}{us:List Value},Zj xs us->Zj ys us->xs=ys
 | _,_,_,.nil,.nil=>rfl
 | _,_,_,.cons r t,.cons r' t'=>by rw [r.inj r',Zj.inj t t']
section
variable {X:Cx}{pins:List (Addr×Obj)}{Z:St}{H:Hp}{s:Shared}{a:Addr}{xs ys:List V}
theorem SqL.of{K:PySem.W.Frag}(h:H a=some (.lst xs)):SqL K H a xs:=.inl (.inl h)
theorem Inv.list(I:Inv X pins Z H s)(h:SqL X.K H a xs):∃ its:List Value,Zj xs its/\PlainL s.heap a its.toArray/\xs.length<=sizeLine:=by
 rcases h with h|⟨o,its,n,hk,hc,hd,hs,hz,r⟩
 . obtain ⟨z,its,n,r,e⟩:=h.ok I.hok;exact ⟨its,r,⟨_,n,e,rfl,rfl,rfl⟩,z⟩
 . refine ⟨its.toList,r,⟨o,n,I.kIn a o hk,hc,hd,by simpa using hs⟩,?_⟩;have e:=r.length;simp only [Array.length_toList] at e
   lia
theorem Inv.tuple(I:Inv X pins Z H s)(h:SqT X.K H a xs):∃ its:List Value,Zj xs its/\IsTup s.heap a its.toArray/\xs.length<=sizeLine:=by
 rcases h with h|⟨o,its,n,hk,hc,hs,hz,r⟩
 . obtain ⟨z,its,r,p⟩:=h.ok I.hok;exact ⟨its,r,p.tup,z⟩
 . refine ⟨its.toList,r,⟨o,I.kIn a o hk,hc,n,by simpa using hs⟩,?_⟩;have e:=r.length;simp only [Array.length_toList] at e
   lia
theorem Inv.list_inj(I:Inv X pins Z H s)(h:SqL X.K H a xs)(h':SqL X.K H a ys):xs=ys:=by
 obtain ⟨its,r,⟨o,n,e,_,_,d⟩,_⟩:=I.list h;obtain ⟨its',r',⟨o',n',e',_,_,d'⟩,_⟩:=I.list h';rw [e] at e';cases e';rw [d] at d';injection d' with d1 _;have:its=its':=by simpa using congrArg Array.toList d1
 subst this;exact r.inj r'
theorem Inv.tuple_inj(I:Inv X pins Z H s)(h:SqT X.K H a xs)(h':SqT X.K H a ys):xs=ys:=by
 obtain ⟨its,r,⟨o,e,_,n,d⟩,_⟩:=I.tuple h;obtain ⟨its',r',⟨o',e',_,n',d'⟩,_⟩:=I.tuple h';rw [e] at e';cases e';rw [d] at d';injection d' with d1 _;have:its=its':=by simpa using congrArg Array.toList d1
 subst this;exact r.inj r'
end
section
variable {X:Cx}{st:Stmt}{rest:List Stmt}{t u:TS}{e:Expr}{te:TE}{pos:Pos}
noncomputable def Zo4:TS:=fun D Z H=>D.nx Z H
noncomputable def ZtR(t u:TS):TS:=fun D Z H=>t {D with nx:=u D} Z H
theorem Zns:PSs X [] Zo4:=fun _ _ Z H _ I h=>wpAny_execs_nil ⟨Z,H,I,h⟩
theorem Zlk(h1:PS X st t)(h2:PSs X rest u):PSs X (st::rest) (ZtR t u):=by
 intro pins s Z H D I h;refine wpAny_execs_cons (thn (h1 pins s Z H {D with nx:=u D} I h) fun f s1 q=>?_);cases f with
 | next =>
   obtain ⟨σ',H',I',q⟩:=q;exact h2 pins s1 σ' H' D I' q
 | ret v=>exact q
 | brk=>exact q
 | cont=>exact q
noncomputable def ZpK:TS:=fun D Z H=>D.bk Z H
noncomputable def Zr2:TS:=fun D Z H=>D.ct Z H
theorem Znt:PS X (.Pass pos) Zo4:=fun _ _ Z H _ I h=>wpAny_Pass ⟨Z,H,I,h⟩
theorem Zln:PS X (.Break pos) ZpK:=fun _ _ Z H _ I h=>wpAny_Break ⟨Z,H,I,h⟩
theorem ZgQ:PS X (.Continue pos) Zr2:=fun _ _ Z H _ I h=>wpAny_Continue ⟨Z,H,I,h⟩
theorem Inv.quiet(I:Inv X pins Z H s):interactive X.env=false:=by simp [interactive,I.ok.kind]
noncomputable def Zr0(te:TE):TS:=fun D Z H=>te Z H fun _ H1=>D.nx Z H1
theorem Znu(he:PE X e te)(hs:swapsWith e none pos.line X.env=pure false:=by rfl):PS X (.Expr e pos) (Zr0 te):=by
 intro pins s Z H D I h;exact wpAny_Expr_any (thn (he pins s Z H _ I h) fun v s1 ⟨x,H1,I1,r1,q1⟩=>⟨Z,H1,I1,q1⟩) I.quiet hs
noncomputable def ZtS(te:TE):TS:=fun D Z H=>te Z H D.rt
theorem Zp1(he:PE X e te):PS X (.Return (some e) pos) (ZtS te):=by
 intro pins s Z H D I h;exact wpAny_Return_some (thn (he pins s Z H _ I h) fun v s1 ⟨x,H1,I1,r1,q1⟩=>⟨x,Z,H1,I1,r1,q1⟩)
noncomputable def ZtX(c:TT)(t u:TS):TS:=fun D Z H=>c Z H fun b H1=>if b=true then t D Z H1 else u D Z H1
theorem Zsr(hc:PT X c tc)(ha:PSs X a t)(hb:PSs X b u):PS X (.If c a b pos) (ZtX tc t u):=by
 intro pins s Z H D I h;refine wpAny_If (thn (hc pins s Z H _ I h) fun d s1 ⟨H1,I1,q1⟩=>?_);cases d with
 | true=>exact ha pins s1 Z H1 D I1 q1
 | false=>exact hb pins s1 Z H1 D I1 q1
end
noncomputable abbrev TG:=V->St->Hp->(St->Hp->Prop)->Prop
noncomputable abbrev TGs:=List V->St->Hp->(St->Hp->Prop)->Prop
noncomputable def PG(X:Cx)(target:Expr)(t:TG):Prop :=
 ∀ (pins:List (Addr×Obj)) (s:Shared) (Z:St) (H:Hp) (v:V) (u:Value) (Q:St->Hp->Prop),Inv X pins Z H s->RelV v u->t v Z H Q ->
   wpAny (model X.prog X.w) X.A (assign target X.env u) (fun _ s'=>∃ σ' H',Inv X pins σ' H' s'/\Q σ' H') X.xe s
noncomputable def PGs(X:Cx)(ts:List Expr)(t:TGs):Prop :=
 ∀ (pins:List (Addr×Obj)) (s:Shared) (Z:St) (H:Hp) (vs:List V) (us:List Value) (Q:St->Hp->Prop),Inv X pins Z H s->Zj vs us->t vs Z H Q ->
   wpAny (model X.prog X.w) X.A (assignInOrder ((assignEach ts X.env).map (·.2)) us) (fun _ s'=>∃ σ' H',Inv X pins σ' H' s'/\Q σ' H') X.xe s
noncomputable abbrev ZoV:=V->V->V->Hp->(Hp->Prop)->Prop
noncomputable def ZoW(X:Cx)(t:ZoV):Prop :=
 ∀ (pins:List (Addr×Obj)) (s:Shared) (Z:St) (H:Hp) (o i v:V) (ov iv u:Value) (Q:Hp->Prop),Inv X pins Z H s->RelV o ov->RelV i iv->RelV v u->t o i v H Q ->
   wpAny (model X.prog X.w) X.A (setItem ov iv u) (fun _ s'=>∃ H',Inv X pins Z H' s'/\Q H') X.xe s
noncomputable abbrev TIp:=V->V->Hp->VK->Prop
noncomputable def PIp(X:Cx)(op:Operator)(t:TIp):Prop :=
 ∀ (pins:List (Addr×Obj)) (s:Shared) (Z:St) (H:Hp) (x y:V) (v u:Value) (Q:VK),Inv X pins Z H s->RelV x v->RelV y u->t x y H Q ->
   wpAny (model X.prog X.w) X.A (inplaceOp op v u) (EP X pins Z Q) X.xe s
section
variable {X:Cx}{pos:Pos}
noncomputable def ZbT(i:Nat):TG:=fun v Z H Q=>Q (Z.set i (some v)) H
theorem Zi8(hN:X.N.Nodup)(hi:X.N[i]? = some x)(hx:Loc X.env.scope x)(hf:X.fn x=true\/X.env.scope.names.lookup x=some .local:=by first|exact .inl rfl|exact .inr rfl|assumption):PG X (.Name x pos) (ZbT i):=by
 intro pins s Z H v u Q I r h;exact wpAny_assign_Name (Zer I hN hi hx r (fun s' I'=>⟨_,H,I',h⟩) hf)
noncomputable def Zon:TGs:=fun vs Z H Q=>vs=[]/\Q Z H
noncomputable def Zg7(t:TG)(u:TGs):TGs:=fun vs Z H Q=>∃ v r,vs=v::r/\t v Z H fun σ' H'=>u r σ' H' Q
theorem Zi6:PGs X [] Zon:=by
 intro pins s Z H vs us Q I r h;obtain ⟨e,h⟩:=h;subst e;cases r;exact assignInOrder_nil ⟨Z,H,I,h⟩
theorem ZeA(h1:PG X e t)(h2:PGs X es u)
   (hs:(assignEach (e::es) X.env).map (·.2)=assign e X.env::(assignEach es X.env).map (·.2):=by rfl):PGs X (e::es) (Zg7 t u):=by
 intro pins s Z H vs us Q I r h;obtain ⟨v,vr,e1,h⟩:=h;subst e1;cases r with
 | cons r rr =>
   rw [hs];refine assignInOrder_cons (thn (h1 pins s Z H _ _ _ I r h) fun _ s1 ⟨σ1,H1,I1,q1⟩=>?_);exact h2 pins s1 σ1 H1 _ _ Q I1 rr q1
noncomputable def Zom(K:PySem.W.Frag)(n:Nat)(t:TGs):TG:=fun v Z H Q=>∃ a xs,v=.ref a/\SqT K H a xs/\xs.length=n/\t xs Z H Q
theorem Zlt(hc:X.calm=true)(h:PGs X es t)
   (hn:(assignEach es X.env).length=n:=by rfl) (hst:(assignEach es X.env).findIdx? (·.1)=none:=by rfl):PG X (.Tuple es k pos) (Zom X.K n t):=by
 intro pins s Z H v u Q I r hw;obtain ⟨a,xs,e1,hq,hl,hw⟩:=hw;subst e1;cases r;obtain ⟨its,rv,ht,hz⟩:=I.tuple hq;refine assign_Tuple_tuple (I.ok.hd hc) ht (by simp [hn,<- hl,rv.length]) hst fun h' hx=>?_;have I1:Inv X pins Z H {s with heap:=h'}:=I.kept (t':=s.toks) fun b o e=>hx b o (Ou (Heap.lt_size e)) e;exact h pins _ Z H xs _ Q I1 (by simpa using rv) hw
noncomputable def Zut(to ti:TE)(t:ZoV):TG:=fun v Z H Q=>to Z H fun o H1=>ti Z H1 fun i H2=>t o i v H2 fun H3=>Q Z H3
theorem Zp9(ho:PE X o to)(hi:PE X i ti)(hs:ZoW X t)
   (ha:∀ v,assign (.Subscript o i pos) X.env v=(do
     let ov <- holding [v] (eval o X.env);let iv <- holding [v,ov] (eval i X.env)
     standAt pos
     holding [v,ov,iv] (setItem ov iv v)
     release [v,ov,iv] []):=by intro _;rfl):PG X (.Subscript o i pos) (Zut to ti t):=by
 intro pins s Z H v u Q I r h;rw [ha];refine wpAny_bind (wpAny_holding (thn (ho pins s Z H _ I h) fun ov s1 ⟨x,H1,I1,r1,q1⟩=>?_));refine wpAny_bind (wpAny_holding (thn (hi pins s1 Z H1 _ I1 q1) fun iv s2 ⟨y,H2,I2,r2,q2⟩=>?_));refine wpAny_bind (wpAny_standAt (wpAny_bind (wpAny_holding (thn (hs pins s2 Z H2 x y v ov iv u _ I2 r1 r2 r q2) fun _ s3 ⟨H3,I3,q3⟩=>?_))));exact wpAny_release ⟨Z,H3,I3,q3⟩
noncomputable def ZhJ(te:TE)(g:TG):TS:=fun D Z H=>te Z H fun x H1=>g x Z H1 D.nx
theorem Zlo(he:PE X e te)(hg:PG X tg g)(hs:swapsWithSole [tg] e pos.line X.env=pure false:=by rfl)(hw:swappedStores [tg] e X.env=pure none:=by rfl)
   (h1:(assignEach [tg] X.env).map (·.2)=[assign tg X.env]:=by rfl):PS X (.Assign [tg] e pos) (ZhJ te g):=by
 intro pins s Z H D I h;refine wpAny_Assign_stores (thn (he pins s Z H _ I h) fun v s1 ⟨x,H1,I1,r1,q1⟩=>?_) hs hw;rw [h1];exact thn (hg pins s1 Z H1 x v _ I1 r1 q1) fun _ s2 q=>q
theorem Zlm(hN:X.N.Nodup)(hi:X.N[i]? = some x)(hx:Loc X.env.scope x)(he:PE X e te)(hs:swapsWith e (some (.Name x pos')) pos.line X.env=pure false:=by rfl)(hf:X.fn x=true\/X.env.scope.names.lookup x=some .local:=by first|exact .inl rfl|exact .inr rfl|assumption) :
   PS X (.Assign [.Name x pos'] e pos) (ZhJ te (ZbT i)):=by
 intro pins s Z H D I h;refine wpAny_Assign_Name (thn (he pins s Z H _ I h) fun v s1 ⟨y,H1,I1,r1,q1⟩=>?_) hs;exact Zer I1 hN hi hx r1 (fun s2 I2=>⟨_,H1,I2,q1⟩) hf
noncomputable def Zt2(i:Nat)(te:TE)(ti:TIp):TS:=fun D Z H=>∃ x,Z[i]? = some (some x)/\te Z H fun y H1=>ti x y H1 fun z H2=>D.nx (Z.set i (some z)) H2
theorem Zp4(hN:X.N.Nodup)(hi:X.N[i]? = some x)(hx:Loc X.env.scope x)(he:PE X e te)(ho:PIp X op ti)(hf:X.fn x=true\/X.env.scope.names.lookup x=some .local:=by first|exact .inl rfl|exact .inr rfl|assumption) :
   PS X (.AugAssign (.Name x pos') op e pos) (Zt2 i te ti):=by
 intro pins s Z H D I h;obtain ⟨v,e1,h⟩:=h;obtain ⟨m,hn,hl⟩:=I.loc;have vis:Vis X.env.scope x:=by rcases hx with k|k;exact .inl k;exact .inr (.inl k)
 obtain ⟨u,r,l⟩:=hl i x v hi e1 vis;refine wpAny_AugAssign_Name ?_;have go:wpAny (model X.prog X.w) X.A (eval e X.env) (fun w s₂=>wpAny (model X.prog X.w) X.A (inplaceOp op u w) (fun r s₃=>wpAny (model X.prog X.w) X.A (storeName X.env x r) (fun _=>SP X pins D .next) X.xe s₃) X.xe s₂) X.xe s:=by
   refine thn (he pins s Z H _ I h) fun w s1 ⟨y,H1,I1,r1,q1⟩=>?_;refine thn (ho pins s1 Z H1 v y u w _ I1 r r1 q1) fun z s2 ⟨zv,H2,I2,r2,q2⟩=>?_;exact Zer I2 hN hi hx r2 (fun s3 I3=>⟨_,H2,I3,q2⟩) hf
 rcases l with ⟨hk,hm⟩|⟨hk,c,hc,hcell⟩
 . exact wpAny_loadName_local I.ok.kind hk hn hm go
 . rcases hk with hk|hk
   . exact wpAny_loadName_cell I.ok.kind hk hc hcell go
   . rcases hx with k|k
     . have:X.env.scope.names.lookup x=some .free:=hk;rw [k] at this;cases this
     . have:X.env.scope.names.lookup x=some .free:=hk;rw [k] at this;cases this
noncomputable def ipI(f:Int->Int->Int):TIp:=fun x y H Q=>∃ i j,x=.int i/\y=.int j/\Q (.int (f i j)) H
theorem ZqV:PIp X .Add (ipI fun i j=>i+j):=by
 intro pins s Z H x y v u Q I r1 r2 h;obtain ⟨i,j,e1,e2,q⟩:=h;subst e1;subst e2;obtain ⟨t,rfl⟩:=r1;obtain ⟨t',rfl⟩:=r2;exact iadd_int ⟨.int _,H,I.tok _,⟨_,rfl⟩,q⟩
end
section
variable {X:Cx}{pos:Pos}
noncomputable def ZkW(c:TT)(tb:TS):TS:=fun D Z H=>∃ W:Nat->St->Hp->Prop,(∃ m,W m Z H)/\∀ m Z H,W m Z H ->
 c Z H fun b H1=>if b=true then ∃ N:St->Hp->Prop,(∀ σ' H',N σ' H'->∃ m',m'<m/\W m' σ' H')/\tb {D with nx:=N,ct:=N,bk:=D.nx} Z H1 else D.nx Z H1
theorem Zll(hp:PassesOwn (model X.prog X.w) X.A X.env X.xe)(hc:PT X c tc)(hb:PSs X body tb):PS X (.While c body [] pos) (ZkW tc tb):=by
 intro pins s Z H D I h;obtain ⟨W,⟨m0,w0⟩,turn⟩:=h;refine wpAny_While (codeAny_whileLoop (fun n s'=>∃ σ' H',Inv X pins σ' H' s'/\W n σ' H') ?_ m0 ⟨Z,H,I,w0⟩);rintro n s1 ⟨σ1,H1,I1,w1⟩;refine wpAny_passesOwn hp (thn (hc pins s1 σ1 H1 _ I1 (turn n σ1 H1 w1)) fun b s2 ⟨H2,I2,q2⟩=>?_);cases b with
 | true =>
   obtain ⟨N,hN,q2⟩:=q2;rw [if_pos rfl];refine wpAny_passesOwn hp (thn (hb pins s2 σ1 H2 _ I2 q2) fun f s3 q3=>?_);cases f with
   | next =>
     obtain ⟨σ3,H3,I3,n3⟩:=q3;obtain ⟨m',hm,w3⟩:=hN σ3 H3 n3;exact ⟨m',hm,σ3,H3,I3,w3⟩
   | cont =>
     obtain ⟨σ3,H3,I3,n3⟩:=q3;obtain ⟨m',hm,w3⟩:=hN σ3 H3 n3;exact ⟨m',hm,σ3,H3,I3,w3⟩
   | brk=>exact q3
   | ret v=>exact q3
 | false =>
   rw [if_neg Ow];exact wpAny_execs_nil ⟨σ1,H2,I2,q2⟩
end
structure It where
 go:Nat->Hp->Prop
 yld:Nat->Hp->V->Hp->Prop
 stop:Nat->Hp->Prop
noncomputable def Zcz(X:Cx)(pins:List (Addr×Obj))(H:Hp)(b:Addr):Prop :=
 H b=none/\b≠X.env.locals/\b ∉ X.fs/\(b∈X.ex\/X.s₀.heap.objs.size<=b)/\(∀ x c,X.env.cells.lookup x=some c->c≠b)/\∀ p∈X.pn++pins,p.1≠b
theorem Inv.fpOk(I:Inv X pins Z H s)(hb:s.heap.objs.size<=b)(hn:H' b=none):Zcz X pins H' b:=by
 refine ⟨hn,Nat.ne_of_gt (Ot I.lt hb),I.nofs hb,.inr (OE I.sz hb),fun x c e z=>?_,fun p hp z=>?_⟩
 . obtain ⟨v,q⟩:=I.cell x c e;exact absurd (Ot q.lt (by rw [z];exact hb)) (Nat.lt_irrefl _)
 . exact absurd (Ot (Heap.lt_size (I.pin p hp).1) (by rw [z];exact hb)) (Nat.lt_irrefl _)
structure Turn(P:Program)(w:World)(K:PySem.W.Frag)(tg:Expr)(J:It)(fp:List Addr)(it:Addr)(tn:Nat->Heap->Prop):Prop where
 mem:it∈fp
 obj:∀ i h,tn i h->∀ b∈fp,∃ o,h.get? b=some o/\∀ v,o.data≠.cell v
 keep:∀ i h h',tn i h->(∀ b∈fp,∀ o,h.get? b=some o->h'.get? b=some o)->tn i h'
 item:∀ (X:Cx),X.prog=P->X.w=w->X.K=K->X.calm=true->∀ (i:Nat) (pins:List (Addr×Obj)) (s:Shared) (Z:St) (H:Hp) (E:Value->Shared->Prop),Inv X pins Z H s->(∀ b∈fp,Zcz X pins H b)->tn i s.heap->J.go i H ->
   wpAny (model P w) X.A (pyNext (.ref it)) (fun r s1=>∃ u,r=some u /\
     wpAny (model P w) X.A (letOwnedTupleGo tg (.ref it) u) (fun _ s2=>∃ x H',Inv X pins Z H' s2/\RelV x u/\J.yld i H x H'/\tn (i+1) s2.heap/\∀ b∈fp,H' b=none) E s1) E s
 done:∀ (X:Cx),X.prog=P->X.w=w->X.K=K->X.calm=true->∀ (i:Nat) (pins:List (Addr×Obj)) (s:Shared) (Z:St) (H:Hp) (E:Value->Shared->Prop),Inv X pins Z H s->(∀ b∈fp,Zcz X pins H b)->tn i s.heap->J.stop i H ->
   wpAny (model P w) X.A (pyNext (.ref it)) (fun r s1=>r=none/\Inv X pins Z H s1) E s
 self:∀ (A:Around) (i:Nat) (s:Shared) (Q:Value->Shared->Prop) (E:Value->Shared->Prop),tn i s.heap->Q (.ref it) s->wpAny (model P w) A (pyIter (.ref it)) Q E s
noncomputable abbrev TI:=St->Hp->(It->Hp->Prop)->Prop
noncomputable def PIE(X:Cx)(pins:List (Addr×Obj))(Z:St)(tg:Expr)(R:It->Hp->Prop)(itv:Value)(s2:Shared):Prop :=
 ∃ (it:Addr) (fp:List Addr) (tn:Nat->Heap->Prop) (J:It) (H':Hp),itv=.ref it/\Inv X pins Z H' s2/\Turn X.prog X.w X.K tg J fp it tn/\tn 0 s2.heap/\(∀ b∈fp,Zcz X pins H' b)/\R J H'
noncomputable def PI(X:Cx)(tg iter:Expr)(wi:TI):Prop :=
 ∀ (pins:List (Addr×Obj)) (s:Shared) (Z:St) (H:Hp) (R:It->Hp->Prop),Inv X pins Z H s->wi Z H R ->
   wpAny (model X.prog X.w) X.A (eval iter X.env) (fun v s1=>wpAny (model X.prog X.w) X.A (pyIter v) (PIE X pins Z tg R) X.xe s1) X.xe s
theorem ZfC(ho:s.heap.get? it=some o)(hc:o.cls=.type n)(hd:o.data=.fields vs)
   (hn:["enumerate", "zip", "dict_itemiterator", "dict_reverseitemiterator", "odict_iterator", "itertools.zip_longest", "itertools.pairwise"].contains n=false) (hQ:Q () s):wpAny M A (letOwnedTupleGo tg (.ref it) u) Q E s:=by
 unfold letOwnedTupleGo;cases tg<;>first
   | exact wpAny_pure hQ
   | (cases u<;>first
       | exact wpAny_pure hQ
       | (refine wpAny_bind (wpAny_load ho ?_)
          rw [hc,hd];show wpAny M A (if (["enumerate", "zip", "dict_itemiterator", "dict_reverseitemiterator", "odict_iterator", "itertools.zip_longest", "itertools.pairwise"].contains n&&vs[0]?==some (rawInt _))=true then _ else _) Q E s;rw [if_neg (by intro h;rw [hn,Bool.false_and] at h;cases h)];exact wpAny_pure hQ))
noncomputable def Itl(K:PySem.W.Frag)(a:Addr):It :=
 ⟨fun i H=>∃ xs x,SqL K H a xs/\xs[i]? = some x,fun i H x H'=>H'=H/\∀ xs,SqL K H a xs->xs[i]? = some x,fun i H=>∃ xs,SqL K H a xs/\xs.length<=i⟩
noncomputable def Itt(K:PySem.W.Frag)(a:Addr):It :=
 ⟨fun i H=>∃ xs x,SqT K H a xs/\xs[i]? = some x,fun i H x H'=>H'=H/\∀ xs,SqT K H a xs->xs[i]? = some x,fun i H=>∃ xs,SqT K H a xs/\xs.length<=i⟩
noncomputable def Itr(lo:Int)(n:Nat):It:=⟨fun i _=>i<n,fun i H x H'=>H'=H/\x=.int (lo+i),fun i _=>n<=i⟩
theorem Zj0{P:Program}{w:World}{K:PySem.W.Frag}{tg:Expr}(a it:Addr):Turn P w K tg (Itl K a) [it] it (fun i h=>h.IsListIter it a i) where
 mem:=by simp
 obj:=fun i h st b hb=>by
   have e:b=it:=by simpa using hb
   subst e;obtain ⟨o,e,c,d⟩:=st;exact ⟨o,e,fun v z=>by rw [d] at z;cases z⟩
 keep:=fun i h h' st k=>st.at fun o e=>k it (by simp) o e
 item:=by
   intro X hP hw hK hc i pins s Z H E I hf st hg;subst hP hw hK;obtain ⟨xs,x,hq,hx⟩:=hg;obtain ⟨its,rv,p,hz⟩:=I.list hq;obtain ⟨u,hu,ru⟩:=rv.get hx;obtain ⟨f0,f1,f2,f3,f4,f5⟩:=hf it (by simp);refine wpAny_pyNext_list_item st p.isList (x:=u) (by simpa using hu) fun h' st' sb=>?_;have I1:Inv X pins Z H {s with heap:=h'}:=I.turned (t':=s.toks) (fun b o hb e=>(sb.2 b hb).trans e) f0 f1 f3 f4 f5;obtain ⟨o,e,c,d⟩:=id st';exact ⟨u,rfl,ZfC (s:={s with heap:=h'}) e c d (by decide) ⟨x,H,I1,ru,⟨rfl,fun ys hy=>by rw [I.list_inj hy hq];exact hx⟩,st',fun b hb=>(hf b hb).1⟩⟩
 done:=by
   intro X hP hw hK hc i pins s Z H E I hf st hg;subst hP hw hK;obtain ⟨xs,hq,hx⟩:=hg;obtain ⟨its,rv,p,hz⟩:=I.list hq;obtain ⟨f0,f1,f2,f3,f4,f5⟩:=hf it (by simp);have hl:=rv.length;exact wpAny_pyNext_list_end (I.ok.hd hc) st p.isList (by simp;lia) fun h' eb=>⟨rfl,I.turned (t':=s.toks) (fun b o hb e=>eb b o hb e) f0 f1 f3 f4 f5⟩
 self:=fun _ _ _ _ _ st h=>wpAny_pyIter_listiter st h
theorem ZhG{P:Program}{w:World}{K:PySem.W.Frag}{tg:Expr}(a it:Addr):Turn P w K tg (Itt K a) [it] it (fun i h=>h.IsTupleIter it a i) where
 mem:=by simp
 obj:=fun i h st b hb=>by
   have e:b=it:=by simpa using hb
   subst e;obtain ⟨o,e,c,d⟩:=st;exact ⟨o,e,fun v z=>by rw [d] at z;cases z⟩
 keep:=fun i h h' st k=>st.at fun o e=>k it (by simp) o e
 item:=by
   intro X hP hw hK hc i pins s Z H E I hf st hg;subst hP hw hK;obtain ⟨xs,x,hq,hx⟩:=hg;obtain ⟨its,rv,p,hz⟩:=I.tuple hq;obtain ⟨u,hu,ru⟩:=rv.get hx;obtain ⟨f0,f1,f2,f3,f4,f5⟩:=hf it (by simp);refine wpAny_pyNext_tuple_item st (show s.heap.IsTuple a its.toArray from p) (x:=u) (by simpa using hu) fun h' st' sb=>?_;have I1:Inv X pins Z H {s with heap:=h'}:=I.turned (t':=s.toks) (fun b o hb e=>(sb.2 b hb).trans e) f0 f1 f3 f4 f5;obtain ⟨o,e,c,d⟩:=id st';exact ⟨u,rfl,ZfC (s:={s with heap:=h'}) e c d (by decide) ⟨x,H,I1,ru,⟨rfl,fun ys hy=>by rw [I.tuple_inj hy hq];exact hx⟩,st',fun b hb=>(hf b hb).1⟩⟩
 done:=by
   intro X hP hw hK hc i pins s Z H E I hf st hg;subst hP hw hK;obtain ⟨xs,hq,hx⟩:=hg;obtain ⟨its,rv,p,hz⟩:=I.tuple hq;obtain ⟨f0,f1,f2,f3,f4,f5⟩:=hf it (by simp);have hl:=rv.length;exact wpAny_pyNext_tuple_end (I.ok.hd hc) st (show s.heap.IsTuple a its.toArray from p) (by simp;lia) fun h' eb=>⟨rfl,I.turned (t':=s.toks) (fun b o hb e=>eb b o hb e) f0 f1 f3 f4 f5⟩
 self:=fun _ _ _ _ _ st h=>wpAny_pyIter_tupleiter st h
theorem ZhH{P:Program}{w:World}{K:PySem.W.Frag}{tg:Expr}(it:Addr)(lo:Int)(n:Nat):Turn P w K tg (Itr lo n) [it] it (fun i h=>IsRangeIter h it (lo+(i:Nat) * 1) ((n:Int) - (i:Nat)) 1) where
 mem:=by simp
 obj:=fun i h st b hb=>by
   have e:b=it:=by simpa using hb
   subst e;exact ⟨_,st,fun v z=>by
     have z':Data.fields _=Data.cell v:=z;cases z'⟩
 keep:=fun i h h' st k=>k it (by simp) _ st
 item:=by
   intro X hP hw hK hc i pins s Z H E I hf st hg;subst hP hw hK;obtain ⟨f0,f1,f2,f3,f4,f5⟩:=hf it (by simp);have W:=Walks.range (prog:=X.prog) (w:=X.w) (I.ok.hd hc) it lo 1 n;refine W.item i s _ _ hg st fun v h' tk hv st' kk=>?_;obtain ⟨t,rfl⟩:=hv;have I1:Inv X pins Z H {s with heap:=h',toks:=tk}:=I.turned (fun b o hb e=>kk b o (by simpa using hb) e) f0 f1 f3 f4 f5;refine ⟨_,rfl,ZfC (s:={s with heap:=h',toks:=tk}) (n := "range_iterator") st' rfl rfl (by decide) ⟨.int (lo+i),H,I1,⟨t,?_⟩,⟨rfl,rfl⟩,st',fun b hb=>(hf b hb).1⟩⟩;rw [Int.mul_one]
 done:=by
   intro X hP hw hK hc i pins s Z H E I hf st hg;subst hP hw hK;obtain ⟨f0,f1,f2,f3,f4,f5⟩:=hf it (by simp);exact wpAny_pyNext_range_end (I.ok.hd hc) st (by have:n<=i:=hg;lia) fun h' eb=>⟨rfl,I.turned (t':=s.toks) (fun b o hb e=>eb b o hb e) f0 f1 f3 f4 f5⟩
 self:=fun _ _ _ _ _ st h=>wpAny_pyIter_rangeiter st h
end L2
namespace L2
open PySem PySem.Spec PyProof.Rows
section
variable {X:Cx}{tg:Expr}
theorem Zk6{pins:List (Addr×Obj)}{Z:St}{H:Hp}{s:Shared}{R:It->Hp->Prop}{E:Value->Shared->Prop}{lo hi:Int}{t u v:Tok}{tk:Nat}(I:Inv X pins Z H s)(h1:-(2 ^ 62)<=lo)(h2:lo<2 ^ 62)(h3:-(2 ^ 62)<=hi)(h4:hi<2 ^ 62)
   (q:R (Itr lo (hi - lo).toNat) H):wpAny (model X.prog X.w) X.A (pyIter (.ref s.heap.objs.size)) (PIE X pins Z tg R) E {s with heap:=s.heap.push {cls:=.type "range",data:=.fields #[.int lo t,.int hi u,.int 1 v]},toks:=tk}:=by
 refine wpAny_pyIter_range (IsRange.new ..) (small_one h1 h2 h3 h4) ?_;have I1:Inv X pins Z H {s with heap:=s.heap.push {cls:=.type "range",data:=.fields #[.int lo t,.int hi u,.int 1 v]},toks:=tk}:=I.kept fun b o e=>Od _ e;refine ⟨(s.heap.push {cls:=.type "range",data:=.fields #[.int lo t,.int hi u,.int 1 v]}).objs.size,[(s.heap.push {cls:=.type "range",data:=.fields #[.int lo t,.int hi u,.int 1 v]}).objs.size],_,_,H,rfl,
   I1.kept (t':=tk) fun b o e=>Od _ e,ZhH _ lo (hi - lo).toNat,?_,fun b hb=>?_,q⟩
 . have e1:lo+((0:Nat):Int) * 1=lo:=by simp
   have e2:(((hi - lo).toNat:Nat):Int) - ((0:Nat):Int)=Builtin.Range.rangeSize lo hi 1:=by rw [rangeSize_one];split<;>lia
   show IsRangeIter _ _ (lo+((0:Nat):Int) * 1) ((((hi - lo).toNat:Nat):Int) - ((0:Nat):Int)) 1;rw [e1,e2];exact Oj _ rfl
 . have e:b=(s.heap.push {cls:=.type "range",data:=.fields #[.int lo t,.int hi u,.int 1 v]}).objs.size:=by simpa using hb
   subst e;exact I1.fpOk (Oq _) (I1.hok.fresh (Oq _))
noncomputable def Zs6(ta:TA):TI:=fun Z H R=>ta Z H fun vs H1=>∃ j:Int,vs=[.int j]/\-(2 ^ 62)<=j/\j<2 ^ 62/\R (Itr 0 j.toNat) H1
theorem Zki {a:Expr}{ta:TA}{p pos:Pos} (hg:Gl X "range") (hm:X.mg "range" = none) (ha:PA X [a] ta) (hs:starEach [a] X.env=[(false,eval a X.env)]:=by rfl):PI X tg (.Call (.Name "range" p) [a] [] pos) (Zs6 ta):=by
 intro pins s Z H R I h;refine Call_ (ZbD I hg hm boot_range (PyProof.Rows.callWith_type1 (thn (ha pos pins s Z H _ I h) fun us s1 ⟨vs,H1,I1,r1,q1⟩=>?_) hs rfl));obtain ⟨j,e,q1,q2,q⟩:=q1;subst e;cases r1 with
 | cons r rr =>
   cases rr;obtain ⟨t,rfl⟩:=r;exact call_range_1 (Zk6 I1 (by lia) (by lia) q1 q2 (by simpa using q))
noncomputable def ZtY(wi:TI)(g:TG)(tb:TS):TS:=fun D Z H=>wi Z H fun J H1=>∃ W:Nat->Nat->St->Hp->Prop,(∃ m,W 0 m Z H1)/\∀ i m Z H,W i m Z H ->
 (J.stop i H/\D.nx Z H)\/(J.go i H/\∃ N:St->Hp->Prop,(∀ σ' H',N σ' H'->∃ m',m'<m/\W (i+1) m' σ' H')/\∀ x H',J.yld i H x H'->g x Z H' fun σ2 H2=>tb {D with nx:=N,ct:=N,bk:=D.nx} σ2 H2)
noncomputable def Zez(fp:List Addr)(h:Heap):List (Addr×Obj):=fp.filterMap fun b=>(h.get? b).map fun o=>(b,o)
theorem ZbB(hb:b∈fp)(e:h.get? b=some o):(b,o)∈Zez fp h:=List.mem_filterMap.mpr ⟨b,hb,by rw [e];rfl⟩
theorem Zko(hp:p∈Zez fp h):p.1∈fp/\h.get? p.1=some p.2:=by
 obtain ⟨b,hb,e⟩:=List.mem_filterMap.mp hp;cases q:h.get? b with
 | none=>rw [q] at e;cases e
 | some o =>
   rw [q] at e;have e':(b,o)=p:=Option.some.inj e;subst e';exact ⟨hb,q⟩
theorem Inv.pinned(I:Inv X pins Z H s)(hf:∀ b∈fp,Zcz X pins H b)(ho:∀ b∈fp,∃ o,s.heap.get? b=some o/\∀ v,o.data≠.cell v):Inv X (pins++Zez fp s.heap) Z H s :=
 I.pins_of fun p hp=>(OD.mp hp).elim (fun z=>I.pin p (Ov _ z)) fun z=>by
   obtain ⟨hb,e⟩:=Zko z;obtain ⟨f0,f1,f2,_⟩:=hf p.1 hb;obtain ⟨o,e',d⟩:=ho p.1 hb;rw [e] at e';cases e';exact ⟨e,f0,f1,f2,d⟩
theorem Inv.unpinned(I:Inv X (pins++pl) Z H s):Inv X pins Z H s:=I.pins_of fun p hp=>I.pin p (Ov _ (List.mem_append_left _ hp))
theorem Zp2(hp:PassesOwn (model X.prog X.w) X.A X.env X.xe)(hc:X.calm=true)(hi:PI X tg iter wi)(hg:PG X tg g)(hb:PSs X body tb)
   (hs:∀ x,foldedSetIterable iter X.env x=pure x:=by intro _;rfl):PS X (.For tg iter body [] pos) (ZtY wi g tb):=by
 intro pins s Z H D I h;refine wpAny_For (thn (hi pins s Z H _ I h) fun v s1 h1=>thn h1 fun itv s2 h2=>?_) hs;obtain ⟨it,fp,tn,J,H2,e,I2,T,st2,f2,W,⟨m0,w0⟩,turn⟩:=h2;subst e;have stat:∀ {H':Hp},(∀ b∈fp,H' b=none)->∀ b∈fp,Zcz X pins H' b:=fun hn b hb=>⟨hn b hb,(f2 b hb).2⟩
 refine codeAny_forLoop_any (fun n s'=>∃ i σ' H',Inv X pins σ' H' s'/\tn i s'.heap/\(∀ b∈fp,H' b=none)/\W i n σ' H') ?_ m0 ⟨0,Z,H2,I2,st2,fun b hb=>(f2 b hb).1,w0⟩;rintro n s3 ⟨i,σ3,H3,I3,st3,fr3,w3⟩;rcases turn i n σ3 H3 w3 with ⟨stop,qn⟩|⟨go,N,hN,step⟩
 . refine wpAny_passesOwn hp (thn (T.done X rfl rfl rfl hc i pins s3 σ3 H3 X.xe I3 (stat fr3) st3 stop) fun r s4 ⟨hr,I4⟩=>?_);subst hr;exact wpAny_execs_nil ⟨σ3,H3,I4,qn⟩
 . refine wpAny_passesOwn hp (thn (T.item X rfl rfl rfl hc i pins s3 σ3 H3 X.xe I3 (stat fr3) st3 go) fun r s4 ⟨u,hr,h4⟩=>?_);subst hr;refine wpAny_passesOwn hp (thn h4 fun _ s5 ⟨x,H5,I5,r5,y5,st5,fr5⟩=>?_);have I5':=I5.pinned (stat fr5) (T.obj _ _ st5);refine wpAny_passesOwn hp (thn (hg _ s5 σ3 H5 x u _ I5' r5 (step x H5 y5)) fun _ s6 ⟨σ6,H6,I6,q6⟩=>?_);refine wpAny_passesOwn hp (thn (hb _ s6 σ6 H6 _ I6 q6) fun f s7 q7=>?_);have again:∀ {σ7:St}{H7:Hp},Inv X (pins++Zez fp s5.heap) σ7 H7 s7->N σ7 H7->∃ m,m<n/\∃ i σ' H',Inv X pins σ' H' s7/\tn i s7.heap/\(∀ b∈fp,H' b=none)/\W i m σ' H':=fun {σ7 H7} I7 n7=>by
     obtain ⟨m',hm,w7⟩:=hN σ7 H7 n7;refine ⟨m',hm,i+1,σ7,H7,I7.unpinned,T.keep _ _ _ st5 fun b hb o e=>(I7.pin (b,o) (Ov _ (Ov _ (ZbB hb e)))).1,fun b hb=>?_,w7⟩;obtain ⟨o,e,d⟩:=T.obj _ _ st5 b hb;exact (I7.pin (b,o) (Ov _ (Ov _ (ZbB hb e)))).2.1
   cases f with
   | next=>obtain ⟨σ7,H7,I7,n7⟩:=q7;exact again I7 n7
   | cont=>obtain ⟨σ7,H7,I7,n7⟩:=q7;exact again I7 n7
   | brk=>obtain ⟨σ7,H7,I7,q7⟩:=q7;exact ⟨σ7,H7,I7.unpinned,q7⟩
   | ret v=>obtain ⟨x7,σ7,H7,I7,r7,q7⟩:=q7;exact ⟨x7,σ7,H7,I7.unpinned,r7,q7⟩
end
end L2
namespace L2
open PySem PySem.Spec PyProof.Rows
noncomputable abbrev R2:=V->V->Hp->VK->Prop
noncomputable def OpR(X:Cx)(f:Value->Value->Sem Value)(r:R2):Prop :=
 ∀ (pins:List (Addr×Obj)) (s:Shared) (Z:St) (H:Hp) (x y:V) (v u:Value) (Q:VK),Inv X pins Z H s->RelV x v->RelV y u->r x y H Q ->
   wpAny (model X.prog X.w) X.A (f v u) (EP X pins Z Q) X.xe s
noncomputable def UnR(X:Cx)(f:Value->Sem Value)(r:V->Hp->VK->Prop):Prop :=
 ∀ (pins:List (Addr×Obj)) (s:Shared) (Z:St) (H:Hp) (x:V) (v:Value) (Q:VK),Inv X pins Z H s->RelV x v->r x H Q ->
   wpAny (model X.prog X.w) X.A (f v) (EP X pins Z Q) X.xe s
noncomputable def ZaK(X:Cx)(f:Value)(r:List V->Hp->VK->Prop):Prop :=
 ∀ (pins:List (Addr×Obj)) (s:Shared) (Z:St) (H:Hp) (xs:List V) (us:List Value) (Q:VK),Inv X pins Z H s->Zj xs us->r xs H Q ->
   wpAny (model X.prog X.w) X.A (call f us) (EP X pins Z Q) X.xe s
noncomputable def ZuO(X:Cx)(r:V->Hp->(Bool->Hp->Prop)->Prop):Prop :=
 ∀ (pins:List (Addr×Obj)) (s:Shared) (Z:St) (H:Hp) (x:V) (v:Value) (Q:Bool->Hp->Prop),Inv X pins Z H s->RelV x v->r x H Q ->
   wpAny (model X.prog X.w) X.A (truthy v) (TP X pins Z Q) X.xe s
noncomputable def tOp(r:R2)(ta tb:TE):TE:=fun Z H Q=>ta Z H fun x H1=>tb Z H1 fun y H2=>r x y H2 Q
noncomputable def tUn(r:V->Hp->VK->Prop)(ta:TE):TE:=fun Z H Q=>ta Z H fun x H1=>r x H1 Q
noncomputable def rI(C:Int->Int->Prop)(g:Int->Int->V):R2:=fun x y H Q=>∃ i j,x=.int i/\y=.int j/\C i j/\Q (g i j) H
noncomputable def rI0(g:Int->Int->V):R2:=fun x y H Q=>∃ i j,x=.int i/\y=.int j/\Q (g i j) H
noncomputable def rU(g:Int->V):V->Hp->VK->Prop:=fun x H Q=>∃ i,x=.int i/\Q (g i) H
section
variable {X:Cx}{a b c:Expr}{ta tb tc:TE}{pos:Pos}
theorem Zrn(ha:PE X a ta)(hb:PE X b tb){pins:List (Addr×Obj)}{s:Shared}{Z:St}{H:Hp}{R:V->V->Hp->Prop}(I:Inv X pins Z H s)
   (h:ta Z H fun x H1=>tb Z H1 fun y H2=>R x y H2) {Q:Value->Shared->Prop}{f:Value->Value->Sem Value}
   (hf:∀ v u s2 x y H2,Inv X pins Z H2 s2->RelV x v->RelV y u->R x y H2->wpAny (model X.prog X.w) X.A (f v u) Q X.xe s2) :
   wpAny (model X.prog X.w) X.A (eval a X.env) (fun v s₁=>wpAny (model X.prog X.w) X.A (eval b X.env) (fun u s₂=>wpAny (model X.prog X.w) X.A (f v u) Q X.xe s₂) X.xe s₁) X.xe s:=by
 refine thn (ha pins s Z H _ I h) fun v s1 ⟨x,H1,I1,r1,q1⟩=>?_;refine thn (hb pins s1 Z H1 _ I1 q1) fun u s2 ⟨y,H2,I2,r2,q2⟩=>?_;exact hf v u s2 x y H2 I2 r1 r2 q2
theorem Zsv{op:Operator}{r:R2}(ho:OpR X (binaryOp op) r)(ha:PE X a ta)(hb:PE X b tb):PE X (.BinOp a op b pos) (tOp r ta tb):=by
 intro pins s Z H Q I h;exact wpAny_BinOp (Zrn ha hb I h fun v u s2 x y H2 I2 rx ry q=>ho pins s2 Z H2 x y v u Q I2 rx ry q)
theorem Zst{op:UnaryOp}{r:V->Hp->VK->Prop}(ho:UnR X (unaryOp op) r)(ha:PE X a ta):PE X (.UnaryOp op a pos) (tUn r ta):=by
 intro pins s Z H Q I h;exact UnaryOp_ (thn (ha pins s Z H _ I h) fun v s1 ⟨x,H1,I1,r1,q1⟩=>ho pins s1 Z H1 x v Q I1 r1 q1)
theorem opI{f:Value->Value->Sem Value}{C:Int->Int->Prop}{g:Int->Int->Int}
   (rule:∀ (i j:Int) (t u:Tok) (s:Shared) (Q:Value->Shared->Prop) (E:Value->Shared->Prop),C i j->Q (.int (g i j) s.toks) {s with toks:=s.toks+1}->wpAny (model X.prog X.w) X.A (f (.int i t) (.int j u)) Q E s) :
   OpR X f (rI C fun i j=>.int (g i j)):=by
 intro pins s Z H x y v u Q I rx ry h;obtain ⟨i,j,rfl,rfl,hc,q⟩:=h;obtain ⟨t,rfl⟩:=rx;obtain ⟨t',rfl⟩:=ry;exact rule i j t t' s _ _ hc ⟨.int (g i j),H,I.tok _,⟨_,rfl⟩,q⟩
theorem ZsI{g:Int->Int->Int}
   (rule:∀ (i j:Int) (t u:Tok) (s:Shared) (Q:Value->Shared->Prop) (E:Value->Shared->Prop),Q (.int (g i j) s.toks) {s with toks:=s.toks+1}->wpAny (model X.prog X.w) X.A (f (.int i t) (.int j u)) Q E s) :
   OpR X f (rI0 fun i j=>.int (g i j)):=by
 intro pins s Z H x y v u Q I rx ry h;obtain ⟨i,j,rfl,rfl,q⟩:=h;obtain ⟨t,rfl⟩:=rx;obtain ⟨t',rfl⟩:=ry;exact rule i j t t' s _ _ ⟨.int (g i j),H,I.tok _,⟨_,rfl⟩,q⟩
theorem Zn0{g:Int->Int->Bool}
   (rule:∀ (i j:Int) (t u:Tok) (s:Shared) (Q:Value->Shared->Prop) (E:Value->Shared->Prop),Q (.bool (g i j)) s->wpAny (model X.prog X.w) X.A (f (.int i t) (.int j u)) Q E s) :
   OpR X f (rI0 fun i j=>.bl (g i j)):=by
 intro pins s Z H x y v u Q I rx ry h;obtain ⟨i,j,rfl,rfl,q⟩:=h;obtain ⟨t,rfl⟩:=rx;obtain ⟨t',rfl⟩:=ry;exact rule i j t t' s _ _ ⟨.bl (g i j),H,I,rfl,q⟩
noncomputable def ZuQ(i j:Int):Prop:=0<j/\j<1073741824
noncomputable def ZuP(i j:Int):Prop:=0<=j/\j<=1000000/\i.natAbs<2 ^ 64
theorem Zqr:OpR X (binaryOp .Add) (rI0 fun i j=>.int (i+j)):=ZsI fun _ _ _ _ _ _ _ q=>add_int q
theorem Zql:OpR X (binaryOp .Sub) (rI0 fun i j=>.int (i - j)):=ZsI fun _ _ _ _ _ _ _ q=>sub_int q
theorem ZnP:OpR X (binaryOp .FloorDiv) (rI ZuQ fun i j=>.int (i / j)):=opI fun i j _ _ _ _ _ hc q=>by
 have h1:(0:Int)<j:=hc.1;have h2:j<1073741824:=hc.2;exact floordiv_int (by lia) (by rw [Int.fdiv_eq_ediv_of_nonneg i (by lia)];exact q) (.inl (PyProof.noPylong_small (by lia)))
theorem Zqn:OpR X (binaryOp .Mod) (rI (fun _ j=>0<j) fun i j=>.int (i % j)):=opI fun i j _ _ _ _ _ hc q=>by
 have h1:(0:Int)<j:=hc;exact mod_int' (by lia) (by rw [Int.fmod_eq_emod_of_nonneg i (by lia)];exact q)
theorem Zqm:OpR X (binaryOp .Pow) (rI ZuP fun i j=>.int (i ^ j.toNat)):=opI fun _ _ _ _ _ _ _ hc q=>pow_int_small hc.1 hc.2.1 hc.2.2 q
theorem unI{g:Int->Int}
   (rule:∀ (i:Int) (t:Tok) (s:Shared) (Q:Value->Shared->Prop) (E:Value->Shared->Prop),Q (.int (g i) s.toks) {s with toks:=s.toks+1}->wpAny (model X.prog X.w) X.A (f (.int i t)) Q E s) :
   UnR X f (rU fun i=>.int (g i)):=by
 intro pins s Z H x v Q I rx h;obtain ⟨i,rfl,q⟩:=h;obtain ⟨t,rfl⟩:=rx;exact rule i t s _ _ ⟨.int (g i),H,I.tok _,⟨_,rfl⟩,q⟩
theorem ZpB:UnR X (unaryOp .USub) (rU fun i=>.int (-i)):=unI fun _ _ _ _ _ q=>neg_int q
end
section
variable {X:Cx}{a b c:Expr}{ta tb tc:TE}{pos:Pos}
theorem Zmg(I:Inv X pins Z H s)(q:Q (.bl k) H)(e:k=k'):EP X pins Z Q (.bool k') s:=by
 subst e;exact ⟨.bl k,H,I,rfl,q⟩
theorem ZsB:OpR X (compareOp .Lt) (rI0 fun i j=>.bl (decide (i<j))):=Zn0 fun _ _ _ _ _ _ _ q=>lt_int q
theorem ZsC:OpR X (compareOp .LtE) (rI0 fun i j=>.bl (decide (i<=j))):=Zn0 fun _ _ _ _ _ _ _ q=>le_int q
theorem ZsD:OpR X (compareOp .Gt) (rI0 fun i j=>.bl (decide (j<i))):=Zn0 fun _ _ _ _ _ _ _ q=>gt_int q
theorem ZsE:OpR X (compareOp .GtE) (rI0 fun i j=>.bl (decide (j<=i))):=Zn0 fun _ _ _ _ _ _ _ q=>ge_int q
theorem Zqo:OpR X (compareOp .Is) (fun x y H Q=>y=.non/\Q (.bl (decide (x=.non))) H):=by
 intro pins s Z H x y v u Q I rx ry h;obtain ⟨rfl,q⟩:=h;cases ry;refine is_none_gen (Zmg I q ?_);cases x<;>first
   | (cases rx;rfl)
   | (obtain ⟨t,rfl⟩:=rx;rfl)
theorem ZnN:OpR X (compareOp .IsNot) (fun x y H Q=>y=.non/\Q (.bl (!decide (x=.non))) H):=by
 intro pins s Z H x y v u Q I rx ry h;obtain ⟨rfl,q⟩:=h;cases ry;refine isnot_none_gen (Zmg I q ?_);cases x<;>first
   | (cases rx;rfl)
   | (obtain ⟨t,rfl⟩:=rx;rfl)
theorem ZnJ{op:CmpOp}{r:R2}(ho:OpR X (compareOp op) r)(ha:PE X a ta)(hb:PE X b tb)(hm:behindInMarks op b=false):PE X (.Compare a [op] [b] pos) (tOp r ta tb):=by
 intro pins s Z H Q I h;exact wpAny_Compare1 (Zrn ha hb I h fun v u s2 x y H2 I2 rx ry q=>ho pins s2 Z H2 x y v u Q I2 rx ry q) hm
noncomputable def ZrW(t:TE):TT:=fun Z H Q=>t Z H fun x H'=>∃ k,x=.bl k/\Q k H'
theorem Znr{op:CmpOp}{r:R2}(ho:OpR X (compareOp op) r)(ha:PE X a ta)(hb:PE X b tb)(hm:behindInMarks op b=false):PT X (.Compare a [op] [b] pos) (ZrW (tOp r ta tb)):=by
 intro pins s Z H Q I h;refine wpAny_isTrue_Compare1 (thn (ha pins s Z H _ I h) fun v s1 ⟨x,H1,I1,r1,q1⟩=>thn (hb pins s1 Z H1 _ I1 q1) fun u s2 ⟨y,H2,I2,r2,q2⟩ =>
   thn (ho pins s2 Z H2 x y v u _ I2 r1 r2 q2) fun c s3 ⟨z,H3,I3,r3,k,e,q3⟩=>?_) hm
 subst e;cases r3;exact wpAny_truthy_bool ⟨H3,I3,q3⟩
noncomputable def Zrs(K:PySem.W.Frag)(x:V)(H:Hp)(k:Bool):Prop :=
 match x with
 | .non=>k=false
 | .bl b=>k=b
 | .int i=>k=(i != 0)
 | .str y=>y.length<=sizeLine/\k=((y.length:Int) != 0)
 | .byt y=>y.size<=sizeLine/\k=((y.size:Int) != 0)
 | .ref p=>(∃ xs,SqL K H p xs/\k=!xs.isEmpty)\/(∃ xs,SqT K H p xs/\k=!xs.isEmpty)\/∃ kvs,H p=some (.dK kvs)/\k=!kvs.isEmpty
 | _=>False
theorem Zia(r:KV kvs vs):(!vs.isEmpty)=!kvs.isEmpty:=by
 cases r<;>rfl
theorem ZeL(r:Zj xs its):(!its.toArray.isEmpty)=!xs.isEmpty:=by
 cases r<;>simp
theorem ZbC:(sizeLine:Nat)<2 ^ 63:=by rw [sizeLine_eq];decide
theorem ZpE:ZuO X (fun x H Q=>∃ k,Zrs X.K x H k/\Q k H):=by
 intro pins s Z H x v Q I rx h;obtain ⟨k,e,q⟩:=h;have hl:=ZbC;have hs:sizeLine=16777216:=sizeLine_eq;cases x with
 | non =>
   cases rx;have e':k=false:=e;subst e';exact truthy_none ⟨H,I,q⟩
 | bl b =>
   cases rx;have e':k=b:=e;subst e';exact wpAny_truthy_bool ⟨H,I,q⟩
 | int i =>
   obtain ⟨t,rfl⟩:=rx;have e':k=(i != 0):=e;subst e';exact PySem.P.truthy_int ⟨H,I,q⟩
 | str y =>
   obtain ⟨t,rfl⟩:=rx;obtain ⟨hy,e'⟩:y.length<=sizeLine/\k=((y.length:Int) != 0):=e;subst e';exact PySem.P.truthy_str (by lia) ⟨H,I.tok _,q⟩
 | byt y =>
   obtain ⟨t,rfl⟩:=rx;obtain ⟨hy,e'⟩:y.size<=sizeLine/\k=((y.size:Int) != 0):=e;subst e';exact PySem.W.truthy_bytes (by lia) ⟨H,I.tok _,q⟩
 | ref p =>
   cases rx;have e':(∃ xs,SqL X.K H p xs/\k=!xs.isEmpty)\/(∃ xs,SqT X.K H p xs/\k=!xs.isEmpty)\/∃ kvs,H p=some (.dK kvs)/\k=!kvs.isEmpty:=e;rcases e' with ⟨xs,hx,e'⟩|⟨xs,hx,e'⟩|⟨kvs,hx,e'⟩
   . subst e';obtain ⟨its,r,pl,hz⟩:=I.list hx;have hlen:=r.length;exact wpAny_truthy_list pl.isList (by simp only [Of];lia) ⟨H,I.tok _,by rw [ZeL r];exact q⟩
   . subst e';obtain ⟨its,r,pl,hz⟩:=I.tuple hx;have hlen:=r.length;exact truthy_tuple pl (by simp only [Of];lia) ⟨H,I.tok _,by rw [ZeL r];exact q⟩
   . subst e';obtain ⟨hz,hS,vs,r,m⟩:kvs.length<=sizeLine/\(p==sysModules)=false/\∃ vs,KV kvs vs/\s.heap.DictOf (ZD X.prog X.w) p vs:=I.hok p _ hx;have hlen:kvs.length=vs.length:=Paired.length r;exact wpAny_truthy_dict hS m (by lia) ⟨H,I.tok _,by rw [Zia r];exact q⟩
 | _=>exact (show False from e).elim
theorem Zlj(ha:PE X a ta)(he:∀ whole,isTrue a X.env whole=(do let v <- whole;standAt a.pos;holding [v] (truthy v))) :
   PT X a (fun Z H Q=>ta Z H fun x H'=>∃ k,Zrs X.K x H' k/\Q k H'):=by
 intro pins s Z H Q I h;exact isTrue_plain (thn (ha pins s Z H _ I h) fun v s1 ⟨x,H1,I1,r1,q1⟩=>ZpE pins s1 Z H1 x v Q I1 r1 q1) (he _)
theorem ZhT:OpR X (binaryOp .Add) (fun x y H Q=>∃ i j,x=.str i/\y=.str j/\i.length+j.length<=sizeLine/\Q (.str (i++j)) H):=by
 intro pins s Z H x y v u Q I rx ry h;obtain ⟨i,j,rfl,rfl,hz,q⟩:=h;obtain ⟨t,rfl⟩:=rx;obtain ⟨t',rfl⟩:=ry;exact add_str (fun t' tk=>⟨.str (i++j),H,I.tok _,⟨_,rfl⟩,q⟩) hz
theorem vals1{x:V}{us:List Value}(r:Zj [x] us):∃ u,us=[u]/\RelV x u:=by
 cases r with
 | cons r1 r2=>cases r2;exact ⟨_,rfl,r1⟩
theorem vals2{x y:V}{us:List Value}(r:Zj [x,y] us):∃ u w',us=[u,w']/\RelV x u/\RelV y w':=by
 cases r with
 | cons r1 r2 =>
   cases r2 with
   | cons r3 r4=>cases r4;exact ⟨_,_,rfl,r1,r3⟩
end
end L2
namespace L2
open PySem PySem.Spec PyProof.Rows
structure ObjM(h:Heap)(x dx C:Addr)(mA:Str->Option Value):Prop where
 obj:h.get? x=some (PySem.W.instObj C dx)
 ns:h.Ns1 dx mA
 ne:dx≠x
theorem Zku{h:Heap}(n:h.Ns1 dx mA):∃ od,h.get? dx=some od/\∀ name,PySem.W.lookIn name od=some (mA name):=by
 obtain ⟨o,es,ep,ho,hd,hk,_,hm⟩:=n;refine ⟨o,ho,fun name=>?_⟩;have e:=hm name;unfold nsFind findBy at e;rw [<- Array.find?_toList] at e;unfold PySem.W.lookIn;rw [hd];dsimp only;split
 . rename_i y q;rw [q] at e;exact congrArg some e
 . rename_i q;rw [q] at e;have a:es.toList.any (·.refKey)=false:=by
     rw [List.any_eq_false];intro y hy;obtain ⟨z,t,hkey⟩:=hk y (Array.mem_toList_iff.mp hy);simp [DictEntry.refKey,hkey]
   have a':¬ es.toList.any (·.refKey)=true:=by rw [a];exact Ow
   rw [if_neg a'];exact congrArg some e
theorem ObjM.look(I:ObjM h x dx C mA):∃ od,PySem.W.InstAt h x (PySem.W.instObj C dx) C (some od)/\∀ name,PySem.W.lookIn name od=some (mA name) :=
 let ⟨od,ho,hl⟩:=Zku I.ns
 ⟨od,⟨I.obj,rfl,rfl,ho⟩,hl⟩
section
variable {prog:Program}{w:World}{A:Around}{E:Value->Shared->Prop}{s:Shared}{K:PySem.W.Frag}{x dx C f:Addr}{mA:Str->Option Value}{name:Str}{v:Value}
theorem Zol(X:K.In s.heap)(I:ObjM s.heap x dx C mA)(hg:PySem.W.plainGet K C name=true)(hh:PySem.W.hasDictIn K C=true)
   (ha:PySem.W.findIn K (.ref C) name=some none) (hv:mA name=some v) (hv':PySem.W.handedIn v=true) (h:Q v {s with toks:=s.toks+1}) :
   wpAny (model prog w) A (getAttr (.ref x) name expr) Q E s:=by
 obtain ⟨od,J,hl⟩:=I.look;exact PySem.W.get_value X J (PySem.W.plainGet_of hg).1 (PySem.W.findObj_own hh ha rfl (by rw [hl,hv])) hv' h
theorem Zmd(X:K.In s.heap)(I:ObjM s.heap x dx C mA)(hg:PySem.W.plainGet K C name=true)
   (hf:PySem.W.findIn K (.ref C) name=some (some (.ref f))) (ht:PySem.W.isFn K (.ref f)=true) (hv:mA name=none) (h:Q (.ref f,[.ref x]) s) :
   wpAny (model prog w) A (getMethod (.ref x) name pl) Q E s:=by
 obtain ⟨od,J,hl⟩:=I.look;exact PySem.W.method_fn X J (PySem.W.plainGet_of hg).1 (PySem.W.plainGet_of hg).2 hf (beq_iff_eq.mp ht) (by show (PySem.W.lookIn name od).map (·.isSome)=some false;rw [hl,hv];rfl) h
theorem Znb(X:K.In s.heap)(I:ObjM s.heap x dx C mA)
   (hs:PySem.W.findIn K (.ref C) "__setattr__" = some (some (.builtin "object.__setattr__"))) (hp:PySem.W.plainOver K C=true) (ht:PySem.W.takerIn K C name=some none) (hh:PySem.W.hasDictIn K C=true)
   (hw:PySem.Within mA ns) (hsz:ns.length<=sizeLine)
   (h:∀ h',ObjM h' x dx C (fun y=>if y=name then some v else mA y)->Heap.SameBut dx s.heap h'->Q () {s with heap:=h',toks:=s.toks+2}) :
   wpAny (model prog w) A (setAttr (.ref x) name v) Q E s:=by
 obtain ⟨od,J,hl⟩:=I.look;refine PySem.W.set_plain X J hs (PySem.W.osa_open (s:={s with toks:=s.toks+1}) (r:=none) X J hp ht fun b=>?_);obtain ⟨cd,hc,hd'⟩:=PySem.W.any_some hh;have hx:s.heap.get? x=some ⟨.ref C,some dx,.plain,#[]⟩:=I.obj;refine wpAny_bind (wpAny_pure (wpAny_bind (wpAny_bind (wpAny_loadPart hx (wpAny_bind (PySem.W.Looks.here (s:={s with toks:=s.toks+1}) (PySem.W.looks_clsIn X hc) ?_))))));rw [hd'];refine wpAny_pure (a:=some dx) (wpAny_bind (wpAny_pure (wpAny_bind ?_)));refine wpAny_nsSet1 (s:={s with toks:=s.toks+1}) I.ns fun h' hn2 hs2=>?_;obtain ⟨oD,esD,epD,hoD,hdD,hcD⟩:=hn2.count (PySem.Within.cons name v hw);refine wpAny_bind (wpAny_lookBehind hoD (by rw [hdD];exact pastItsLine_dict (OE hcD (by rw [Os];lia))) ?_);exact wpAny_pure (h _ ⟨(hs2.2 _ (Ne.symm I.ne)).trans I.obj,hn2,I.ne⟩ hs2)
theorem ZlT(X:K.In s.heap)(hm:PySem.W.makesIn K C=true)
   (hi:PySem.W.findIn K (.ref C) "__init__" = some (some (.ref f))) (hf:PySem.W.typeIn K (.ref f)=some (.type "function"))
   (h:codeAny (model prog w) (A.under (.builtin "type.__call__" ⟨.ref C::vs,kw⟩)) (.call (.ref f) ⟨.ref (s.heap.objs.size+1)::vs,kw⟩) (PySem.W.InitBack (s.heap.objs.size+1) R)
     {s with heap:=(s.heap.push PySem.W.emptyDict).push (PySem.W.instObj C s.heap.objs.size)}) :
   codeAny (model prog w) A (.call (.ref C) ⟨vs,kw⟩) R s:=by
 obtain ⟨hh,g,d,t,os⟩:=s;exact PySem.W.make_core (PySem.W.makes_of X hm) (PySem.W.looks_findIn X hi) (fun self=>PySem.W.bind_fn X self hf) (.inl rfl) h
end
noncomputable def Zbh(f:Str)(v:V):List (Str×V)->List (Str×V)
 | []=>[(f,v)]
 | (g,x)::r=>if g=f then (g,v)::r else (g,x)::Zbh f v r
theorem ZdX(f g:Str)(v:V):∀ fs:List (Str×V),(Zbh f v fs).lookup g=if g=f then some v else fs.lookup g
 | []=>by
   show List.lookup g [(f,v)]=_;by_cases h:g=f
   . have hb:(g==f)=true:=beq_iff_eq.mpr h;simp only [List.lookup,hb,if_pos h]
   . have hb:(g==f)=false:=beq_eq_false_iff_ne.mpr h;simp only [List.lookup,hb,if_neg h]
 | (k,x)::r=>by
   have ih:=ZdX f g v r;rw [show Zbh f v ((k,x)::r)=(if k=f then (k,v)::r else (k,x)::Zbh f v r) from rfl];by_cases hk:k=f
   . rw [if_pos hk];by_cases h:g=k
     . have hb:(g==k)=true:=beq_iff_eq.mpr h;simp only [List.lookup,hb,if_pos (h.trans hk)]
     . have hb:(g==k)=false:=beq_eq_false_iff_ne.mpr h;simp only [List.lookup,hb,if_neg (fun e:g=f=>h (e.trans hk.symm))]
   . rw [if_neg hk];by_cases h:g=k
     . have hb:(g==k)=true:=beq_iff_eq.mpr h;simp only [List.lookup,hb,if_neg (fun e:g=f=>hk (h.symm.trans e))]
     . have hb:(g==k)=false:=beq_eq_false_iff_ne.mpr h;simp only [List.lookup,hb];exact ih
theorem ZdL(f:Str)(v:V):∀ fs:List (Str×V),f∈(Zbh f v fs).map (·.1)/\∀ g,g∈fs.map (·.1)->g∈(Zbh f v fs).map (·.1)
 | []=>⟨by simp [Zbh],fun g h=>by simp at h⟩
 | (k,x)::r=>by
   obtain ⟨i1,i2⟩:=ZdL f v r;rw [show Zbh f v ((k,x)::r)=(if k=f then (k,v)::r else (k,x)::Zbh f v r) from rfl];by_cases hk:k=f
   . rw [if_pos hk];subst hk;exact ⟨by simp,fun g h=>by simpa using h⟩
   . rw [if_neg hk];refine ⟨?_,fun g h=>?_⟩
     . rw [Op];exact Oh _ i1
     . rw [Op] at h ⊢;rcases O2.mp h with e|e
       . exact O2.mpr (.inl e)
       . exact Oh _ (i2 g e)
theorem ZdZ(f:Str)(v:V):∀ fs:List (Str×V),(Zbh f v fs).length<=fs.length+1
 | []=>by simp [Zbh]
 | (k,x)::r=>by
   have ih:=ZdZ f v r;rw [show Zbh f v ((k,x)::r)=(if k=f then (k,v)::r else (k,x)::Zbh f v r) from rfl];by_cases hk:k=f
   . rw [if_pos hk,Os,Os];lia
   . rw [if_neg hk,Os,Os];lia
theorem ZdD.some_of(r:ZdD (some v) o):∃ u,o=some u/\RelV v u:=by
 cases o with
 | none=>exact (show False from r).elim
 | some u=>exact ⟨u,rfl,r⟩
theorem ZdD.none_of(r:ZdD none o):o=none:=by
 cases o with
 | none=>rfl
 | some u=>exact (show False from r).elim
theorem Zkz(r:RelV v u):PySem.W.handedIn u=true:=by
 cases v with
 | non=>cases (show u=Value.none from r);rfl
 | bl b=>cases (show u=Value.bool b from r);rfl
 | int i=>obtain ⟨t,e⟩:=(show ∃ t,u=Value.int i t from r);cases e;rfl
 | str x=>obtain ⟨t,e⟩:=(show ∃ t,u=Value.str x t from r);cases e;rfl
 | byt b=>obtain ⟨t,e⟩:=(show ∃ t,u=Value.bytes b t from r);cases e;rfl
 | flt b=>obtain ⟨t,e⟩:=(show ∃ t,u=Value.float b t from r);cases e;rfl
 | ref a=>cases (show u=Value.ref a from r);rfl
 | ty n=>cases (show u=Value.type n from r);rfl
section
variable {P:Program}{w:World}{H H':Hp}{h h':Heap}{a C dx:Addr}{fs fs':List (Str×V)}
theorem Zge(hok:HOk P w H h)(e:H a=some (.ins C dx fs)):∃ mA,ObjM h a dx C mA/\(∀ f,ZdD (fs.lookup f) (mA f))/\PySem.Within mA (fs.map (·.1))/\fs.length<=1000/\H dx=some (.own a):=by
 obtain ⟨d,z,ne,ob,mA,n,r,q⟩:=(show Z4 P w H h a (.ins C dx fs) from hok a _ e)
 exact ⟨mA,⟨ob,n,ne⟩,r,q,z,d⟩
end
structure Cls(K:PySem.W.Frag)(C:Addr):Prop where
 pg:PySem.W.plainGet K C Str.empty=true
 hd:PySem.W.hasDictIn K C=true
 po:PySem.W.plainOver K C=true
 sa:PySem.W.findIn K (.ref C) "__setattr__" = some (some (.builtin "object.__setattr__"))
theorem Cls.get{K:PySem.W.Frag}(c:Cls K C)(f:Str):PySem.W.plainGet K C f=true:=c.pg
noncomputable def Zat(K:PySem.W.Frag)(C:Addr)(f:Str):Prop:=PySem.W.findIn K (.ref C) f=some none
theorem Zat.taker{K:PySem.W.Frag}(n:Zat K C f):PySem.W.takerIn K C f=some none:=by
 unfold PySem.W.takerIn;rw [show PySem.W.findIn K (.ref C) f=some none from n];rfl
structure Meth(K:PySem.W.Frag)(C:Addr)(m:Str)(f:Addr):Prop where
 at_:PySem.W.findIn K (.ref C) m=some (some (.ref f))
 fn:PySem.W.isFn K (.ref f)=true
 kp:PySem.W.keepIn K (.ref f)=true
section
variable {X:Cx}{pins:List (Addr×Obj)}{Z:St}{H:Hp}{s:Shared}{a C dx:Addr}{fs:List (Str×V)}{f:Str}{v:V}{A:Around}{E:Value->Shared->Prop}
theorem ZeQ(I:Inv X pins Z H s)(e:H a=some (.ins C dx fs))(c:Cls X.K C)(n:Zat X.K C f)(l:fs.lookup f=some v)
   (h:∀ u s',Inv X pins Z H s'->RelV v u->Q u s'):wpAny (model X.prog X.w) A (getAttr (.ref a) f b) Q E s:=by
 obtain ⟨mA,O_,r,_,_,_⟩:=Zge I.hok e;obtain ⟨u,hu,ru⟩:=ZdD.some_of (v:=v) (o:=mA f) (by rw [<- l];exact r f);exact Zol I.kIn O_ (c.get f) c.hd n hu (Zkz ru) (h u _ (I.tok _) ru)
theorem ZeP(I:Inv X pins Z H s)(e:H a=some (.ins C dx fs))(c:Cls X.K C)(k:Meth X.K C m g)(l:fs.lookup m=none)
   (h:Q (.ref g,[.ref a]) s):wpAny (model X.prog X.w) A (getMethod (.ref a) m pl) Q E s:=by
 obtain ⟨mA,O_,r,_,_,_⟩:=Zge I.hok e;have hn:mA m=none:=ZdD.none_of (by rw [<- l];exact r m);exact Zmd I.kIn O_ (c.get m) k.at_ k.fn hn h
theorem Zeu(I:Inv X pins Z H s)(e:H a=some (.ins C dx fs))(c:Cls X.K C)(n:Zat X.K C f)(hl:fs.length<1000)(ry:RelV y u)
   (h:∀ s',Inv X pins Z (upd H a (.ins C dx (Zbh f y fs))) s'->Q () s'):wpAny (model X.prog X.w) A (setAttr (.ref a) f u) Q E s:=by
 obtain ⟨mA,O_,r,wi,_,ho⟩:=Zge I.hok e;have hz:(fs.map (·.1)).length<=sizeLine:=by rw [List.length_map,sizeLine_eq];lia
 refine Znb I.kIn O_ c.sa c.po n.taker c.hd wi hz fun h' O' sb=>h _ ?_;have hd:∃ o,h'.get? dx=some o:=let ⟨o,_,_,e',_⟩:=O'.ns;⟨o,e'⟩;refine I.write (x:=a) (e:=dx) (by rw [e];exact True.intro) (.inr ho) (fun b q hb z=>(sb.2 b hb).trans z) hd ?_;refine ⟨by rw [Zh O_.ne];exact ho,?_,O_.ne,O'.obj,_,O'.ns,fun g=>?_,fun g hg=>?_⟩
 . have:=ZdZ f y fs;lia
 . show ZdD ((Zbh f y fs).lookup g) (if g=f then some u else mA g);rw [ZdX];by_cases q:g=f
   . rw [if_pos q,if_pos q];exact ry
   . rw [if_neg q,if_neg q];exact r g
 . by_cases q:g=f
   . rw [q];exact (ZdL f y fs).1
   . refine (ZdL f y fs).2 g (wi g fun z=>hg ?_);show (if g=f then some u else mA g)=none;rw [if_neg q];exact z
theorem Inv.made(I:Inv X pins Z H s):Inv X pins Z (upd (upd H s.heap.objs.size (.own (s.heap.objs.size+1))) (s.heap.objs.size+1) (.ins C s.heap.objs.size []))
   {s with heap:=(s.heap.push PySem.W.emptyDict).push (PySem.W.instObj C s.heap.objs.size)}:=by
 have e1:(s.heap.push PySem.W.emptyDict).get? s.heap.objs.size=some PySem.W.emptyDict:=Oj s.heap rfl;have e2:((s.heap.push PySem.W.emptyDict).push (PySem.W.instObj C s.heap.objs.size)).get? (s.heap.objs.size+1)=some (PySem.W.instObj C s.heap.objs.size):=by
   have:=Oj (s.heap.push PySem.W.emptyDict) (o:=PySem.W.instObj C s.heap.objs.size) rfl
   rwa [Heap.size_push] at this
 have e3:(s.heap.push PySem.W.emptyDict).Ns s.heap.objs.size (fun _=>none):=⟨PySem.W.emptyDict,#[],_,e1,rfl,(fun e he=>absurd he (by simp)),fun _=>rfl⟩
 have I1:=I.laid (a:=s.heap.objs.size) (o:=.own (s.heap.objs.size+1)) (h':=s.heap.push PySem.W.emptyDict) (t':=s.toks) (fun b u q=>Od _ q) (Oq _) ⟨_,e1⟩;refine I1.laid (a:=s.heap.objs.size+1) (o:=.ins C s.heap.objs.size []) (t':=s.toks) (fun b u q=>Od _ q) (Nat.le_of_eq (Heap.size_push _ _)) ?_;have ne:s.heap.objs.size≠s.heap.objs.size+1:=Ou (OH _);refine ⟨by rw [Zh ne,Zg],Nat.zero_le _,ne,e2,fun _=>none,(Heap.Ns1.of_empty e3).at fun o q=>Od _ q,fun _=>True.intro,fun y hy=>absurd rfl hy⟩
theorem ZoS(hb:attributeBase e f env (eval e env)=eval e env)
   (h:wpAny (model prog w) A (eval e env) (fun o s₁=>wpAny (model prog w) A (getAttr o f true) Q E s₁) E s):wpAny (model prog w) A (eval (.Attribute e f pos) env) Q E s :=
 Attribute_any_ h (by rw [arm_eval_Attribute,hb])
end
noncomputable def ZtZ(K:PySem.W.Frag)(ta:TE)(f:Str):TE:=fun Z H Q=>ta Z H fun x H1=>∃ a C dx fs v,x=.ref a/\H1 a=some (.ins C dx fs)/\Cls K C/\Zat K C f/\fs.lookup f=some v/\Q v H1
noncomputable def Zt7(K:PySem.W.Frag)(ta tv:TE)(f:Str):TS:=fun D Z H=>tv Z H fun y H1=>ta Z H1 fun x H2=>∃ a C dx fs,x=.ref a/\H2 a=some (.ins C dx fs)/\Cls K C/\Zat K C f/\fs.length<1000 /\
 D.nx Z (upd H2 a (.ins C dx (Zbh f y fs)))
noncomputable def ZtA(X:Cx)(op:Operator)(rd:V->V->Hp->VK->Prop):Prop :=
 ∀ (pins:List (Addr×Obj)) (s:Shared) (Z:St) (H:Hp) (x y:V) (u v:Value) (Q:VK),Inv X pins Z H s->RelV x u->RelV y v->rd x y H Q->wpAny (model X.prog X.w) X.A (inplaceOp op u v) (EP X pins Z Q) X.xe s
noncomputable def Zne(K:PySem.W.Frag)(ta tv:TE)(rd:V->V->Hp->VK->Prop)(f:Str):TS:=fun D Z H=>ta Z H fun x H1=>∃ a C dx fs v,x=.ref a/\H1 a=some (.ins C dx fs)/\Cls K C/\Zat K C f/\fs.lookup f=some v /\
 tv Z H1 fun y H2=>rd v y H2 fun z H3=>∃ dx' fs',H3 a=some (.ins C dx' fs')/\fs'.length<1000/\D.nx Z (upd H3 a (.ins C dx' (Zbh f z fs')))
section
variable {X:Cx}{o e value:Expr}{f:Str}{pos pos' tpos:Pos}{ta tv:TE}
theorem Zqh(he:PE X e ta)(hb:attributeBase e f X.env (eval e X.env)=eval e X.env):PE X (.Attribute e f pos) (ZtZ X.K ta f):=by
 intro pins s Z H Q I h;refine ZoS hb (thn (he pins s Z H _ I h) fun u s1 ⟨x,H1,I1,rx,a,C,dx,fs,v,ex,ea,c,n,l,q⟩=>?_);subst ex;obtain rfl:u=Value.ref a:=rx;exact ZeQ I1 ea c n l fun u' s2 I2 ru=>⟨v,H1,I2,ru,q⟩
theorem Zp3(ha:PE X o ta)(hv:PE X value tv)(hs:swapsWith value (some (.Attribute o f pos')) pos.line X.env=pure false):PS X (.Assign [.Attribute o f pos'] value pos) (Zt7 X.K ta tv f):=by
 intro pins s Z H D I h;refine plainObj_wpAny_Assign_Attribute (thn (hv pins s Z H _ I h) fun u s1 ⟨y,H1,I1,ry,q⟩=>thn (ha pins s1 Z H1 _ I1 q) fun ov s2 ⟨x,H2,I2,rx,a,C,dx,fs,ex,ea,c,n,l,q2⟩=>?_) hs;subst ex;obtain rfl:ov=Value.ref a:=rx;exact Zeu I2 ea c n l ry fun s3 I3=>⟨Z,_,I3,q2⟩
theorem Zke(ha:PE X o ta)(hv:PE X value tv)(hop:ZtA X op rd):PS X (.AugAssign (.Attribute o f tpos) op value pos) (Zne X.K ta tv rd f):=by
 intro pins s Z H D I h;refine wpAny_AugAssign_AttributeAny (thn (ha pins s Z H _ I h) fun ov s1 ⟨x,H1,I1,rx,a,C,dx,fs,v,ex,ea,c,n,l,q⟩=>?_);subst ex;obtain rfl:ov=Value.ref a:=rx;refine ZeQ I1 ea c n l fun u s2 I2 ru=>thn (hv pins s2 Z H1 _ I2 q) fun w3 s3 ⟨y,H2,I3,ry,q3⟩=>thn (hop pins s3 Z H2 v y u w3 _ I3 ru ry q3) fun w4 s4 ⟨z,H3,I4,rz,dx',fs',ea',l',q4⟩=>?_;exact Zeu I4 ea' c n l' rz fun s5 I5=>⟨Z,_,I5,q4⟩
noncomputable def Zsm:V->V->Hp->VK->Prop:=fun x y H Q=>∃ i j,x=.int i/\y=.int j/\Q (.int (i+j)) H
theorem ZqW:ZtA X .Add Zsm:=by
 rintro pins s Z H x y u v Q I rx ry ⟨i,j,rfl,rfl,q⟩;obtain ⟨t,rfl⟩:=(show ∃ t,u=Value.int i t from rx)
 obtain ⟨t',rfl⟩:=(show ∃ t',v=Value.int j t' from ry)
 exact PyProof.Rows.iadd_int ⟨.int (i+j),H,I.tok _,⟨_,rfl⟩,q⟩
end
end L2
namespace L2
open PySem PySem.Spec PyProof.Rows
structure Room(k:Nat)(A:Around):Prop where
 hd:A.handled=none
 dp:A.depth+k+5<recursionLimit
 un:A.units+4 * k+1300<cLine
 gd:A.guards=some []
theorem Room.mono(r:Room k A)(h:j<=k):Room j A:=⟨r.hd,by have:=r.dp;lia,by have:=r.un;lia,r.gd⟩
theorem Room.deeper(r:Room (k+1) A)(env:Env):Room k (A.deeper env) :=
 ⟨r.hd,by have:=r.dp;show A.depth+1+k+5<_;lia,by have:=r.un;show A.units+3+4 * k+1300<_;lia,r.gd⟩
theorem Zh2 {A:Around}:(A.under (.builtin "type.__call__" ⟨.ref C::us,kw⟩)).depth=A.depth+1:=by
 first|rfl|simp [Around.under,Code.weight,Code.isCreation,Code.isGuard,Code.isCaller,Code.frames,Code.isFrame,guardIds]
theorem Zh1 {A:Around}:(A.under (.builtin "type.__call__" ⟨.ref C::us,kw⟩)).units=A.units+1:=by
 first|rfl|simp [Around.under,Code.cUnits,Code.frames,Code.isFrame]
theorem Room.make (r:Room (k+1) A) (C:Addr) (us:List Value) (kw:List (Str×Value)):Room k (A.under (.builtin "type.__call__" ⟨.ref C::us,kw⟩)) :=
 ⟨r.hd,by have:=r.dp;rw [Zh2];lia,by have:=r.un;rw [Zh1];lia,by first|exact r.gd|simpa [Around.under,Code.weight,Code.isCreation,Code.isGuard,Code.isCaller,Code.frames,Code.isFrame,guardIds] using r.gd⟩
theorem Room.depth(r:Room k A):A.depth<recursionLimit:=by have:=r.dp;lia
noncomputable def ZpI:TA:=fun _ H Q=>Q [] H
noncomputable def Zr3(ta:TE)(tr:TA):TA:=fun Z H Q=>ta Z H fun x H1=>tr Z H1 fun xs H2=>Q (x::xs) H2
section
variable {X:Cx}{e:Expr}{es:List Expr}{te:TE}{t:TA}{pos:Pos}
theorem ZdH:PA X [] ZpI:=fun _ _ _ _ H Q I h=>Calls.spliced_nil ⟨[],H,I,.nil,h⟩
theorem ZbA(ha:PE X e te)(hr:PA X es t)(hs:starEach (e::es) X.env=(false,eval e X.env)::starEach es X.env:=by rfl):PA X (e::es) (Zr3 te t):=by
 intro pos pins s Z H Q I h;rw [hs];show wpAny _ _ (spliced ((false,eval e X.env)::backTo pos (starEach es X.env))) _ _ s;refine Calls.spliced_cons (thn (ha pins s Z H _ I h) fun u s1 ⟨x,H1,I1,r1,q1⟩=>?_);exact thn (hr pos pins s1 Z H1 _ I1 q1) fun us s2 ⟨xs,H2,I2,r2,q2⟩=>⟨x::xs,H2,I2,.cons r1 r2,q2⟩
noncomputable def ZtQ(t:TA):TE:=fun Z H Q=>t Z H fun xs H1=>xs.length<=sizeLine/\∀ p,H1 p=none->Q (.ref p) (upd H1 p (.tup xs))
noncomputable def ZtV(t:TA):TE:=fun Z H Q=>t Z H fun xs H1=>xs.length<=sizeLine/\∀ p,H1 p=none->Q (.ref p) (upd H1 p (.lst xs))
theorem Zqb{x1}(h:PA X es t):PE X (.Tuple es x1 pos) (ZtQ t):=by
 intro pins s Z H Q I hq;refine wpAny_Tuple_spliced (thn (h pos pins s Z H _ I hq) fun us s1 ⟨xs,H1,I1,r,z,q⟩=>⟨by rw [<- r.length];exact z,?_⟩);have hf:H1 s1.heap.objs.size=none:=I1.hok.fresh (Oq _);refine ⟨.ref s1.heap.objs.size,upd H1 s1.heap.objs.size (.tup xs),I1.laid (t':=s1.toks) (fun b u e=>Od _ e) (Oq _) ?_,rfl,q _ hf⟩;exact ⟨z,us,r,⟨_,Oj _ rfl,rfl,rfl,_,rfl⟩⟩
theorem Zqf(h:PA X es t):PE X (.List es pos) (ZtV t):=by
 intro pins s Z H Q I hq;refine wpAny_List_spliced (thn (h pos pins s Z H _ I hq) fun us s1 ⟨xs,H1,I1,r,z,q⟩=>⟨by rw [<- r.length];exact z,?_⟩);have hf:H1 s1.heap.objs.size=none:=I1.hok.fresh (Oq _);refine ⟨.ref s1.heap.objs.size,upd H1 s1.heap.objs.size (.lst xs),I1.laid (t':=s1.toks) (fun b u e=>Od _ e) (Oq _) ?_,rfl,q _ hf⟩;exact ⟨z,us,0,r,Oj _ rfl⟩
end
noncomputable abbrev Sp:=List V->Hp->VK->XK->Prop
noncomputable abbrev CXT:=List Env->Hp->Shared->XK->Value->Shared->Prop
structure Env0(P:Program)(w:World)(K:PySem.W.Frag)(mg:Str->Option Value)(base:Heap)(A:Around)(outer:List Env)(s:Shared)(H:Hp):Prop where
 frames:A.frames=some outer
 mod:Mod K mg base
 bs:∀ b o,base.get? b=some o->s.heap.get? b=some o/\H b=none
 bsz:base.objs.size<=s.heap.objs.size
 funs:s.heap.FunFrames base outer
 frf:∀ b∈frs outer,H b=none
 hok:HOk P w H s.heap
 bare:AllBare s.gens
noncomputable def CE(outer:List Env)(P:Program)(w:World)(H:Hp)(s:Shared)(Q:VK)(u:Value)(s':Shared):Prop :=
 ∃ v H',s'.os=s.os/\AllBare s'.gens/\Un (frs outer) [] H H' s.heap s'.heap/\HOk P w H' s'.heap/\RelV v u/\Q v H'
noncomputable def CR(CX:CXT)(outer:List Env)(P:Program)(w:World)(H:Hp)(s:Shared)(Q:VK)(E:XK)(r:Result)(s':Shared):Prop :=
 match r with
 | .ok (.ret u)=>CE outer P w H s Q u s'
 | .ok _=>False
 | .error e=>CX outer H s E e s'
structure FnOk(P:Program)(w:World)(K:PySem.W.Frag)(mg:Str->Option Value)(base:Heap)(CX:CXT)(k:Nat)(f:Addr)(fd:FuncData)(ps:List Str)(sp:Sp):Prop where
 len:∀ vs H Q E,sp vs H Q E->vs.length=ps.length
 run:∀ (A:Around) (outer:List Env) (s:Shared) (H:Hp) (args:Args) (us:List Value) (vs:List V) (Q:VK) (E:XK),Room k A->Env0 P w K mg base A outer s H->BindsTo s fd args (ps.zip us)->Zj vs us->sp vs H Q E ->
   codeAny (model P w) A (.call (.ref f) args) (CR CX outer P w H s Q E) s
theorem FnOk.imp{P:Program}{w:World}{K:PySem.W.Frag}{mg:Str->Option Value}{base:Heap}{CX:CXT}{k:Nat}{f:Addr}{fd:FuncData}{ps:List Str}{sp sp':Sp}(F:FnOk P w K mg base CX k f fd ps sp)
   (h:∀ vs H Q E,sp' vs H Q E->sp vs H Q E):FnOk P w K mg base CX k f fd ps sp' :=
 ⟨fun vs H Q E q=>F.len vs H Q E (h _ _ _ _ q),fun A outer s H args us vs Q E hr he hb hv hs=>F.run A outer s H args us vs Q E hr he hb hv (h _ _ _ _ hs)⟩
theorem Env0.make{P:Program}{w:World}{K:PySem.W.Frag}{mg:Str->Option Value}{base:Heap}{A:Around}{outer:List Env}{s:Shared}{H:Hp}(e:Env0 P w K mg base A outer s H)(C:Addr)(us:List Value)(kw:List (Str×Value)) :
   Env0 P w K mg base (A.under (.builtin "type.__call__" ⟨.ref C::us,kw⟩)) outer s H:=⟨by first|exact e.frames|(simpa [Around.under,Code.envs,Code.isFrame,pushEnvs] using e.frames),e.mod,e.bs,e.bsz,e.funs,e.frf,e.hok,e.bare⟩
section
variable {X:Cx}{pins:List (Addr×Obj)}{Z:St}{H:Hp}{s s':Shared}
theorem Inv.env0(I:Inv X pins Z H s):Env0 X.prog X.w X.K X.mg X.base X.A X.stack s H :=
 ⟨I.ok.frames,I.ok.mod,I.bs,OE I.ok.bsz I.sz,I.stack,I.stkFree,I.hok,I.bare⟩
theorem Inv.after(I:Inv X pins Z H s)(h:CE X.stack X.prog X.w H s Q u s'):EP X pins Z Q u s':=by
 obtain ⟨v,H',os,bare,un,hok,r,q⟩:=h;obtain ⟨hh,g,d,t,os'⟩:=s';obtain rfl:os'=s.os:=os;exact ⟨v,H',I.call (h':=hh) (g':=g) (d':=d) (t':=t) (ch:=[]) un hok bare (fun b z=>absurd z (by simp)),r,q⟩
end
noncomputable def Zr4(sp:Sp)(dvs:List V)(E:XK)(t:TA):TE:=fun Z H Q=>t Z H fun vs H1=>sp (vs++dvs) H1 Q E
noncomputable def Zo5(C:Addr)(m:Str)(sp:Sp)(dvs:List V)(E:XK)(ta:TE)(t:TA):TE:=fun Z H Q=>ta Z H fun x H1=>∃ a dx fs,x=.ref a/\H1 a=some (.ins C dx fs)/\fs.lookup m=none /\
 t Z H1 fun vs H2=>sp (x::(vs++dvs)) H2 Q E
noncomputable def Zo6(C:Addr)(sp:Sp)(dvs:List V)(E:XK)(t:TA):TE:=fun Z H Q=>t Z H fun vs H1=>∀ x dx,H1 x=none->H1 dx=none->dx≠x ->
 sp (.ref x::(vs++dvs)) (upd (upd H1 dx (.own x)) x (.ins C dx [])) (fun v H2=>v=.non/\Q (.ref x) H2) E
noncomputable def Binds(K:PySem.W.Frag)(fd:FuncData)(ps:List Str)(ds:List Value):Prop :=
 ∀ (s:Shared) (us:List Value),K.In s.heap->(us++ds).length=ps.length->BindsTo s fd ⟨us,[]⟩ (ps.zip (us++ds))
theorem Binds.all{K:PySem.W.Frag}(h:∀ us:List Value,us.length=ps.length->bindArgs fd ⟨us,[]⟩=pure (ps.zip us)):Binds K fd ps []:=fun s us _ hl=>by
 rw [List.append_nil] at hl ⊢;exact .of_eq (h us hl)
noncomputable def Za1(CX:CXT)(X:Cx)(E:XK):Prop:=∀ (pins:List (Addr×Obj)) (Z:St) (H:Hp) (s:Shared) (e:Value) (s':Shared),Inv X pins Z H s->CX X.stack H s E e s'->X.xe e s'
section
variable {X:Cx}{CX:CXT}{k:Nat}{f C:Addr}{fd:FuncData}{ps:List Str}{sp:Sp}{dvs:List V}{ds:List Value}{E:XK}{x m:Str}{p pos apos:Pos}{e o:Expr}{es:List Expr}{ta:TE}{t:TA}
theorem ZhN(F:FnOk X.prog X.w X.K X.mg X.base CX k f fd ps sp)(hr:Room k X.A)(hb:Binds X.K fd ps ds)(hd:Zj dvs ds)(hx:Za1 CX X E)
   (I:Inv X pins Z H s) (r:Zj vs us) (h:sp (vs++dvs) H Q E):wpAny (model X.prog X.w) X.A (call (.ref f) us) (EP X pins Z Q) X.xe s:=by
 have r2:Zj (vs++dvs) (us++ds):=r.append hd;have hl:(us++ds).length=ps.length:=by rw [<- r2.length];exact F.len _ _ _ _ h
 refine wpAny_call (codeAny_mono (F.run X.A X.stack s H ⟨us,[]⟩ (us++ds) (vs++dvs) Q E hr I.env0 (hb s us I.kIn hl) r2 h) fun r s' hq=>?_);cases r with
 | error e=>exact hx pins Z H s e s' I hq
 | ok fl =>
   cases fl with
   | ret u=>exact I.after hq
   | next=>exact False.elim hq
   | brk=>exact False.elim hq
   | cont=>exact False.elim hq
theorem ZnK(F:FnOk X.prog X.w X.K X.mg X.base CX k f fd ps sp)(hr:Room k X.A)(hg:Gl X x)(hm:X.mg x=some (.ref f))(hk:PySem.W.keepIn X.K (.ref f)=true)(hb:Binds X.K fd ps ds)(hd:Zj dvs ds)(hx:Za1 CX X E)
   (ha:PA X (e::es) t) (hdb:(x==("__debug__" : Str))=false:=by decide) (he:starEach (e::es) X.env=(false,eval e X.env)::starEach es X.env:=by rfl) (hpl:(backTo pos (starEach es X.env)).any (·.1)=false:=by rfl) :
   PE X (.Call (.Name x p) (e::es) [] pos) (Zr4 sp dvs E t):=by
 intro pins s Z H Q I h;refine wpAny_Call_Name_kw (Zei I hg hm ?_ hdb);refine PySem.W.callWith_K (h₀:=X.base) I.ok.mod.kin hk (thn (ha pos pins s Z H _ I h) fun us s1 ⟨vs,H1,I1,r,q⟩=>⟨I1.kIn,?_⟩) he hpl;exact ZhN F hr hb hd hx I1 r q
theorem ZnD(he:PE X o ta)(c:Cls X.K C)(hm:Meth X.K C m f)(F:FnOk X.prog X.w X.K X.mg X.base CX k f fd ps sp)(hr:Room k X.A)(hb:Binds X.K fd ps ds)(hd:Zj dvs ds)(hx:Za1 CX X E)(ha:PA X (e::es) t)
   (hst:starEach (e::es) X.env=(false,eval e X.env)::starEach es X.env:=by rfl) (hpl:(backTo pos (starEach es X.env)).any (·.1)=false:=by rfl)
   (ht:eval (.Call (.Attribute o m apos) (e::es) [] pos) X.env=(do
     let ov <- eval o X.env
     standAt apos.atName
     let (f,first) <- holding [ov] (getMethod ov m pl)
     callWith pos f first (backTo pos (starEach (e::es) X.env)) (backToKw pos (keywordEach [] X.env))):=by rfl) :
   PE X (.Call (.Attribute o m apos) (e::es) [] pos) (Zo5 C m sp dvs E ta t):=by
 intro pins s Z H Q I h;refine PySem.W.methodCall_KW (pl:=pl) (thn (he pins s Z H _ I h) fun u s1 ⟨x,H1,I1,rx,a,dx,fs,ex,ea,l,q⟩=>?_) ht;subst ex;obtain rfl:u=Value.ref a:=rx;refine ZeP I1 ea c hm l ?_;refine PySem.W.callWith_K (first:=[.ref a]) (h₀:=X.base) I.ok.mod.kin hm.kp (thn (ha pos pins s1 Z H1 _ I1 q) fun us s2 ⟨vs,H2,I2,r,q2⟩=>⟨I2.kIn,?_⟩) hst hpl;exact ZhN (us:=.ref a::us) (vs:=.ref a::vs) F hr hb hd hx I2 (.cons rfl r) q2
theorem Zlw(he:PE X o ta)(c:Cls X.K C)(hm:Meth X.K C m f)(F:FnOk X.prog X.w X.K X.mg X.base CX k f fd ps sp)(hr:Room k X.A)(hb:Binds X.K fd ps ds)(hd:Zj dvs ds)(hx:Za1 CX X E)
   (ht:eval (.Call (.Attribute o m apos) [] [] pos) X.env=(do
     let ov <- eval o X.env
     standAt apos.atName
     let (f,first) <- holding [ov] (getMethod ov m pl)
     callWith pos f first (backTo pos (starEach [] X.env)) (backToKw pos (keywordEach [] X.env))):=by rfl) :
   PE X (.Call (.Attribute o m apos) [] [] pos) (Zo5 C m sp dvs E ta ZpI):=by
 intro pins s Z H Q I h;refine PySem.W.methodCall_KW (pl:=pl) (thn (he pins s Z H _ I h) fun u s1 ⟨x,H1,I1,rx,a,dx,fs,ex,ea,l,q⟩=>?_) ht;subst ex;obtain rfl:u=Value.ref a:=rx;refine ZeP I1 ea c hm l ?_;exact PySem.W.callWith_K0 (first:=[.ref a]) I1.kIn hm.kp (ZhN (us:=[.ref a]) (vs:=[.ref a]) F hr hb hd hx I1 (.cons rfl .nil) q)
structure Mk(K:PySem.W.Frag)(C f:Addr):Prop where
 makes:PySem.W.makesIn K C=true
 init:PySem.W.findIn K (.ref C) "__init__" = some (some (.ref f))
 fn:PySem.W.isFn K (.ref f)=true
 kp:PySem.W.keepIn K (.ref C)=true
theorem ZgM(M:Mk X.K C f)(F:FnOk X.prog X.w X.K X.mg X.base CX k f fd ps sp)(hr:Room (k+1) X.A)(hb:Binds X.K fd ps ds)(hd:Zj dvs ds)
   (hx:Za1 CX X E) (I:Inv X pins Z H s) (r:Zj vs us)
   (h:∀ x dx,H x=none->H dx=none->dx≠x->sp (.ref x::(vs++dvs)) (upd (upd H dx (.own x)) x (.ins C dx [])) (fun v H2=>v=.non/\Q (.ref x) H2) E) :
   wpAny (model X.prog X.w) X.A (call (.ref C) us) (EP X pins Z Q) X.xe s:=by
 have hq:=h (s.heap.objs.size+1) s.heap.objs.size (I.hok.fresh (Nat.le_succ _)) (I.hok.fresh (Oq _)) (Ou (OH _));have I2:=Inv.made (C:=C) I;have r2:Zj (V.ref (s.heap.objs.size+1)::(vs++dvs)) (Value.ref (s.heap.objs.size+1)::(us++ds)):=.cons rfl (r.append hd);have hl:(Value.ref (s.heap.objs.size+1)::us++ds).length=ps.length:=by
   have e:=r2.length;rw [F.len _ _ _ _ hq] at e;exact e.symm
 refine wpAny_call (ZlT (f:=f) I.kIn M.makes M.init (beq_iff_eq.mp M.fn) (codeAny_mono (F.run _ X.stack _ _ ⟨Value.ref (s.heap.objs.size+1)::us,[]⟩ (Value.ref (s.heap.objs.size+1)::(us++ds)) _ _ E (hr.make C us [])
   (I2.env0.make C us []) (hb _ (Value.ref (s.heap.objs.size+1)::us) I2.kIn hl) r2 hq) fun r s' hq'=>?_))
 cases r with
 | error e=>exact hx pins Z _ _ e s' I2 hq'
 | ok fl =>
   cases fl with
   | ret u =>
     obtain ⟨v,H',I3,rv,ev,q3⟩:=I2.after hq';subst ev;exact ⟨rv,⟨V.ref (s.heap.objs.size+1),H',I3,rfl,q3⟩⟩
   | next=>exact False.elim hq'
   | brk=>exact False.elim hq'
   | cont=>exact False.elim hq'
theorem ZnF(M:Mk X.K C f)(F:FnOk X.prog X.w X.K X.mg X.base CX k f fd ps sp)(hr:Room (k+1) X.A)(hg:Gl X x)(hm:X.mg x=some (.ref C))(hb:Binds X.K fd ps ds)(hd:Zj dvs ds)(hx:Za1 CX X E)
   (ha:PA X (e::es) t) (hdb:(x==("__debug__" : Str))=false:=by decide) (he:starEach (e::es) X.env=(false,eval e X.env)::starEach es X.env:=by rfl) (hpl:(backTo pos (starEach es X.env)).any (·.1)=false:=by rfl) :
   PE X (.Call (.Name x p) (e::es) [] pos) (Zo6 C sp dvs E t):=by
 intro pins s Z H Q I h;refine wpAny_Call_Name_kw (Zei I hg hm ?_ hdb);refine PySem.W.callWith_K (h₀:=X.base) I.ok.mod.kin M.kp (thn (ha pos pins s Z H _ I h) fun us s1 ⟨vs,H1,I1,r,q⟩=>⟨I1.kIn,?_⟩) he hpl;exact ZgM M F hr hb hd hx I1 r q
theorem Zlx(M:Mk X.K C f)(F:FnOk X.prog X.w X.K X.mg X.base CX k f fd ps sp)(hr:Room (k+1) X.A)(hg:Gl X x)(hm:X.mg x=some (.ref C))(hb:Binds X.K fd ps ds)(hd:Zj dvs ds)(hx:Za1 CX X E)
   (hdb:(x==("__debug__" : Str))=false:=by decide):PE X (.Call (.Name x p) [] [] pos) (Zo6 C sp dvs E ZpI):=by
 intro pins s Z H Q I h;refine wpAny_Call_Name_kw (Zei I hg hm ?_ hdb);exact PySem.W.callWith_K0 I.kIn M.kp (ZgM (us:=[]) M F hr hb hd hx I .nil h)
end
structure FnScope(N P:List Str)(sc:Scope):Prop where
 kind:sc.kind=.function
 co:sc.isCoroutine=false
 gen:sc.isGenerator=false
 nd:N.Nodup
 pre:N.take P.length=P
 par:∀ x∈P,sc.names.lookup x=some .local\/sc.names.lookup x=some .cell
 nofree:∀ y∈sc.names,y.2≠.free
theorem ZfG{kindOf:Str->Option NameKind}:∀ {binds:List (Str×Value)}{m:Str->Option Value},(∀ v,(x,v) ∉ binds)->bindL kindOf binds m x=m x
 | [],_,_=>rfl
 | (n,v)::r,m,h=>by
   unfold bindL;rw [ZfG fun w hw=>h w (Oh _ hw)];split
   . have:x≠n:=by rintro rfl;exact h v Oi
     simp [this]
   . rfl
theorem ZfI{kindOf:Str->Option NameKind}:∀ {binds:List (Str×Value)}{m:Str->Option Value},(∀ v,(x,v) ∉ binds)->bindC kindOf binds m x=m x
 | [],_,_=>rfl
 | (n,v)::r,m,h=>by
   unfold bindC;rw [ZfI fun w hw=>h w (Oh _ hw)];split
   . rfl
   . have:x≠n:=by rintro rfl;exact h v Oi
     simp [this]
theorem ZfH{kindOf:Str->Option NameKind}:∀ {P:List Str}{vs:List Value}{i:Nat}{m:Str->Option Value},P.Nodup->P[i]? = some x->vs[i]? = some v->kindOf x=some .local ->
   bindL kindOf (P.zip vs) m x=some v
 | [],_,_,_,_,h,_,_=>by simp at h
 | _::_,[],_,_,_,_,h,_=>by simp at h
 | p::P,w::vs,0,m,nd,h1,h2,hk=>by
   simp at h1 h2;subst h1;subst h2;show bindL kindOf ((p,w)::P.zip vs) m p=_;unfold bindL;rw [ZfG fun v hv=>(List.nodup_cons.mp nd).1 (List.of_mem_zip hv).1,if_pos hk];simp
 | p::P,w::vs,i+1,m,nd,h1,h2,hk=>by
   show bindL kindOf ((p,w)::P.zip vs) m x=_;unfold bindL;exact ZfH (i:=i) (List.nodup_cons.mp nd).2 (by simpa using h1) (by simpa using h2) hk
theorem ZfJ{kindOf:Str->Option NameKind}:∀ {P:List Str}{vs:List Value}{i:Nat}{m:Str->Option Value},P.Nodup->P[i]? = some x->vs[i]? = some v->kindOf x≠some .local ->
   bindC kindOf (P.zip vs) m x=some v
 | [],_,_,_,_,h,_,_=>by simp at h
 | _::_,[],_,_,_,_,h,_=>by simp at h
 | p::P,w::vs,0,m,nd,h1,h2,hk=>by
   simp at h1 h2;subst h1;subst h2;show bindC kindOf ((p,w)::P.zip vs) m p=_;unfold bindC;rw [ZfI fun v hv=>(List.nodup_cons.mp nd).1 (List.of_mem_zip hv).1,if_neg hk];simp
 | p::P,w::vs,i+1,m,nd,h1,h2,hk=>by
   show bindC kindOf ((p,w)::P.zip vs) m x=_;unfold bindC;exact ZfJ (i:=i) (List.nodup_cons.mp nd).2 (by simpa using h1) (by simpa using h2) hk
noncomputable def start(N:List Str)(vs:List V):St:=vs.map some++List.replicate (N.length - vs.length) none
noncomputable def Zim(CX:CXT)(P:Program)(w:World)(K:PySem.W.Frag)(mg:Str->Option Value)(base:Heap)(N:List Str)(qual:Str)(scope:Scope)(f:Addr)(cd:Value)(A:Around)(outer:List Env)(s:Shared)(H:Hp)(E:XK):Cx where
 prog:=P
 w:=w
 K:=K
 mg:=mg
 base:=base
 A:=A.deeper (envOfC qual scope s.heap.objs.size f cd)
 N:=N
 s₀:=s
 H₀:=H
 env:=envOfC qual scope s.heap.objs.size f cd
 outer:=outer
 stack:=envOfC qual scope s.heap.objs.size f cd::outer
 ex:=[]
 calm:=true
 fn:=fun _=>true
 pn:=[]
 xe:=fun e s'=>wpAny (model P w) (A.deeper (envOfC qual scope s.heap.objs.size f cd)) (leaving (envOfC qual scope s.heap.objs.size f cd) e) (fun _ s''=>CX outer H s E e s'') (fun e' s''=>CX outer H s E e' s'') s'
theorem Zhs{sc:Scope}(h:sc.names.lookup x=some .cell):∃ c,(cellsFrom n sc.names []).lookup x=some c:=by
 have q:=PySem.W.cellsFrom_some sc.names n [] (.inl h);exact Option.isSome_iff_exists.mp q
theorem Zkx{CX:CXT}{P:Program}{w:World}{K:PySem.W.Frag}{mg:Str->Option Value}{base:Heap}{N ps:List Str}{qual:Str}{scope:Scope}{f:Addr}{cd:Value}{A:Around}{outer:List Env}{s s1:Shared}{H:Hp}{E:XK}{us:List Value}{vs:List V}
   (S_:FnScope N ps scope) (hd:A.handled=none) (e0:Env0 P w K mg base A outer s H) (hl:vs.length=ps.length) (r:Zj vs us)
   (x:InCallC s s.heap.objs.size (bindL (envOfC qual scope s.heap.objs.size f cd).kindOf (ps.zip us) fun _=>none) (cellsFrom (s.heap.objs.size+1) scope.names []) (bindC (envOfC qual scope s.heap.objs.size f cd).kindOf (ps.zip us) fun _=>none) s1) :
   Inv (Zim CX P w K mg base N qual scope f cd A outer s H E) [] (start N vs) H s1:=by
 have hpl:ps.length<=N.length:=by have:=congrArg List.length S_.pre;rw [List.length_take] at this;lia
 obtain ⟨h1,tk,rfl,hk⟩:=x.done;have noA:∀ b:Addr,b ∉ (Zim CX P w K mg base N qual scope f cd A outer s H E).ex:=fun b z=>absurd (show b∈([]:List Addr) from z) (by simp);refine ⟨⟨e0.mod,S_.kind,rfl,rfl,Oq _,fun y z c h1 h2=>?_,fun y hy=>?_,fun y c _ h=>?_,fun _=>hd,Around.frames_deeper e0.frames,.inr ⟨rfl,rfl⟩,fun b z=>absurd z (noA b),e0.bs,e0.bsz,fun b _ _=>noA b,fun b z=>absurd z (noA b),e0.funs,e0.frf⟩,
   rfl,e0.bare,Un.kept hk,⟨_,x.toInCall.ns,fun i y v h1 h2 h3=>?_⟩,fun y c h=>⟨_,x.cell y c h⟩,e0.hok.fresh (Oq _),fun y c h=>?_,fun p hp=>absurd (show p∈([]:List (Addr×Obj)) from hp) (by simp),e0.hok.kept hk,?_⟩
 . exact name_of_addr x.apart (PySem.mem_of_lookup h1) (PySem.mem_of_lookup h2)
 . have hy:scope.names.lookup y=some .cell\/scope.names.lookup y=some .free:=hy;rcases hy with hy|hy
   . exact Zhs hy
   . exact absurd rfl (S_.nofree _ (PySem.mem_of_lookup hy))
 . exact Nat.le_of_lt (x.above y c (PySem.mem_of_lookup h))
 . have hi:i<vs.length:=by
     unfold start at h2;by_cases hi:i<vs.length
     . exact hi
     . rw [Om (by simpa using hi)] at h2;rw [List.getElem?_replicate] at h2;split at h2<;>cases h2
   have ha:vs[i]? = some v:=by
     unfold start at h2;rw [Oe (by simpa using hi),On] at h2;cases e:vs[i]? with
     | none=>rw [e] at h2;cases h2
     | some a=>rw [e] at h2;cases h2;rfl
   obtain ⟨u,hu,rv⟩:=r.get ha;have hp:ps[i]? = some y:=by
     rw [<- S_.pre,List.getElem?_take_of_lt (by lia)];exact h1
   have ndP:ps.Nodup:=by rw [<- S_.pre];exact S_.nd.sublist (List.take_sublist _ _)
   refine ⟨u,rv,?_⟩;rcases S_.par y (O1 hp) with k|k
   . exact .inl ⟨k,ZfH ndP hp hu k⟩
   . obtain ⟨c,e⟩:=Zhs (n:=s.heap.objs.size+1) k;refine .inr ⟨.inl k,c,e,?_⟩;have q:=x.cell y c e;rw [ZfJ ndP hp hu (by show scope.names.lookup y≠_;rw [k];decide)] at q;exact q
 . exact e0.hok.fresh (Nat.le_of_lt (x.above y c (PySem.mem_of_lookup h)))
 . unfold start;show _=N.length;rw [OA,List.length_map,List.length_replicate]
   lia
theorem Ztd{CX:CXT}{P:Program}{w:World}{K:PySem.W.Frag}{mg:Str->Option Value}{base:Heap}{k:Nat}{f:Addr}{name qual:Str}{params:Arguments}{body:List Stmt}{scope:Scope}{dV kV doc pm cdv ct oc:Value}{an od:Option Addr}
   {osl:Array (Option Value)}{N ps:List Str}{sp:Sp} (lk:K.lookup f=some ⟨oc,od,.func (PySem.W.fnOf name qual params body scope dV kV doc pm an cdv ct),osl⟩) (hcd:PySem.W.codeIn K cdv qual=true) (S_:FnScope N ps scope)
   (len:∀ vs H Q E,sp vs H Q E->vs.length=ps.length)
   (hbody:∀ (A:Around) (outer:List Env) (s:Shared) (H:Hp) (vs:List V) (Q:VK) (E:XK),Room k (A.deeper (envOfC qual scope s.heap.objs.size f cdv))->sp vs H Q E ->
     ∃ t,PSs (Zim CX P w K mg base N qual scope f cdv A outer s H E) body t/\t {nx:=fun _ H'=>Q .non H',rt:=Q} (start N vs) H) :
   FnOk P w K mg base CX (k+1) f (PySem.W.fnOf name qual params body scope dV kV doc pm an cdv ct) ps sp:=by
 refine ⟨len,fun A outer s H args us vs Q E hr e0 hb r hsp=>?_⟩;have hl:=len _ _ _ _ hsp;have KX:K.In s.heap:=e0.mod.kin.keeps fun b o e=>(e0.bs b o e).1;have lim:s.heap.NoLimit:=e0.mod.nolimit.keeps fun b o e=>(e0.bs b o e).1;have hkind:∀ y∈ps.zip us,scope.names.lookup y.1=some .local\/(scope.names.lookup y.1=some .cell/\((cellsFrom (s.heap.objs.size+1) scope.names []).lookup y.1).isSome=true):=fun ⟨n,v⟩ hy=>by
   rcases S_.par n (List.of_mem_zip hy).1 with q|q
   . exact .inl q
   . exact .inr ⟨q,PySem.W.cellsFrom_some _ _ _ (.inl q)⟩
 refine codeAny_call_function hr.depth (KX _ _ lk) rfl S_.co S_.gen rfl (PySem.W.codeRec_of KX hcd) (hb _ _ _ _ ?_);refine wpAny_newFunctionEnv_cells S_.kind hkind fun env he s1 x=>?_;subst he;refine ⟨lim.keeps x.toInCall.keep,codeAny_func ?_⟩;obtain ⟨t,ht,hq⟩:=hbody A outer s H vs Q E (hr.deeper _) hsp;have I:Inv (Zim CX P w K mg base N qual scope f cdv A outer s H E) [] (start N vs) H s1:=Zkx S_ hr.hd e0 hl r x;refine wpAny_mono (ht [] s1 (start N vs) H _ I hq) (fun fl s' hs=>?_) fun e s' hs=>hs;have fin:∀ {σ':St}{H':Hp}{v:V}{u:Value},Inv (Zim CX P w K mg base N qual scope f cdv A outer s H E) [] σ' H' s'->RelV v u->Q v H'->CE outer P w H s Q u s' :=
   fun {σ' H' v u} J rv q=>⟨v,H',J.os,J.bare,J.base,J.hok,rv,q⟩
 cases fl with
 | ret u =>
   obtain ⟨v,σ',H',J,rv,q⟩:=hs;exact fin J rv q
 | next =>
   obtain ⟨σ',H',J,q⟩:=hs;exact fin (v:=V.non) (u:=Value.none) J rfl q
 | brk =>
   obtain ⟨_,_,_,q⟩:=hs;exact False.elim q
 | cont =>
   obtain ⟨_,_,_,q⟩:=hs;exact False.elim q
end L2
namespace L2
open PySem PySem.Spec PyProof.Rows
section
variable {X:Cx}{x:Str}{p pos:Pos}{e:Expr}{es:List Expr}{t:TA}{id T:String}{r:List V->Hp->VK->Prop}
noncomputable def tCB(r:List V->Hp->VK->Prop)(t:TA):TE:=fun Z H Q=>t Z H fun vs H1=>r vs H1 Q
theorem Zb6 (hc:ZaK X (.builtin id) r) (hg:Gl X x) (hm:X.mg x=none) (hv:bootBuiltins x=some (.builtin id)) (ha:PA X (e::es) t) (hn:x ≠ "__name__" := by decide) (hdb:(x==("__debug__" : Str))=false:=by decide)
   (he:starEach (e::es) X.env=(false,eval e X.env)::starEach es X.env:=by rfl) (hpl:(backTo pos (starEach es X.env)).any (·.1)=false:=by rfl):PE X (.Call (.Name x p) (e::es) [] pos) (tCB r t):=by
 intro pins s Z H Q I h;refine wpAny_Call_Name_kw (ZbD I hg hm hv ?_ hn hdb);exact PyProof.Rows.callWith_builtin1 (thn (ha pos pins s Z H _ I h) fun us s1 ⟨vs,H1,I1,r1,q1⟩=>hc pins s1 Z H1 vs us Q I1 r1 q1) he hpl
theorem Zfx (hc:ZaK X (.type T) r) (hg:Gl X x) (hm:X.mg x=none) (hv:bootBuiltins x=some (.type T)) (ha:PA X (e::es) t) (hn:x ≠ "__name__" := by decide) (hdb:(x==("__debug__" : Str))=false:=by decide)
   (he:starEach (e::es) X.env=(false,eval e X.env)::starEach es X.env:=by rfl) (hpl:(backTo pos (starEach es X.env)).any (·.1)=false:=by rfl):PE X (.Call (.Name x p) (e::es) [] pos) (tCB r t):=by
 intro pins s Z H Q I h;refine wpAny_Call_Name_kw (ZbD I hg hm hv ?_ hn hdb);exact PyProof.Rows.callWith_type1 (thn (ha pos pins s Z H _ I h) fun us s1 ⟨vs,H1,I1,r1,q1⟩=>hc pins s1 Z H1 vs us Q I1 r1 q1) he hpl
end
end L2
namespace HT
open PySem PyProof.Rows
section
variable {prog:Program}{w:World}{A:Around}{E:Value->Shared->Prop}{s:Shared}
theorem ZoE(ht:IsTup s.heap t vs.toArray)(hb:IsTup s.heap b ws.toArray)(hv:vs≠[])
   (h1:ws=[]->Q (.ref t) s) (h2:ws≠[]->Q (.ref s.heap.objs.size) {s with heap:=s.heap.push {cls:=.type "tuple",data:=.seq (vs++ws).toArray}})
   (hsz:vs.length+ws.length<=sizeLine):wpAny (model prog w) A (binaryOp .Add (.ref t) (.ref b)) Q E s:=by
 obtain ⟨⟨cls,dd,data,sl⟩,ho,hc,n,hd⟩:=id ht;obtain ⟨⟨cls2,dd2,data2,sl2⟩,ho2,hc2,n2,hd2⟩:=id hb;simp only at hc hd hc2 hd2;subst hc hd hc2 hd2;have e:vs.toArray++ws.toArray=(vs++ws).toArray:=by simp
 by_cases hw:ws=[]
 . exact concat_meets ⟨_,ho,rfl⟩ ⟨_,ho2,rfl⟩ noFill_tuple_add seq_tuple_add PySem.F.slot_tuple_add PySem.F.entry_tuple_add (PySem.F.args_tuple_add_2 _ _)
     (tuple_addW1 t b vs.toArray ws.toArray n n2 dd dd2 sl sl2 (by simpa using hv) (by simp [hw])) ⟨ho,ho2,h1 hw⟩
 . refine concat_meets ⟨_,ho,rfl⟩ ⟨_,ho2,rfl⟩ noFill_tuple_add seq_tuple_add PySem.F.slot_tuple_add PySem.F.entry_tuple_add (PySem.F.args_tuple_add_2 _ _)
     (tuple_addW2 t b vs.toArray ws.toArray n n2 dd dd2 sl sl2 (by simpa using hv) (by simpa using hw) (by rw [Of,Of];exact hsz)) ⟨ho,ho2,?_⟩
   rw [e];exact h2 hw
noncomputable def sIx(n d:Nat):Option Int->Nat
 | none=>d
 | some v=>if v<0 then (v+(n:Int)).toNat else min v.toNat n
theorem ZpP(n d:Nat)(hd:d<=n)(o:Option Int):sIx n d o<=n:=by
 cases o with
 | none=>exact hd
 | some v =>
   show (if v<0 then (v+(n:Int)).toNat else min v.toNat n)<=n;by_cases hv:v<0
   . rw [if_pos hv];lia
   . rw [if_neg hv];exact Nat.min_le_right _ _
theorem ZjC(v:Int)(n d:Nat):(if v<0 then max (v+(n:Int)) 0 else min v (n:Int))=((sIx n d (some v):Nat):Int):=by
 show (if v<0 then max (v+(n:Int)) 0 else min v (n:Int))=(((if v<0 then (v+(n:Int)).toNat else min v.toNat n):Nat):Int)
 by_cases hv:v<0
 . simp only [if_pos hv];lia
 . simp only [if_neg hv];lia
theorem ZiI(lo hi:Option Int)(n:Nat):Builtin.Slice.sliceAdjust lo hi 1 (n:Int)=(((sIx n 0 lo:Nat):Int),((sIx n n hi:Nat):Int)):=by
 have h1:¬ ((1:Int)<0):=by lia
 unfold Builtin.Slice.sliceAdjust;simp only [h1,if_false];refine Prod.ext ?_ ?_
 . cases lo with
   | none=>rfl
   | some v=>exact ZjC v n 0
 . cases hi with
   | none=>rfl
   | some v=>exact ZjC v n n
theorem ZhS(i j:Nat):Builtin.Slice.slicePlaces (i:Int) (j:Int) 1=j - i:=by
 unfold Builtin.Slice.slicePlaces;have h1:(1:Int) > 0:=by lia
 simp only [h1,if_true,Int.ediv_one];split<;>lia
theorem Zes(p:IsPart v o)(h:Q o s):wpAny (model prog w) A (Builtin.Slice.slicePartIndex v) Q E s:=by
 cases p with
 | none=>exact slicePart_none h
 | int i t=>exact slicePart_int h
theorem Zbp{sl:Addr}{vl vu:Value}{lo hi:Option Int}{n:Nat}{Q:Int×Int×Nat->Shared->Prop}(hs:s.heap.IsSliceOf sl vl vu .none)(pl:IsPart vl lo)(pu:IsPart vu hi)
   (h:Q (((sIx n 0 lo:Nat):Int),1,sIx n n hi - sIx n 0 lo) s):wpAny (model prog w) A (Builtin.Slice.sliceApplied (.ref sl) (pure (n:Int))) Q E s:=by
 obtain ⟨os,hos,hcs,hds⟩:=id hs;unfold Builtin.Slice.sliceApplied Builtin.Slice.sliceFields;refine wpAny_bind (wpAny_bind (wpAny_field hos hds (x:=vl) rfl (wpAny_bind (wpAny_field hos hds (x:=vu) rfl (wpAny_bind (wpAny_field hos hds (x:=.none) rfl (wpAny_pure ?_)))))));refine wpAny_bind (slicePart_none ?_);show wpAny _ _ (if ((1:Int)==0)=true then _ else _) _ _ s;rw [if_neg (by decide)];refine wpAny_bind (Zes pl (wpAny_bind (Zes pu (wpAny_bind (wpAny_pure ?_)))));show wpAny _ _ (match Builtin.Slice.sliceAdjust lo hi 1 (n:Int) with|(lo,hi)=>pure (lo,(1:Int),Builtin.Slice.slicePlaces lo hi 1)) _ _ s;rw [ZiI lo hi n];show wpAny _ _ (pure (((sIx n 0 lo:Nat):Int),(1:Int),Builtin.Slice.slicePlaces ((sIx n 0 lo:Nat):Int) ((sIx n n hi:Nat):Int) 1)) _ _ s;rw [ZhS];exact wpAny_pure h
theorem Zls(xs:Array Value)(i k:Nat):((List.range k).filterMap fun (m:Nat)=>xs[((i:Int)+(m:Int) * 1).toNat]?).toArray=((xs.toList.drop i).take k).toArray:=by
 have e:(fun (m:Nat)=>xs[((i:Int)+(m:Int) * 1).toNat]?)=fun m=>xs[i+m]? := by
   funext m;have:((i:Int)+(m:Int) * 1).toNat=i+m:=by lia
   rw [this]
 rw [e];have:=pick_run xs i k;rw [List.filterMap_map] at this;have e2:((fun x=>xs[x]?) ∘ fun x=>i+x)=fun m=>xs[i+m]? := rfl;rw [e2] at this;rw [this]
theorem Zdj{t sl:Addr}{items:Array Value}{vl vu:Value}{lo hi:Option Int}{Q:Value->Shared->Prop}(ht:IsTup s.heap t items)(hs:s.heap.IsSliceOf sl vl vu .none)(pl:IsPart vl lo)(pu:IsPart vu hi)
   (hw:¬ (sIx items.size 0 lo=0/\sIx items.size items.size hi=items.size))
   (h:Q (.ref s.heap.objs.size) {s with heap:=s.heap.push {cls:=.type "tuple",data:=.seq ((items.toList.drop (sIx items.size 0 lo)).take (sIx items.size items.size hi - sIx items.size 0 lo)).toArray}})
   (hsz:items.size<=sizeLine):wpAny (model prog w) A (getItem (.ref t) (.ref sl)) Q E s:=by
 have htake:sizeOk (.seq ((items.toList.drop (sIx items.size 0 lo)).take (sIx items.size items.size hi - sIx items.size 0 lo)).toArray):=by
   show ((items.toList.drop (sIx items.size 0 lo)).take (sIx items.size items.size hi - sIx items.size 0 lo)).toArray.size<=sizeLine;rw [Of,List.length_take,List.length_drop,Array.length_toList]
   lia
 have hj:sIx items.size items.size hi<=items.size:=ZpP _ _ (Oq _) hi;obtain ⟨os,hos,hcs,hds⟩:=id hs;have hTs:s.TypeIs (.ref sl) "slice" := ⟨os,hos,hcs⟩
 unfold getItem
 try with_reducible refine wpAny_holding ?_
 first|refine wpAny_bind (wpAny_pure ?_)|skip
 refine wpAny_bind (wpAny_sequenceKey ht.typeIs (by decide) ?_);refine wpAny_bind (wpAny_callSpecial?_slot (name:=O "__getitem__") ht.typeIs PyProof.Rows.slot_tuple_getitem
   (wpAny_call_entry PyProof.Rows.slot_tuple_getitem ht.typeIs entry_tuple_getitem ?_ (args_tuple_getitem _ _)))
 show wpAny _ _ (Builtin.Tuple.tupleItemsOf (.ref t) >>= _) _ _ s;refine wpAny_bind (tupleItemsOf_ ht ?_);refine wpAny_bind (wpAny_typeOf hTs ?_);rw [if_pos (by decide)];refine wpAny_bind (Zbp hs pl pu ?_);have hno:¬ ((((sIx items.size 0 lo:Nat):Int)==0&&(1:Int)==1&&(sIx items.size items.size hi - sIx items.size 0 lo)==items.size)=true):=by
   intro q;rw [Oa,Oa] at q;have q1:((sIx items.size 0 lo:Nat):Int)=0:=eq_of_beq q.1.1;have q2:sIx items.size items.size hi - sIx items.size 0 lo=items.size:=eq_of_beq q.2;exact hw ⟨by lia,by lia⟩
 show wpAny _ _ (if (((sIx items.size 0 lo:Nat):Int)==0&&(1:Int)==1&&(sIx items.size items.size hi - sIx items.size 0 lo)==items.size)=true then _ else _) _ _ s;rw [if_neg hno,Zls]
 first
   | exact wpAny_bind (m:=Builtin.Tuple.tupleExact _) (wpAny_newObj_type (wpAny_pure ⟨_,rfl,wpAny_pure h⟩) htake)
   | exact wpAny_bind (m:=Builtin.Tuple.tupleExact _) (wpAny_newObj_type (wpAny_bind (wpAny_pure (wpAny_pure ⟨_,rfl,wpAny_pure h⟩))) htake)
   | exact wpAny_bind (wpAny_bind (m:=Builtin.Tuple.tupleExact _) (wpAny_newObj_type (wpAny_pure (wpAny_pure ⟨_,rfl,wpAny_pure h⟩)) htake))
   | exact wpAny_bind (wpAny_bind (m:=Builtin.Tuple.tupleExact _) (wpAny_newObj_type (wpAny_pure ⟨_,rfl,wpAny_pure h⟩) htake))
end
end HT
namespace L2
open PySem PySem.Spec PyProof.Rows
noncomputable abbrev TO:=St->Hp->(Option Int->Hp->Prop)->Prop
noncomputable def PO(X:Cx)(e:Option Expr)(t:TO):Prop :=
 ∀ (pins:List (Addr×Obj)) (s:Shared) (Z:St) (H:Hp) (Q:Option Int->Hp->Prop),Inv X pins Z H s->t Z H Q ->
   wpAny (model X.prog X.w) X.A (evalPart e X.env) (fun u s'=>∃ o H',Inv X pins Z H' s'/\IsPart u o/\Q o H') X.xe s
noncomputable def Zm8:TO:=fun _ H Q=>Q none H
noncomputable def ZrX(t:TE):TO:=fun Z H Q=>t Z H fun x H1=>∃ i,x=.int i/\Q (some i) H1
section
variable {X:Cx}{e:Expr}{te:TE}{lo hi:Option Expr}{tl th:TO}{pos p2:Pos}
theorem Znx:PO X none Zm8:=by
 intro pins s Z H Q I h;rw [evalPart_none];exact wpAny_pure ⟨none,H,I,.none,h⟩
theorem Znw(h:PE X e te):PO X (some e) (ZrX te):=by
 intro pins s Z H Q I hw;rw [evalPart_some];refine thn (h pins s Z H _ I hw) fun u s1 ⟨x,H1,I1,r1,q1⟩=>?_;obtain ⟨i,rfl,q⟩:=q1;obtain ⟨t,rfl⟩:=r1;exact ⟨some i,H1,I1,.int i t,q⟩
noncomputable def SlR(X:Cx)(r:V->Option Int->Option Int->Hp->VK->Prop):Prop :=
 ∀ (pins:List (Addr×Obj)) (s:Shared) (Z:St) (H:Hp) (x:V) (v vl vu:Value) (lo hi:Option Int) (sl:Addr) (Q:VK),Inv X pins Z H s->RelV x v->s.heap.IsSliceOf sl vl vu .none->IsPart vl lo->IsPart vu hi->r x lo hi H Q ->
   ∃ T id,typeLookup (.type T) "__getitem__" = pure (some (.builtin id))/\s.TypeIs v T/\wpAny (model X.prog X.w) X.A (getItem v (.ref sl)) (EP X pins Z Q) X.xe s
noncomputable def tSl(r:V->Option Int->Option Int->Hp->VK->Prop)(te:TE)(tl th:TO):TE:=fun Z H Q=>te Z H fun x H1=>tl Z H1 fun l H2=>th Z H2 fun u H3=>r x l u H3 Q
theorem Zlu(hr:SlR X r)(he:PE X e te)(hl:PO X lo tl)(hu:PO X hi th):PE X (.Subscript e (.Slice lo hi none p2) pos) (tSl r te tl th):=by
 intro pins s Z H Q I h;refine Subscript_ (thn (he pins s Z H _ I h) fun v s1 ⟨x,H1,I1,r1,q1⟩=>?_);refine wpAny_Slice (thn (hl pins s1 Z H1 _ I1 q1) fun vl s2 ⟨l,H2,I2,pl,q2⟩=>thn (hu pins s2 Z H2 _ I2 q2) fun vu s3 ⟨u,H3,I3,pu,q3⟩=>?_);rw [evalPart_none];refine wpAny_pure ?_;have I4:Inv X pins Z H3 {s3 with heap:=s3.heap.push {cls:=.type "slice",data:=.fields #[vl,vu,.none]}}:=I3.kept (t':=s3.toks) fun b ob q=>Od _ q;obtain ⟨T,id,hT,ht,hg⟩:=hr pins {s3 with heap:=s3.heap.push {cls:=.type "slice",data:=.fields #[vl,vu,.none]}} Z H3 x v vl vu l u s3.heap.objs.size Q I4 r1 (Heap.IsSliceOf.new ..) pl pu q3;show wpAny (model X.prog X.w) X.A (subscriptTail e (.Slice lo hi none p2) v (.ref s3.heap.objs.size)) (EP X pins Z Q) X.xe {s3 with heap:=s3.heap.push {cls:=.type "slice",data:=.fields #[vl,vu,.none]}};exact tail_any (ops:=[.ref s3.heap.objs.size,v]) ht hT hg (by with_unfolding_all rfl)
noncomputable def Zhk(xs:List V)(lo hi:Option Int):List V:=(xs.drop (HT.sIx xs.length 0 lo)).take (HT.sIx xs.length xs.length hi - HT.sIx xs.length 0 lo)
theorem Zd3(xs:List V)(lo hi:Option Int):(Zhk xs lo hi).length<=xs.length:=by
 unfold Zhk;rw [List.length_take,List.length_drop]
 lia
noncomputable def Zud(K:PySem.W.Frag):V->Option Int->Option Int->Hp->VK->Prop:=fun x lo hi H Q=>∃ a xs,x=.ref a/\SqT K H a xs /\
 ¬ (HT.sIx xs.length 0 lo=0/\HT.sIx xs.length xs.length hi=xs.length)/\∀ p,H p=none->Q (.ref p) (upd H p (.tup (Zhk xs lo hi)))
theorem ZpL:SlR X (Zud X.K):=by
 intro pins s Z H x v vl vu lo hi sl Q I rx hs pl pu h;obtain ⟨a,xs,rfl,hx,hw,q⟩:=h;cases rx;obtain ⟨its,r,ht,hz⟩:=I.tuple hx;have hlen:its.toArray.size=xs.length:=by rw [Of];exact r.length.symm
 refine ⟨"tuple",_,PyProof.Rows.slot_tuple_getitem.lookup,ht.typeIs,?_⟩;refine HT.Zdj ht hs pl pu (by rw [hlen];exact hw) ?_ (by rw [hlen];exact hz);rw [hlen];refine ⟨.ref s.heap.objs.size,_,I.laid (t':=s.toks) (o:=.tup (Zhk xs lo hi)) (fun b ob q=>Od _ q) (Oq _) ?_,rfl,q _ (I.hok.fresh (Oq _))⟩;exact ⟨OE (Zd3 xs lo hi) hz,_,(r.drop (HT.sIx xs.length 0 lo)).take (HT.sIx xs.length xs.length hi - HT.sIx xs.length 0 lo),Zau.fresh _ _⟩
noncomputable def Zsk(K:PySem.W.Frag):R2:=fun x y H Q=>∃ a b xs ys,x=.ref a/\y=.ref b/\SqT K H a xs/\SqT K H b ys/\xs≠[]/\xs.length+ys.length<=sizeLine /\
 (ys=[]->Q (.ref a) H)/\(ys≠[]->∀ p,H p=none->Q (.ref p) (upd H p (.tup (xs++ys))))
theorem Zj.nil_iff(r:Zj xs us):us=[]↔xs=[]:=by
 cases r with
 | nil=>simp
 | cons _ _=>simp
theorem ZnQ:OpR X (binaryOp .Add) (Zsk X.K):=by
 intro pins s Z H x y v u Q I rx ry h;obtain ⟨a,b,xs,ys,rfl,rfl,ha,hb,hx,hz,q1,q2⟩:=h;cases rx;cases ry;obtain ⟨its,r1,p1,_⟩:=I.tuple ha;obtain ⟨its2,r2,p2,_⟩:=I.tuple hb;refine HT.ZoE p1 p2 (fun z=>hx (r1.nil_iff.mp z)) (fun z=>⟨.ref a,H,I,rfl,q1 (r2.nil_iff.mp z)⟩) (fun z=>?_) (by rw [<- r1.length,<- r2.length];exact hz);refine ⟨.ref s.heap.objs.size,_,I.laid (t':=s.toks) (o:=.tup (xs++ys)) (fun b ob q=>Od _ q) (Oq _) ?_,rfl,q2 (fun w=>z (r2.nil_iff.mpr w)) _ (I.hok.fresh (Oq _))⟩;exact ⟨by rw [OA];exact hz,_,r1.append r2,Zau.fresh _ _⟩
end
end L2
namespace L2
open PySem PySem.Spec PyProof.Rows
noncomputable def ixN(n:Nat)(i:Int):Option Nat:=if 0<=i then (if i<n then some i.toNat else none) else if -(n:Int)<=i then some (i+n).toNat else none
noncomputable def atI(xs:List α)(i:Int):Option α:=(ixN xs.length i).bind fun j=>xs[j]?
theorem Zjs(h:ixN n i=some j):seqIndex? i n=some j/\j<n/\-(n:Int)<=i/\i<n:=by
 unfold ixN at h;by_cases h0:0<=i
 . rw [if_pos h0] at h;by_cases h1:i<n
   . rw [if_pos h1] at h;have e:i.toNat=j:=Option.some.inj h;exact ⟨by rw [seqIndex_of h0 h1,e],by lia,by lia,h1⟩
   . rw [if_neg h1] at h;cases h
 . rw [if_neg h0] at h;by_cases h1:-(n:Int)<=i
   . rw [if_pos h1] at h;have e:(i+n).toNat=j:=Option.some.inj h;exact ⟨by rw [seqIndex_neg (by lia) h1,e],by lia,h1,by lia⟩
   . rw [if_neg h1] at h;cases h
theorem ZgD(h:atI xs i=some v):∃ j,seqIndex? i xs.length=some j/\xs[j]? = some v/\j<xs.length/\-(xs.length:Int)<=i/\i<xs.length:=by
 unfold atI at h;cases e:ixN xs.length i with
 | none=>rw [e] at h;cases h
 | some j =>
   rw [e] at h;obtain ⟨h1,h2,h3,h4⟩:=Zjs e;exact ⟨j,h1,h,h2,h3,h4⟩
noncomputable def ZgE(b:Expr):Prop:=∀ o i,subscripted b false o i=operate [o,i] (getItem o i)
noncomputable def IxR(X:Cx)(r:R2):Prop :=
 ∀ (value slice:Expr) (pins:List (Addr×Obj)) (s:Shared) (Z:St) (H:Hp) (x y:V) (v u:Value) (Q:VK),Inv X pins Z H s->RelV x v->RelV y u->r x y H Q ->
   subscripted slice false v u=operate [v,u] (getItem v u)->wpAny (model X.prog X.w) X.A (subscriptTail value slice v u) (EP X pins Z Q) X.xe s
noncomputable def MtR(X:Cx)(id:String)(r:V->List V->Hp->VK->Prop):Prop :=
 ∀ (pins:List (Addr×Obj)) (s:Shared) (Z:St) (H:Hp) (x:V) (xs:List V) (v:Value) (us:List Value) (Q:VK),Inv X pins Z H s->RelV x v->Zj xs us->r x xs H Q ->
   wpAny (model X.prog X.w) X.A (call (.builtin id) (v::us)) (EP X pins Z Q) X.xe s
section
variable {X:Cx}{a b:Expr}{ta tb:TE}{pos:Pos}
theorem Zsw{r:R2}(hr:IxR X r)(ha:PE X a ta)(hb:PE X b tb)(hs:ZgE b):PE X (.Subscript a b pos) (tOp r ta tb):=by
 intro pins s Z H Q I h;exact Subscript_ (Zrn ha hb I h fun v u s2 x y H2 I2 rx ry q=>hr a b pins s2 Z H2 x y v u Q I2 rx ry q (hs _ _))
noncomputable def Zuj(K:PySem.W.Frag):R2:=fun x y H Q=>∃ p xs i v,x=.ref p/\y=.int i/\SqL K H p xs/\atI xs i=some v/\Q v H
noncomputable def Zuh(K:PySem.W.Frag):R2:=fun x y H Q=>∃ p xs i v,x=.ref p/\y=.int i/\SqT K H p xs/\atI xs i=some v/\Q v H
noncomputable def Zui:R2:=fun x y H Q=>∃ z i c,x=.str z/\y=.int i/\z.length<=sizeLine/\atI z.cps.toList i=some c/\Q (.str ⟨#[c]⟩) H
theorem Zog:IxR X (Zuj X.K):=by
 intro value slice pins s Z H x y v u Q I rx ry h hs;obtain ⟨p,xs,i,z,rfl,rfl,hq,he,q⟩:=h;cases rx;obtain ⟨t,rfl⟩:=ry;obtain ⟨its,r,pl,hz⟩:=I.list hq;obtain ⟨j,h1,h2,h3,h4,h5⟩:=ZgD he;obtain ⟨w,ew,rw'⟩:=r.get h2;have hl:=r.length;have hn:=ZbC;have fin:EP X pins Z Q w s:=⟨z,H,I,rw',q⟩
 by_cases h0:0<=i
 . have hj:i.toNat=j:=by
     rw [seqIndex_of h0 h5] at h1;exact Option.some.inj h1
   exact item_listR pl.isList h0 (by lia) (by rw [hj];simpa using ew) fin hs
 . have hj:(i+(its.toArray.size:Int)).toNat=j:=by
     rw [seqIndex_neg (by lia) h4] at h1;rw [Of,<- hl];exact Option.some.inj h1
   exact subscriptTail_builtinR (x:=w) pl.isList.typeIs slot_list_getitem.lookup
     (wpAny_getItem_list_neg (Q:=fun r s'=>r=w/\EP X pins Z Q r s') pl.isList (by lia) (by rw [Of]<;>lia) (by lia) (by rw [hj];simpa using ew) ⟨rfl,fin⟩) hs
theorem ZqR:IxR X (Zuh X.K):=by
 intro value slice pins s Z H x y v u Q I rx ry h hs;obtain ⟨p,xs,i,z,rfl,rfl,hq,he,q⟩:=h;cases rx;obtain ⟨t,rfl⟩:=ry;obtain ⟨its,r,pl,hz⟩:=I.tuple hq;obtain ⟨j,h1,h2,h3,h4,h5⟩:=ZgD he;obtain ⟨w,ew,rw'⟩:=r.get h2;have hl:=r.length;have hn:=ZbC;have fin:EP X pins Z Q w s:=⟨z,H,I,rw',q⟩
 exact subscriptTail_builtinR (x:=w) pl.typeIs slot_tuple_getitem.lookup
   (getItem_tuple (j:=j) (Q:=fun r s'=>r=w/\EP X pins Z Q r s') pl (by lia) (by lia) (by rw [Of,<- hl];exact h1) (by simpa using ew) ⟨rfl,fin⟩) hs
theorem ZqS:IxR X Zui:=by
 intro value slice pins s Z H x y v u Q I rx ry h hs;obtain ⟨z,i,c,rfl,rfl,hz,he,q⟩:=h;obtain ⟨t,rfl⟩:=rx;obtain ⟨t',rfl⟩:=ry;obtain ⟨j,h1,h2,h3,h4,h5⟩:=ZgD he;have hl:z.cps.toList.length=z.length:=by simp [Str.length]
 rw [hl] at h1 h4 h5;have hn:=ZbC;exact tail_any (typeIs_str s z t) slot_str_getitem.lookup (getItem_str (c:=c) (by
   have e1:decide (i < -(2 ^ 63:Int))=false:=decide_eq_false (by lia);have e2:decide (i ≥ 2 ^ 63)=false:=decide_eq_false (by lia);rw [e1,e2,Bool.or_false]) (by rw [h1];simpa using h2) ⟨.str ⟨#[c]⟩,H,I.tok _,⟨_,rfl⟩,q⟩) hs
theorem Zh0 (its:List Value) (n j:Nat) (u:Value):Obj.mapSeq (·.setIfInBounds j u) {cls:=.type "list",data:=.seq its.toArray n}={cls:=.type "list",data:=.seq (its.set j u).toArray n}:=by
 simp [Obj.mapSeq]
theorem Inv.lst(I:Inv X pins Z H s)(h:H p=some (.lst xs)) :
   ∃ (its:List Value) (n:Nat),Zj xs its/\s.heap.get? p=some {cls:=.type "list",data:=.seq its.toArray n}/\xs.length<=sizeLine:=by
 obtain ⟨z,its,n,r,e⟩:=I.hok p _ h;exact ⟨its,n,r,e,z⟩
theorem Inv.lstUpd{pins:List (Addr×Obj)}{Z:St}{H:Hp}{s:Shared}{p:Addr}{xs ys:List V}{its its':List Value}{n n':Nat}{f:Obj->Obj}(I:Inv X pins Z H s)(h:H p=some (.lst xs))
   (ho:s.heap.get? p=some {cls:=.type "list",data:=.seq its.toArray n}) (hf:f {cls:=.type "list",data:=.seq its.toArray n}={cls:=.type "list",data:=.seq its'.toArray n'}) (r:Zj ys its') (hz:ys.length<=sizeLine) (t:Nat) :
   Inv X pins Z (upd H p (.lst ys)) {s with heap:=s.heap.update p f,toks:=t}:=by
 have e:(s.heap.update p f).get? p=some {cls:=.type "list",data:=.seq its'.toArray n'}:=by
   rw [Heap.get?_update_self f ho (by rw [hf]<;>rfl),hf]
 refine I.write (x:=p) (e:=p) (by rw [h];trivial) (.inl rfl) (fun b u hb q=>(Heap.get?_update_other _ _ (Ne.symm hb)).trans q) ⟨_,e⟩ ?_;exact ⟨hz,its',n',r,e⟩
noncomputable def Zsi:V->V->V->Hp->(Hp->Prop)->Prop:=fun o i v H Q=>∃ p xs k j,o=.ref p/\i=.int k/\H p=some (.lst xs)/\ixN xs.length k=some j/\Q (upd H p (.lst (xs.set j v)))
theorem set_list:ZoW X Zsi:=by
 intro pins s Z H o i v ov iv u Q I ro ri rv h;obtain ⟨p,xs,k,j,rfl,rfl,hp,hj,q⟩:=h;cases ro;obtain ⟨t,rfl⟩:=ri;obtain ⟨its,n,r,ho,hz⟩:=I.lst hp;obtain ⟨h1,h2,h3,h4⟩:=Zjs hj;have hl:=r.length;have hn:=ZbC;have I':Inv X pins Z (upd H p (.lst (xs.set j v))) {s with heap:=s.heap.update p (Obj.mapSeq (·.setIfInBounds j u))} :=
   I.lstUpd hp ho (Zh0 its n j u) (r.set rv j) (by rw [List.length_set];exact hz) s.toks
 by_cases h0:0<=k
 . have hk:k.toNat=j:=by
     rw [seqIndex_of h0 h4] at h1;exact Option.some.inj h1
   exact PySem.W.ki_setAt ho h0 (by lia) (by rw [Of,<- hl];exact h4) (by rw [hk];exact ⟨_,I',q⟩)
 . have hk:(k+(its.toArray.size:Int)).toNat=j:=by
     rw [seqIndex_neg (by lia) h3] at h1;rw [Of,<- hl];exact Option.some.inj h1
   exact PySem.W.ki_setBack ho (by lia) (by rw [Of,<- hl];exact h3) (by lia) (by rw [hk];exact ⟨_,I',q⟩)
theorem ZfS(lo hi:Option Int)(n:Nat):(sliceBounds lo hi none n).1=((HT.sIx n 0 lo:Nat):Int)/\(sliceBounds lo hi none n).2.1=((HT.sIx n n hi:Nat):Int)/\(sliceBounds lo hi none n).2.2=1:=by
 refine ⟨?_,?_,rfl⟩
 . cases lo with
   | none=>simp [sliceBounds,HT.sIx]
   | some i =>
     simp only [sliceBounds,HT.sIx,Option.getD_none,show (1:Int) > 0 by decide,if_true];by_cases h:i<0
     . simp only [h,if_true]<;>lia
     . simp only [h,if_false]<;>lia
 . cases hi with
   | none=>simp [sliceBounds,HT.sIx]
   | some i =>
     simp only [sliceBounds,HT.sIx,Option.getD_none,show (1:Int) > 0 by decide,if_true];by_cases h:i<0
     . simp only [h,if_true]<;>lia
     . simp only [h,if_false]<;>lia
theorem Zfj(its:List Value)(lo hi:Option Int):slicePick its.toArray lo hi none=((its.drop (HT.sIx its.length 0 lo)).take (HT.sIx its.length its.length hi - HT.sIx its.length 0 lo)).toArray:=by
 obtain ⟨h1,h2,h3⟩:=ZfS lo hi its.toArray.size;unfold slicePick;rw [h1,h2,h3];simp only [sliceRange_one,pick_run,Of]<;>rfl
noncomputable def Zuf(K:PySem.W.Frag):V->Option Int->Option Int->Hp->VK->Prop:=fun x lo hi H Q=>∃ a xs,x=.ref a/\SqL K H a xs/\∀ p,H p=none->Q (.ref p) (upd H p (.lst (Zhk xs lo hi)))
theorem Zna:SlR X (Zuf X.K):=by
 intro pins s Z H x v vl vu lo hi sl Q I rx hs pl pu h;obtain ⟨a,xs,rfl,hx,q⟩:=h;cases rx;obtain ⟨its,r,ht,hz⟩:=I.list hx;have hlen:=r.length;refine ⟨"list",_,slot_list_getitem.lookup,ht.isList.typeIs,?_⟩;refine wpAny_getItem_list_slice ht.isList hs pl pu .none (by simp) ?_ (by rw [Of]<;>lia);rw [Zfj,<- hlen];refine ⟨.ref s.heap.objs.size,_,I.laid (t':=s.toks) (o:=.lst (Zhk xs lo hi)) (fun b ob q=>Od _ q) (Oq _) ?_,rfl,q _ (I.hok.fresh (Oq _))⟩;exact ⟨OE (Zd3 xs lo hi) hz,_,0,(r.drop (HT.sIx xs.length 0 lo)).take (HT.sIx xs.length xs.length hi - HT.sIx xs.length 0 lo),Oj _ rfl⟩
noncomputable def ZcR:V->Bool
 | .non=>true
 | .bl _=>true
 | .int _=>true
 | .str _=>true
 | _=>false
noncomputable def eqV:V->V->Bool
 | .non,.non=>true
 | .bl a,.bl b=>a==b
 | .bl a,.int b=>(if a then 1 else 0)==b
 | .int a,.bl b=>a==(if b then 1 else 0)
 | .int a,.int b=>a==b
 | .str a,.str b=>a==b
 | _,_=>false
theorem Zrg(ry:RelV y u)(rx:RelV x v)(fy:ZcR y=true)(fx:ZcR x=true):SeqAt.EqAt A s u v (eqV y x):=by
 cases y with
 | non =>
   cases ry;cases x with
   | non=>cases rx;exact SeqAt.EqAt.same _
   | bl b=>cases rx;exact SeqAt.EqAt.none_bool b
   | int b=>obtain ⟨t,rfl⟩:=rx;exact SeqAt.EqAt.none_int b t
   | str b=>obtain ⟨t,rfl⟩:=rx;exact SeqAt.EqAt.none_str b t
   | _=>exact absurd (show false=true from fx) Ow
 | bl a =>
   cases ry;cases x with
   | non=>cases rx;exact SeqAt.EqAt.bool_none a
   | bl b=>cases rx;exact SeqAt.EqAt.bool_bool a b
   | int b=>obtain ⟨t,rfl⟩:=rx;exact SeqAt.EqAt.bool_int a b t
   | str b=>obtain ⟨t,rfl⟩:=rx;exact SeqAt.EqAt.bool_str a b t
   | _=>exact absurd (show false=true from fx) Ow
 | int a =>
   obtain ⟨t',rfl⟩:=ry;cases x with
   | non=>cases rx;exact SeqAt.EqAt.int_none a t'
   | bl b=>cases rx;exact SeqAt.EqAt.int_bool a t' b
   | int b=>obtain ⟨t,rfl⟩:=rx;exact SeqAt.EqAt.int_int a t' b t
   | str b=>obtain ⟨t,rfl⟩:=rx;exact SeqAt.EqAt.int_str a t' b t
   | _=>exact absurd (show false=true from fx) Ow
 | str a =>
   obtain ⟨t',rfl⟩:=ry;cases x with
   | non=>cases rx;exact SeqAt.EqAt.str_none a t'
   | bl b=>cases rx;exact SeqAt.EqAt.str_bool a t' b
   | int b=>obtain ⟨t,rfl⟩:=rx;exact SeqAt.EqAt.str_int a t' b t
   | str b=>obtain ⟨t,rfl⟩:=rx;exact SeqAt.EqAt.str_str a t' b t
   | _=>exact absurd (show false=true from fx) Ow
 | _=>exact absurd (show false=true from fy) Ow
noncomputable def eqU(x:V)(u:Value):Bool:=match u with
 | .none=>eqV .non x
 | .bool b=>eqV (.bl b) x
 | .int i _=>eqV (.int i) x
 | .str z _=>eqV (.str z) x
 | _=>false
theorem Zmo(r:RelV y u)(f:ZcR y=true):eqU x u=eqV y x:=by
 cases y with
 | non=>cases r;rfl
 | bl b=>cases r;rfl
 | int i=>obtain ⟨t,rfl⟩:=r;rfl
 | str z=>obtain ⟨t,rfl⟩:=r;rfl
 | _=>exact absurd (show false=true from f) Ow
theorem ZdC:∀ {xs:List V}{us:List Value},Zj xs us->xs.all ZcR=true->us.any (eqU x)=xs.any fun y=>eqV y x
 | _,_,.nil,_=>rfl
 | y::xs,u::us,.cons r t,f=>by
   rw [List.all_cons,Oa] at f;rw [List.any_cons,List.any_cons,Zmo r f.1,ZdC t f.2]
theorem Zb8(rx:RelV x v)(fx:ZcR x=true):∀ {xs:List V}{us:List Value},Zj xs us->xs.all ZcR=true->∀ u∈us,SeqAt.EqAt A s u v (eqU x u)
 | _,_,.nil,_=>fun u hu=>by cases hu
 | y::xs,u::us,.cons r t,f=>fun u' hu=>by
   rw [List.all_cons,Oa] at f;rcases O2.mp hu with rfl|hu
   . rw [Zmo r f.1];exact Zrg r rx f.1 fx
   . exact Zb8 rx fx t f.2 u' hu
noncomputable def inV(x:V)(xs:List V):Bool:=xs.any fun y=>eqV y x
noncomputable def rIn(K:PySem.W.Frag)(neg:Bool):R2:=fun x y H Q=>∃ p xs,y=.ref p/\(SqL K H p xs\/SqT K H p xs)/\ZcR x=true/\xs.all ZcR=true/\Q (.bl (if neg then !inV x xs else inV x xs)) H
theorem Zkm:OpR X (compareOp .In) (rIn X.K false):=by
 intro pins s Z H x y v u Q I rx ry h;obtain ⟨p,xs,rfl,hq,fx,fs,q⟩:=h;cases ry;rcases hq with hq|hq
 . obtain ⟨its,r,pl,hz⟩:=I.list hq;refine SeqAt.in_listAt (eqU x) pl.isList (fun w hw=>Zb8 rx fx r fs w (by simpa using hw)) ⟨.bl _,H,I,rfl,?_⟩;rw [show its.toArray.any (eqU x)=its.any (eqU x) by simp,ZdC r fs];exact q
 . obtain ⟨its,r,pl,hz⟩:=I.tuple hq;refine SeqAt.in_tupleAt (eqU x) pl (fun w hw=>Zb8 rx fx r fs w (by simpa using hw)) ⟨.bl _,H,I,rfl,?_⟩;rw [show its.toArray.any (eqU x)=its.any (eqU x) by simp,ZdC r fs];exact q
theorem Zf2:OpR X (compareOp .NotIn) (rIn X.K true):=by
 intro pins s Z H x y v u Q I rx ry h;obtain ⟨p,xs,rfl,hq,fx,fs,q⟩:=h;cases ry;rcases hq with hq|hq
 . obtain ⟨its,r,pl,hz⟩:=I.list hq;refine SeqAt.notIn_listAt (eqU x) pl.isList (fun w hw=>Zb8 rx fx r fs w (by simpa using hw)) ⟨.bl _,H,I,rfl,?_⟩;rw [show its.toArray.any (eqU x)=its.any (eqU x) by simp,ZdC r fs];exact q
 . obtain ⟨its,r,pl,hz⟩:=I.tuple hq;refine SeqAt.notIn_tupleAt (eqU x) pl (fun w hw=>Zb8 rx fx r fs w (by simpa using hw)) ⟨.bl _,H,I,rfl,?_⟩;rw [show its.toArray.any (eqU x)=its.any (eqU x) by simp,ZdC r fs];exact q
theorem Zgv:ZaK X (.builtin "len") (fun xs H Q=>∃ p ys,xs=[.ref p]/\(SqL X.K H p ys\/SqT X.K H p ys)/\Q (.int ys.length) H):=by
 intro pins s Z H xs us Q I r h;obtain ⟨p,ys,rfl,hq,q⟩:=h;obtain ⟨u,rfl,rx⟩:=vals1 r;cases rx;have hn:=ZbC;rcases hq with hq|hq
 . obtain ⟨its,r',pl,hz⟩:=I.list hq;have hlen:=r'.length;exact Calls.call_len_list pl.isList (by simp only [Of]<;>lia) ⟨.int ys.length,H,I.tok _,⟨s.toks+1,by rw [Of,hlen]⟩,q⟩
 . obtain ⟨its,r',pl,hz⟩:=I.tuple hq;have hlen:=r'.length;exact len_tuple pl (by simp only [Of]<;>lia) ⟨.int ys.length,H,I.tok _,⟨s.toks+1,by rw [Of,hlen]⟩,q⟩
theorem Zgu:ZaK X (.builtin "len") (fun xs H Q=>∃ z,xs=[.str z]/\z.length<=sizeLine/\Q (.int z.length) H):=by
 intro pins s Z H xs us Q I r h;obtain ⟨z,rfl,hz,q⟩:=h;obtain ⟨u,rfl,t,rfl⟩:=vals1 r;have hn:=ZbC;exact len_str (by lia) ⟨.int z.length,H,I.tok _,⟨_,rfl⟩,q⟩
theorem ZcX:ZaK X (.type "tuple") (fun xs H Q=>∃ p ys,xs=[.ref p]/\((SqL X.K H p ys/\∀ l,H l=none->Q (.ref l) (upd H l (.tup ys)))\/(SqT X.K H p ys/\Q (.ref p) H))):=by
 intro pins s Z H xs us Q I r h;obtain ⟨p,ys,rfl,h⟩:=h;obtain ⟨u,rfl,rx⟩:=vals1 r;cases rx;rcases h with ⟨hq,q⟩|⟨hq,q⟩
 . obtain ⟨its,r',pl,hz⟩:=I.list hq;have hlen:=r'.length;refine call_tuple_list pl.isList (fun h' kp=>?_) (by simp only [Of]<;>lia);have I1:Inv X pins Z H {s with heap:=h'}:=I.kept (t':=s.toks) kp;have I2:Inv X pins Z (upd H h'.objs.size (.tup ys)) {s with heap:=h'.push {cls:=.type "tuple",data:=.seq its.toArray}} :=
     I1.laid (t':=s.toks) (fun b o e=>Od _ e) (Oq _) (show Z4 X.prog X.w _ _ _ (.tup ys) from ⟨hz,its,r',Zau.fresh _ _⟩)
   exact ⟨.ref h'.objs.size,_,I2,rfl,q _ (I1.hok.fresh (Oq _))⟩
 . obtain ⟨its,r',pl,hz⟩:=I.tuple hq;exact call_tuple_same pl ⟨.ref p,H,I,rfl,q⟩
noncomputable def tyV(K:PySem.W.Frag)(T:String)(x:V)(H:Hp):Prop:=match x with
 | .str _=>T = "str"
 | .int _=>T = "int"
 | .ref p=>(T = "list" /\ ∃ xs,SqL K H p xs)\/(T = "tuple" /\ ∃ o,K.lookup p=some o/\o.cls=.type "tuple" /\ o.dict=none) \/
     (T = "dict" /\ ((∃ kvs,H p=some (.dK kvs))\/∃ kvs,H p=some (.dT kvs)))\/(T = "set" /\ ∃ S_ n,H p=some (.set S_ n))
 | _=>False
theorem ZkQ(I:Inv X pins Z H s)(r:RelV x v)(ty:tyV X.K T x H) :
   s.TypeIs v T/\∀ a,v=.ref a->∃ ob,s.heap.get? a=some ob/\ob.dict=none:=by
 cases x with
 | str z =>
   obtain ⟨t,rfl⟩:=r;cases (show T = "str" from ty);exact ⟨typeIs_str s z t,fun _ e=>nomatch e⟩
 | int i =>
   obtain ⟨t,rfl⟩:=r;cases (show T = "int" from ty);exact ⟨typeIs_int s i t,fun _ e=>nomatch e⟩
 | ref p =>
   cases r;rcases ty with ⟨rfl,xs,hq⟩|⟨rfl,o,hk,hc,hd⟩|⟨rfl,hk⟩|⟨rfl,S_,n,hk⟩
   . obtain ⟨its,_,pl,_⟩:=I.list hq;refine ⟨pl.isList.typeIs,fun a e=>?_⟩;cases e;obtain ⟨o,n,e,c,hd,_⟩:=pl;exact ⟨o,e,hd⟩
   . refine ⟨⟨o,I.kIn p o hk,hc⟩,fun a e=>?_⟩;cases e;exact ⟨o,I.kIn _ o hk,hd⟩
   . have z:∃ o,s.heap.get? p=some o/\o.ExactDict:=by
       rcases hk with ⟨kvs,hk⟩|⟨kvs,hk⟩
       . obtain ⟨_,_,_,_,o,_,_,e,ex,_⟩:=I.hok p _ hk;exact ⟨o,e,ex⟩
       . obtain ⟨_,_,_,_,o,_,_,e,ex,_⟩:=I.hok p _ hk;exact ⟨o,e,ex⟩
     obtain ⟨o,e,ex⟩:=z;refine ⟨⟨o,e,ex.1⟩,fun a e2=>?_⟩;cases e2;exact ⟨o,e,ex.2.1⟩
   . obtain ⟨o,_,_,_,e,ex,_⟩:=I.hok p _ hk;refine ⟨⟨o,e,ex.1⟩,fun a e2=>?_⟩;cases e2;exact ⟨o,e,ex.2.1⟩
 | _=>exact False.elim ty
noncomputable def Zt1(K:PySem.W.Frag)(T:String)(r:V->List V->Hp->VK->Prop)(to:TE):TE:=fun Z H Q=>to Z H fun x H1=>tyV K T x H1/\r x [] H1 Q
noncomputable def tBM(K:PySem.W.Frag)(T:String)(r:V->List V->Hp->VK->Prop)(to:TE)(t:TA):TE:=fun Z H Q=>to Z H fun x H1=>tyV K T x H1/\t Z H1 fun xs H2=>r x xs H2 Q
variable {o e:Expr}{es:List Expr}{to:TE}{t:TA}{name:Str}{apos cpos:Pos}{T id:String}{r:V->List V->Hp->VK->Prop}
theorem Zqj (pa:PlainAttrs T) (slot:Slot T name id) (hty:typeOf (.builtin id)=pure (.type "method_descriptor")) (hm:MtR X id r) (ho:PE X o to)
   (hbase:attributeBase o name X.env (eval o X.env)=eval o X.env:=by rfl) (hline:(apos.endLine==cpos.line)=true:=by rfl):PE X (.Call (.Attribute o name apos) [] [] cpos) (Zt1 X.K T r to):=by
 intro pins s Z H Q I h;refine wpAny_Call_method0_late hbase hline (thn (ho pins s Z H _ I h) fun v s1 ⟨x,H1,I1,r1,ty,q1⟩=>?_);obtain ⟨h1,h2⟩:=ZkQ I1 r1 ty;exact ⟨T,id,pa,slot,hty,h1,h2,Calls.callWith_builtin rfl (PySem.evalArgs_none (hm pins s1 Z H1 x [] v [] Q I1 r1 .nil q1))⟩
theorem Zsx (pa:PlainAttrs T) (slot:Slot T name id) (hty:typeOf (.builtin id)=pure (.type "method_descriptor")) (hm:MtR X id r) (ho:PE X o to) (ha:PA X (e::es) t)
   (hbase:attributeBase o name X.env (eval o X.env)=eval o X.env:=by rfl)
   (hfew:((backTo cpos (starEach (e::es) X.env)).all (fun x=>!x.1)&&(backToKw cpos (keywordEach [] X.env)).all (fun x=>x.1.isSome)
     && decide ((e::es).length+([]:List Keyword).length+(if ([]:List Keyword).isEmpty then 0 else 1)<30))=true:=by rfl)
   (hline:(apos.endLine==cpos.line)=true:=by rfl) (hs:starEach (e::es) X.env=(false,eval e X.env)::starEach es X.env:=by rfl) (hplain:(backTo cpos (starEach es X.env)).any (·.1)=false:=by rfl) :
   PE X (.Call (.Attribute o name apos) (e::es) [] cpos) (tBM X.K T r to t):=by
 intro pins s Z H Q I h;refine wpAny_Call_method_late hbase hfew hline rfl (thn (ho pins s Z H _ I h) fun v s1 ⟨x,H1,I1,r1,ty,q1⟩=>?_);obtain ⟨h1,h2⟩:=ZkQ I1 r1 ty;refine ⟨T,id,pa,slot,hty,h1,h2,?_⟩;have hA:=ha cpos pins s1 Z H1 _ I1 q1;rw [hs] at hA ⊢;refine Calls.callWith_builtin (by show (false || (backTo cpos (starEach es X.env)).any (·.1))=false;rw [hplain]<;>rfl) (Calls.evalArgs_plain ?_);exact thn hA fun us s2 ⟨vs,H2,I2,r2,q2⟩=>hm pins s2 Z H2 x vs v us Q I2 r1 r2 q2
end
end L2
namespace L2
open PySem PySem.Spec PyProof.Rows
noncomputable def MtM(X:Cx)(id:String)(r:V->List V->Hp->VK->Prop):Prop :=
 ∀ (pins:List (Addr×Obj)) (s:Shared) (Z:St) (H:Hp) (x:V) (xs:List V) (v:Value) (us:List Value) (Q:VK),Inv X pins Z H s->RelV x v->Zj xs us->r x xs H Q ->
   wpAny (model X.prog X.w) X.A (call (.builtin id) (v::us)) (EP X pins Z Q) X.xe s
theorem Zj.one:∀ {x:V}{us:List Value},Zj [x] us->∃ u,us=[u]/\RelV x u
 | _,_,.cons r .nil=>⟨_,rfl,r⟩
theorem Zj.zero:∀ {us:List Value},Zj [] us->us=[]
 | _,.nil=>rfl
theorem Zj.dropLast(h:Zj xs us):Zj xs.dropLast us.dropLast:=by
 induction h with
 | nil=>exact .nil
 | cons r t ih =>
   cases t with
   | nil=>exact .nil
   | cons q t'=>exact .cons r ih
theorem Zj.reverse(h:Zj xs us):Zj xs.reverse us.reverse:=by
 induction h with
 | nil=>exact .nil
 | cons r t ih=>rw [List.reverse_cons,List.reverse_cons];exact Zj.append ih (.cons r .nil)
theorem Zii(l:List α):l.eraseIdx (l.length - 1)=l.dropLast:=by
 induction l with
 | nil=>rfl
 | cons a r ih =>
   cases r with
   | nil=>rfl
   | cons b r =>
     have e:(a::b::r).length - 1=((b::r).length - 1)+1:=by
       have h1:(a::b::r).length=r.length+2:=rfl;have h2:(b::r).length=r.length+1:=rfl
       lia
     rw [e,List.eraseIdx_cons_succ,ih]
     all_goals rfl
section
variable {X:Cx}{pins:List (Addr×Obj)}{Z:St}{H:Hp}{s:Shared}{l b:Addr}{xs ys zs:List V}
theorem Inv.lset{its its':List Value}{n:Nat}{f:Array Value->Array Value}{t':Nat}(I:Inv X pins Z H s)(hH:H l=some (.lst xs))
   (e:s.heap.get? l=some {cls:=.type "list",data:=.seq its.toArray n}) (hf:f its.toArray=its'.toArray) (hv:Zj ys its') (hz:ys.length<=sizeLine) :
   Inv X pins Z (upd H l (.lst ys)) {s with heap:=s.heap.update l (Obj.mapSeq f),toks:=t'}:=by
 have q:=PySem.IsL.update e f;rw [hf] at q;refine I.write (x:=l) (e:=l) (by rw [hH];exact trivial) (.inl rfl) (fun b' u hb hu=>(Heap.get?_update_other s.heap (Obj.mapSeq f) (Ne.symm hb)).trans hu) ⟨_,q⟩ ?_;exact ⟨hz,its',_,hv,q⟩
theorem Inv.lnew(I:Inv X pins Z H s)(hv:Zj ys its)(hz:ys.length<=sizeLine) :
   Inv X pins Z (upd H s.heap.objs.size (.lst ys)) {s with heap:=s.heap.push {cls:=.type "list",data:=.seq its.toArray},toks:=t'} :=
 I.laid (fun _ _ q=>Od _ q) (Oq _) ⟨hz,its,0,hv,Oj _ rfl⟩
theorem Inv.fresh(I:Inv X pins Z H s):H s.heap.objs.size=none:=I.hok.fresh (Oq _)
theorem Inv.lstM (I:Inv X pins Z H s) (hH:H l=some (.lst xs)):xs.length<=sizeLine/\∃ (its:List Value) (n:Nat),Zj xs its/\xs.length=its.length/\s.heap.get? l=some {cls:=.type "list",data:=.seq its.toArray n}:=by
 obtain ⟨z,its,n,r,e⟩:=I.hok l _ hH;exact ⟨z,its,n,r,r.length,e⟩
theorem ZgU{n:Nat}(h:n<=sizeLine):Builtin.List.listTooLong n=false:=by
 unfold Builtin.List.listTooLong;exact decide_eq_false (by lia)
end
section
variable {X:Cx}
noncomputable def Zno:V->List V->Hp->VK->Prop:=fun x vs H Q=>∃ l xs y,x=.ref l/\vs=[y]/\H l=some (.lst xs)/\xs.length<sizeLine/\Q .non (upd H l (.lst (xs++[y])))
theorem Zfz:MtM X "list.append" Zno:=by
 intro pins s Z H x vs v us Q I rx rv h;obtain ⟨l,xs,y,rfl,rfl,hH,hz,q⟩:=h;cases rx;obtain ⟨u,rfl,ru⟩:=rv.one;obtain ⟨z,its,n,r,hl,e⟩:=I.lstM hH;refine call_meets F.slot_list_append ⟨_,e,rfl⟩ F.entry_list_append (F.args_list_append_2 _ _) (PySem.list_append l its.toArray n u (by rw [Of];lia)) ⟨e,?_⟩;refine ⟨.non,_,I.lset (its':=its++[u]) hH e (by simp) (r.append (.cons ru .nil)) ?_,rfl,q⟩;rw [OA,List.length_singleton]
 lia
noncomputable def Znn:V->List V->Hp->VK->Prop:=fun x vs H Q=>∃ l b xs zs,x=.ref l/\vs=[.ref b]/\H l=some (.lst xs)/\H b=some (.lst zs)/\xs.length+zs.length<=sizeLine/\Q .non (upd H l (.lst (xs++zs)))
theorem Zkr:MtM X "list.extend" Znn:=by
 intro pins s Z H x vs v us Q I rx rv h;obtain ⟨l,b,xs,zs,rfl,rfl,hH,hB,hz,q⟩:=h;cases rx;obtain ⟨u,rfl,ru⟩:=rv.one;cases ru;obtain ⟨z,its,n,r,hl,e⟩:=I.lstM hH;obtain ⟨z2,its2,n2,r2,hl2,e2⟩:=I.lstM hB;have hsz:its.toArray.size+its2.toArray.size<=sizeLine:=by rw [Of,Of];lia
 have hlong:¬ (!its.toArray.isEmpty&&Builtin.List.listTooLong (its.toArray.size+its2.toArray.size))=true:=by
   rw [ZgU hsz,Bool.and_false];exact Ow
 refine call_meets F.slot_list_extend ⟨_,e,rfl⟩ F.entry_list_extend (F.args_list_extend_2 _ _)
   (AutoSeq1.list_extend_list_list_0 l its.toArray n b its2.toArray n2 hlong (by rw [Of];lia) (by lia)) ⟨e,e2,?_⟩
 refine ⟨.non,_,I.lset (its':=its++its2) hH e (by simp) (r.append r2) ?_,rfl,q⟩;rw [OA]
 lia
noncomputable def Zug:V->List V->Hp->VK->Prop:=fun x vs H Q=>∃ l xs y,x=.ref l/\vs=[]/\H l=some (.lst xs)/\xs[xs.length - 1]? = some y/\Q y (upd H l (.lst xs.dropLast))
theorem Zqx:MtM X "list.pop" Zug:=by
 intro pins s Z H x vs v us Q I rx rv h;obtain ⟨l,xs,y,rfl,rfl,hH,hy,q⟩:=h;cases rx;have hus:=rv.zero;subst hus;obtain ⟨z,its,n,r,hl,e⟩:=I.lstM hH;obtain ⟨u,hu,ru⟩:=r.get hy;have hy':its.toArray[its.toArray.size - 1]? = some u:=by
   show its.toArray[its.length - 1]? = some u;rw [<- Array.getElem?_toList,<- hl];exact hu
 refine call_meets F.slot_list_pop ⟨_,e,rfl⟩ F.entry_list_pop (F.args_list_pop_1 _) (MeetsSeq.list_pop_last l its.toArray n u hy' (by rw [Of];lia)) ⟨e,?_⟩;refine ⟨y,_,I.lset (its':=its.dropLast) hH e ?_ r.dropLast ?_,ru,q⟩
 . show its.toArray.eraseIdxIfInBounds (its.toArray.size - 1)=its.dropLast.toArray;rw [Of,List.eraseIdxIfInBounds_toArray,Zii]
 . rw [List.length_dropLast]
   lia
noncomputable def Zlg:V->List V->Hp->VK->Prop:=fun x vs H Q=>∃ l xs,x=.ref l/\vs=[]/\H l=some (.lst xs)/\Q .non (upd H l (.lst xs.reverse))
theorem ZhY:MtM X "list.reverse" Zlg:=by
 intro pins s Z H x vs v us Q I rx rv h;obtain ⟨l,xs,rfl,rfl,hH,q⟩:=h;cases rx;have hus:=rv.zero;subst hus;obtain ⟨z,its,n,r,hl,e⟩:=I.lstM hH;refine call_meets F.slot_list_reverse ⟨_,e,rfl⟩ F.entry_list_reverse (F.args_list_reverse_1 _) (AutoSeq1.list_reverse_list_0 l its.toArray n (by rw [Of];lia)) ⟨e,?_⟩;refine ⟨.non,_,I.lset (its':=its.reverse) hH e (by simp) r.reverse ?_,rfl,q⟩;rw [List.length_reverse]
 lia
noncomputable def ZpW:V->List V->Hp->VK->Prop:=fun x vs H Q=>∃ l xs,x=.ref l/\vs=[]/\H l=some (.lst xs)/\Q .non (upd H l (.lst []))
theorem ZlQ:MtM X "list.clear" ZpW:=by
 intro pins s Z H x vs v us Q I rx rv h;obtain ⟨l,xs,rfl,rfl,hH,q⟩:=h;cases rx;have hus:=rv.zero;subst hus;obtain ⟨z,its,n,r,hl,e⟩:=I.lstM hH;refine call_meets F.slot_list_clear ⟨_,e,rfl⟩ F.entry_list_clear (F.args_list_clear_1 _) (AutoSeq1.list_clear_list_0 l its.toArray n (by rw [Of];lia)) ⟨e,?_⟩;exact ⟨.non,_,I.lset (its':=[]) (ys:=[]) hH e rfl .nil (Nat.zero_le _),rfl,q⟩
noncomputable def Zul:R2:=fun x y H Q=>∃ l b xs zs,x=.ref l/\y=.ref b/\H l=some (.lst xs)/\H b=some (.lst zs)/\xs.length+zs.length<=sizeLine/\∀ p,H p=none->Q (.ref p) (upd H p (.lst (xs++zs)))
theorem Zqq:OpR X (binaryOp .Add) Zul:=by
 intro pins s Z H x y v u Q I rx ry h;obtain ⟨l,b,xs,zs,rfl,rfl,hH,hB,hz,q⟩:=h;cases rx;cases ry;obtain ⟨z,its,n,r,hl,e⟩:=I.lstM hH;obtain ⟨z2,its2,n2,r2,hl2,e2⟩:=I.lstM hB;refine PySem.P.add_list e e2 ?_ (by rw [Of,Of];lia);have ea:its.toArray++its2.toArray=(its++its2).toArray:=by simp
 rw [ea];exact ⟨.ref _,_,I.lnew (t':=s.toks) (r.append r2) (by rw [OA];lia),rfl,q _ I.fresh⟩
end
end L2
namespace Att
open PySem PySem.W PySem.Calls PyProof.Rows
theorem Zd9:∀ (ns:List Int) (vs:List Value),WellAll P h vs (ns.map WData.int)->IntsAre vs ns:=by
 intro ns;induction ns with
 | nil =>
   intro vs w;rw [Oy] at w;cases w;exact .nil
 | cons n ns ih =>
   intro vs w;rw [Op] at w;cases w with
   | cons a b =>
     cases a;exact .cons _ _ (ih _ b)
theorem Zka{l:OpenLaw}{n:Nat}(hn:l.most=some n){P:Params}{h:Heap}{args:List WData}{vals:List Value}
   (hpre:l.row.toRowW.claim.pre args=true) (hwl:WellAll P h vals args) :
   ∃ a vs ns,vals=[Value.ref a]/\args=[WData.list (ns.map WData.int)]/\h.get? a=some {cls:=.type "list",data:=.seq vs.toArray}/\IntsAre vs ns/\ns.length<=n:=by
 have hsh:WShape.hasAll [] args [.list .int]=true:=(pre_splitW hpre).1;have hc:l.pre.holds [] {args:=args}=true:=(pre_splitW hpre).2;obtain ⟨d,r,rfl,h1,h2⟩:=hasAllW_cons hsh;obtain rfl:=hasAllW_nil h2;obtain ⟨xs,rfl,h3⟩:=hasW_list h1;obtain ⟨ns,rfl⟩:=items_int h3;have hlen:ns.length<=n:=by
   unfold OpenLaw.pre at hc;have h4:(WTm.not (.lt (.lit (.int (n:Int))) (.len (.arg 0)))).holds [] {args:=[.list (ns.map .int)]}=true:=by
     have h4:=(holds_andW hc).1;rw [hn] at h4;exact h4
   have h5:=condW_of h4 (w_not (w_lt w_lit (w_len_list (w_arg rfl))));rw [List.length_map] at h5;refine Nat.le_of_not_lt fun q=>?_;have q':(n:Int)<((ns.length:Nat):Int):=by lia
   first
     | (rw [decide_eq_true q'] at h5;exact absurd h5 (by decide))
     | (simp at h5;lia)
 cases hwl with
 | cons w1 w2 =>
   cases w2;cases w1 with
   | list ho hall=>exact ⟨_,_,ns,rfl,rfl,ho,Zd9 ns _ hall,hlen⟩
theorem Zkf(l:OpenLaw)(args:List WData):l.row.toRowW.claim.post args (.bool true) args=true :=
 postW_of (r:=l.row.toRowW) (X:=(true==true))
   (show WShape.has [] (.bool true) .bool=true by first|rfl|decide|simp [WShape.has,WShape.arms,WShape.armsAll])
   (show (WTm.eq .res (.lit (.bool true))).value [] {args:=args,res:=some (.bool true),after:=args}=some (.bool (true==true)) from w_eq_bool (w_res rfl) w_lit) rfl
theorem ZhB{l:OpenLaw}{n:Nat}{q:Program}{loose:List Str}{XP:(Str->Option Value)->Heap->Prop}{YP:World->Heap->Prop}{d:DefRec}
   (hn:l.most=some n) (hdf:d.params.defaults=[])
   (call:∀ (w:World) (s₀ s₁:Shared) (mg mb:Str->Option Value) (fa:Addr) (o:Obj) (pm cd doc:Value) (a:Addr) (vs:List Value) (ns:List Int),
     Ground q loose [] XP w s₀ mg mb s₁.heap->YP w s₁.heap ->
     s₁.heap.get? fa=some o->o.data=.func (docDef d.name d.params d.body d.scope pm cd doc)->s₁.heap.CodeRec cd d.name->mg d.name=some (.ref fa) ->
     s₁.heap.get? a=some {cls:=.type "list",data:=.seq vs.toArray}->IntsAre vs ns->ns.length<=n->s₁.gens=#[] ->
     codeAny (model l.prog w) callerA (.call (.ref fa) ⟨[.ref a],[]⟩) (fun r s'=>r=.ok (.ret (.bool true))/\OldK s₁.heap s'.heap/\s'.os=s₁.os/\AllBare s'.gens) s₁) :
   WalkO q loose XP YP l.row.toRowW d [] (fun f vs=>PySem.call f vs):=by
 intro w s₀ s₁ mg mb G Y fa o pm cd doc dV kV ho hd hcd hD hmg hg args vals as hpre hlay hrd hwl hlo;obtain rfl:dV=.none:=Dflts.none hD hdf;obtain rfl:kV=.none:=Dflts.noKw hD;obtain ⟨a,vs,ns,rfl,rfl,hobj,hints,hlen⟩:=Zka hn hpre hwl;refine enter_call (codeAny_mono (call w s₀ s₁ mg mb fa o pm cd doc a vs ns G Y ho (fd_plain hd) hcd hmg hobj hints hlen hg) fun r s' hq=>?_);obtain ⟨rfl,h2,h3,h4⟩:=hq;exact ⟨.inl ⟨.bool true,.bool true,[],rfl,fun _=>rfl,.bool true,Zkf l _,fun _=>⟨List.Pairwise.nil,fun _ hm=>(nomatch hm)⟩⟩,h2,h3,h4⟩
end Att
namespace L2
open PySem PySem.Spec PyProof.Rows
theorem Zfs:∀ {vs:List Value}{ns:List Int},IntsAre vs ns->Zj (ns.map V.int) vs
 | _,_,.nil=>.nil
 | _,_,.cons n t h=>.cons ⟨t,rfl⟩ (Zfs h)
noncomputable def ZoX(H:Hp):Prop:=∀ b,H b=none\/∃ o xs,H b=some (.frz o (.lst xs))
theorem Zl0{P:Program}{w:World}{K:PySem.W.Frag}{mg mb:Str->Option Value}{CX:CXT}{k:Nat}{fa a:Addr}{fd:FuncData}{x:Str}{sp:Sp}{s₁:Shared}{vs:List Value}{ns:List Int}
   (KX:K.In s₁.heap) (hns:s₁.heap.Ns mainGlobals mg) (hb:s₁.heap.Ns builtinsNs mb) (hbb:∀ x:Str,x ≠ "__name__" -> mb x=bootBuiltins x) (hlim:s₁.heap.NoLimit) (hg:s₁.gens=#[])
   (ha:s₁.heap.get? a=some {cls:=.type "list",data:=.seq vs.toArray}) (hi:IntsAre vs ns) (hl:ns.length<=sizeLine) (hr:Room k callerA)
   (F:∀ base:Heap,K.In base->base.Ns mainGlobals mg->FnOk P w K mg base CX k fa fd [x] sp) (hbind:∀ (s:Shared) (u:Value),BindsTo s fd ⟨[u],[]⟩ [(x,u)])
   (hsp:∀ H:Hp,ZoX H->SqL K H a (ns.map V.int)->sp [.ref a] H (fun v _=>v=.bl true) fun _ _ _=>False)
   (hCX:∀ H e s',CX [] H s₁ (fun _ _ _=>False) e s'->False) :
   codeAny (model P w) callerA (.call (.ref fa) ⟨[.ref a],[]⟩) (fun r s'=>r=.ok (.ret (.bool true))/\OldK s₁.heap s'.heap/\s'.os=s₁.os/\AllBare s'.gens) s₁:=by
 have rv:=Zfs hi;have lenV:=hi.length;have core:∀ H:Hp,ZoX H->SqL K H a (ns.map V.int)->HOk P w H s₁.heap->(∀ b,H b≠none->b=a)->(H a≠none->K.lookup a=none) ->
     codeAny (model P w) callerA (.call (.ref fa) ⟨[.ref a],[]⟩) (fun r s'=>r=.ok (.ret (.bool true))/\OldK s₁.heap s'.heap/\s'.os=s₁.os/\AllBare s'.gens) s₁:=by
   intro H hO hS hok hA hK;have base_of:∀ {b:Addr}{o:Obj},s₁.heap.get? b=some o->H b=none->(Zgg s₁.heap H).get? b=some o:=fun e n=>Zma e n;have noA:∀ {b:Addr}{o:Obj}{es:Array DictEntry}{ep:Nat},s₁.heap.get? b=some o->o.data=.dict es ep->H b=none:=fun {b o es ep} e d=>by
     cases q:H b with
     | none=>rfl
     | some u =>
       have e':b=a:=hA b (by rw [q];simp);subst e';rw [ha] at e;cases e;have d':Data.seq vs.toArray _=Data.dict es ep:=d;cases d'
   have nsK:∀ {b:Addr}{m:Str->Option Value},s₁.heap.Ns b m->(Zgg s₁.heap H).Ns b m:=fun {b m} ⟨o,es,ep,e,d,r⟩=>⟨o,es,ep,base_of e (noA e d),d,r⟩
   have hKb:K.In (Zgg s₁.heap H):=fun b o e=>base_of (KX b o e) (by
     cases q:H b with
     | none=>rfl
     | some u =>
       have e':b=a:=hA b (by rw [q];simp);subst e';rw [hK (by rw [q];simp)] at e;cases e)
   have hM:Mod K mg (Zgg s₁.heap H):=⟨hKb,nsK hns,⟨mb,nsK hb,hbb⟩,let ⟨mc,h1,h2⟩:=hlim;⟨mc,nsK h1,h2⟩⟩
   have e0:Env0 P w K mg (Zgg s₁.heap H) callerA [] s₁ H:=⟨rfl,hM,fun b o e=>Zn1 e,Nat.le_of_eq (Zky _ _),trivial,fun b hb=>absurd (show b∈([]:List Addr) from hb) (by simp),hok,.of_eq hg⟩
   refine codeAny_mono ((F _ hKb (nsK hns)).run callerA [] s₁ H ⟨[.ref a],[]⟩ [.ref a] [.ref a] _ _ hr e0 (hbind s₁ (.ref a)) (.cons rfl .nil) (hsp H hO hS)) fun r s' h=>?_;cases r with
   | error e=>exact (hCX H e s' h).elim
   | ok fl =>
     cases fl with
     | next=>exact False.elim h
     | brk=>exact False.elim h
     | cont=>exact False.elim h
     | ret u =>
       obtain ⟨v,H',os,bare,un,hok',r',q⟩:=h;have q':v=.bl true:=q;subst q';obtain rfl:u=Value.bool true:=r';refine ⟨rfl,OldK.of_keep fun b o e=>?_,os,bare⟩;cases q:H b with
       | none=>exact un.keep b o e q (by intro z;exact absurd (show b∈([]:List Addr) from z) (by simp)) (by simp)
       | some u =>
         rcases hO b with z|⟨ob,xs,z⟩
         . rw [q] at z;cases z
         . have z2:=un.frzs b ob _ z;obtain ⟨e1,_⟩:=hok b _ z;obtain ⟨e2,_⟩:=hok' b _ z2;rw [e] at e1;cases e1;exact e2
 cases hk:K.lookup a with
 | some o =>
   have e:=KX a o hk;rw [ha] at e;cases e;refine core (fun _=>none) (fun _=>.inl rfl) (.inr ⟨_,vs.toArray,_,hk,rfl,rfl,rfl,by rw [Of,lenV];exact hl,by simpa using rv⟩) (fun b u z=>by have z':(none:Option HO)=some u:=z;cases z') (fun b z=>absurd rfl z) fun z=>absurd rfl z
 | none =>
   refine core (fun b=>if b=a then some (.frz {cls:=.type "list",data:=.seq vs.toArray} (.lst (ns.map V.int))) else none) (fun b=>?_) (.inl (.inr ⟨{cls:=.type "list",data:=.seq vs.toArray},if_pos rfl⟩)) (fun b u z=>?_) (fun b z=>?_) fun _=>hk
   . by_cases hb:b=a
     . exact .inr ⟨_,_,if_pos hb⟩
     . exact .inl (if_neg hb)
   . by_cases hb:b=a
     . have z':=(if_pos hb).symm.trans z;cases z';subst hb;exact ⟨ha,by rw [List.length_map];exact hl,vs,_,rv,ha⟩
     . have z':=(if_neg hb).symm.trans z;cases z'
   . by_cases hb:b=a
     . exact hb
     . exact absurd (if_neg hb) z
end L2
namespace L2
open PySem PySem.Spec PyProof.Rows
theorem ZmY{l:PySem.W.OpenLaw}{n k:Nat}{q:Program}{loose:List Str}{XP:(Str->Option Value)->Heap->Prop}{YP:World->Heap->Prop}{d:DefRec}{K:Params->PySem.W.Frag}{CX:World->CXT}{sp:World->Sp}{x:Str}
   (hn:l.most=some n) (hn2:n<=sizeLine) (hdf:d.params.defaults=[]) (hr:Room k callerA)
   (hY:∀ (w:World) (h:Heap),YP w h->(K w.params).In h)
   (F:∀ (w:World) (mg:Str->Option Value) (fa:Addr) (h:Heap),(K w.params).In h->h.Ns mainGlobals mg->mg d.name=some (.ref fa) ->
     ∃ fd:FuncData,(∀ (s:Shared) (u:Value),BindsTo s fd ⟨[u],[]⟩ [(x,u)]) /\
       ∀ base:Heap,(K w.params).In base->base.Ns mainGlobals mg->FnOk l.prog w (K w.params) mg base (CX w) k fa fd [x] (sp w))
   (hsp:∀ (w:World) (H:Hp) (a:Addr) (ns:List Int),ns.length<=n->ZoX H->SqL (K w.params) H a (ns.map V.int)->sp w [.ref a] H (fun v _=>v=.bl true) fun _ _ _=>False)
   (hCX:∀ (w:World) (H:Hp) (s:Shared) (e:Value) (s':Shared),CX w [] H s (fun _ _ _=>False) e s'->False) :
   PySem.W.WalkO q loose XP YP l.row.toRowW d [] (fun f vs=>PySem.call f vs):=by
 refine Att.ZhB hn hdf fun w s₀ s₁ mg mb fa o pm cd doc a vs ns G Y ho hd hcd hmg hobj hints hlen hg=>?_;have KX:=hY w _ Y;obtain ⟨fd,hb,hF⟩:=F w mg fa _ KX G.T.g hmg;exact Zl0 KX G.T.g G.T.b G.T.builtins G.T.nolimit hg hobj hints (OE hlen hn2) hr hF hb (fun H hO hS=>hsp w H a ns hlen hO hS) fun H e s'=>hCX w H s₁ e s'
end L2
namespace L2
open PySem PySem.Spec PyProof.Rows
noncomputable def inClass(s:Stmt)(j:Nat):Stmt:=match s with
 | .ClassDef _ _ _ body _ _ _ _ _ _ _=>body.getD j (.Pass ⟨0,0,0,0⟩)
 | _=>.Pass ⟨0,0,0,0⟩
noncomputable def ZcI(s:Stmt):Arguments:=match s with
 | .FunctionDef _ a _ _ _ _ _ _ _ _=>a
 | _=>{posonlyargs:=[],args:=[],vararg:=none,kwonlyargs:=[],kw_defaults:=[],kwarg:=none,defaults:=[]}
noncomputable def Za6(s:Stmt):List Stmt:=match s with
 | .FunctionDef _ _ b _ _ _ _ _ _ _=>b
 | _=>[]
noncomputable def ZO(s:Stmt):Scope:=match s with
 | .FunctionDef _ _ _ _ _ _ sc _ _ _=>sc
 | _=>{kind:=.function,names:=[],isGenerator:=false,isCoroutine:=false}
noncomputable abbrev E0:XK:=fun _ _ _=>False
structure Fun(K:PySem.W.Frag)(x qual:Str)(st:Stmt)(f:Addr)(fd:FuncData):Prop where
 ex:∃ (oc:Value) (od:Option Addr) (kV doc pm:Value) (an:Option Addr) (cdv ct:Value) (osl:Array (Option Value)),
   fd=PySem.W.fnOf x qual (ZcI st) (Za6 st) (ZO st) .none kV doc pm an cdv ct/\K.lookup f=some ⟨oc,od,.func fd,osl⟩/\PySem.W.codeIn K cdv qual=true
 kp:PySem.W.keepIn K (.ref f)=true
section
variable {P:Program}{w:World}{K:PySem.W.Frag}{mg:Str->Option Value}{base:Heap}
theorem Fun.binds{x qual:Str}{st:Stmt}{f:Addr}{fd:FuncData}{ps:List Str}(F:Fun K x qual st f fd)
   (h:∀ (kV doc pm:Value) (an:Option Addr) (cdv ct:Value) (us:List Value),us.length=ps.length->bindArgs (PySem.W.fnOf x qual (ZcI st) (Za6 st) (ZO st) .none kV doc pm an cdv ct) ⟨us,[]⟩=pure (ps.zip us)):Binds K fd ps []:=by
 obtain ⟨oc,od,kV,doc,pm,an,cdv,ct,osl,rfl,lk,hcd⟩:=F.ex;exact .all (h kV doc pm an cdv ct)
theorem Zmf{x qual:Str}{st:Stmt}{f:Addr}{oc:Value}{od an:Option Addr}{osl:Array (Option Value)}{kV doc pm cdv ct:Value}(l:K.lookup f=some ⟨oc,od,.func (PySem.W.fnOf x qual (ZcI st) (Za6 st) (ZO st) .none kV doc pm an cdv ct),osl⟩)
   (c:PySem.W.codeIn K cdv qual=true) (k:PySem.W.keepIn K (.ref f)=true):Fun K x qual st f (PySem.W.fnOf x qual (ZcI st) (Za6 st) (ZO st) .none kV doc pm an cdv ct):=⟨⟨oc,od,kV,doc,pm,an,cdv,ct,osl,rfl,l,c⟩,k⟩
end
theorem Zh8{A B_:Prop}(h:B_):if false=true then A else B_:=by
 rw [if_neg Ow];exact h
theorem Zh7{A B_:Prop}(h:A):if true=true then A else B_:=by
 rw [if_pos rfl];exact h
end L2
end
section
set_option tactic.hygienic false
namespace L2
open PySem PySem.Spec PyProof.Rows
section
variable {κ:Type} [DecidableEq κ]
noncomputable def Zc9(kvs:List (κ×V))(k:κ):Option V:=(kvs.find? fun kv=>decide (kv.1=k)).map (·.2)
noncomputable def putK(kvs:List (κ×V))(k:κ)(v:V):List (κ×V) :=
 if (kvs.any fun kv=>decide (kv.1=k))=true then kvs.map (fun kv=>if kv.1=k then (kv.1,v) else kv) else kvs++[(k,v)]
theorem ZkM{p:κ×V}{r:List (κ×V)}{k:κ}(e:p.1=k):Zc9 (p::r) k=some p.2:=by simp [Zc9,List.find?_cons,e]
theorem ZkN{p:κ×V}{r:List (κ×V)}{k:κ}(e:¬ p.1=k):Zc9 (p::r) k=Zc9 r k:=by simp [Zc9,List.find?_cons,e]
theorem ZdY(kvs:List (κ×V))(k:κ)(v:V):(putK kvs k v).length<=kvs.length+1:=by
 unfold putK;split
 . rw [List.length_map];lia
 . rw [OA,Os,List.length_nil];lia
theorem ZdD.isSome_eq{o:Option V}{u:Option Value}(r:ZdD o u):o.isSome=u.isSome:=by
 cases o with
 | none=>cases u with
   | none=>rfl
   | some _=>exact (show False from r).elim
 | some _=>cases u with
   | none=>exact (show False from r).elim
   | some _=>rfl
theorem KV.val{kvs:List (κ×V)}{vs:List (κ×Value)}(r:KV kvs vs)(k:κ):ZdD (Zc9 kvs k) (valueAt vs k):=by
 unfold KV at r;induction r with
 | nil=>exact True.intro
 | @cons p q ps qs h t ih =>
   obtain ⟨h1,h2⟩:=h;by_cases e:p.1=k
   . have e':q.1=k:=h1.symm.trans e;have b:valueAt (q::qs) k=some q.2:=by simp [valueAt,List.find?_cons,e']
     rw [ZkM e,b];exact h2
   . have e':¬ q.1=k:=fun z=>e (h1.trans z);have b:valueAt (q::qs) k=valueAt qs k:=by simp [valueAt,List.find?_cons,e']
     rw [ZkN e,b];exact ih
theorem KV.any{kvs:List (κ×V)}{vs:List (κ×Value)}(r:KV kvs vs)(k:κ):(kvs.any fun kv=>decide (kv.1=k))=vs.any fun kv=>decide (kv.1=k):=by
 unfold KV at r;induction r with
 | nil=>rfl
 | cons h t ih=>rw [List.any_cons,List.any_cons,ih,h.1]
theorem KV.repl{kvs:List (κ×V)}{vs:List (κ×Value)}(r:KV kvs vs)(k:κ){y:V}{u:Value}(ry:RelV y u) :
   KV (kvs.map fun kv=>if kv.1=k then (kv.1,y) else kv) (vs.map fun kv=>if kv.1=k then (kv.1,u) else kv):=by
 unfold KV at r ⊢;induction r with
 | nil=>exact .nil
 | @cons p q ps qs h t ih =>
   rw [Op,Op];refine .cons ?_ ih;obtain ⟨h1,h2⟩:=h;by_cases e:p.1=k
   . rw [if_pos e,if_pos (h1.symm.trans e)];exact ⟨h1,ry⟩
   . rw [if_neg e,if_neg (fun z=>e (h1.trans z))];exact ⟨h1,h2⟩
theorem KV.put{kvs:List (κ×V)}{vs:List (κ×Value)}(r:KV kvs vs)(k:κ){y:V}{u:Value}(ry:RelV y u):KV (putK kvs k y) (stored vs k u):=by
 unfold putK stored;rw [r.any k];by_cases e:(vs.any fun kv=>decide (kv.1=k))=true
 . rw [if_pos e,if_pos e];exact r.repl k ry
 . rw [if_neg e,if_neg e];exact Paired.snoc r ⟨rfl,ry⟩
theorem KV.length(r:KV kvs vs):kvs.length=vs.length:=Paired.length r
end
theorem Zg5(r:RelV (kV k) u):(ZD P w).is k u=true:=by
 cases k with
 | inl i=>obtain ⟨t,e⟩:=(show ∃ t,u=Value.int i t from r);subst e;exact ZgZ P w i t
 | inr x=>obtain ⟨t,e⟩:=(show ∃ t,u=Value.str x t from r);subst e;exact ZgY P w x t
section
variable {P:Program}{w:World}{H:Hp}{h:Heap}{a:Addr}
theorem Zsb(ok:HOk P w H h)(e:Rd H a u):Z4 P w H h a u:=e.ok ok
theorem Zmq(ok:HOk P w H h)(e:Rd H a (.dK kvs)):kvs.length<=sizeLine/\(a==sysModules)=false/\∃ vs,KV kvs vs/\h.DictOf (ZD P w) a vs :=
 show Z4 P w H h a (.dK kvs) from Zsb ok e
theorem Zpn(ok:HOk P w H h)(e:H a=some (.dK kvs)):kvs.length<=sizeLine/\(a==sysModules)=false/\∃ vs,KV kvs vs/\h.DictOf (ZD P w) a vs:=Zmq ok (.inl e)
end
section
variable {X:Cx}{pins:List (Addr×Obj)}{Z:St}{H:Hp}{s:Shared}{a:Addr}{y v:V}{u r:Value}{o:Option V}{A:Around}{E:Value->Shared->Prop}
theorem Inv.big(I:Inv X pins Z H s):sysModules<s.heap.objs.size:=by
 have h:mainGlobals<s.heap.objs.size:=(I.mod.glob.keeps I.bk).lt;exact Nat.lt_trans (by decide) h
theorem ZjA(I:Inv X pins Z H s)(mu:Mut (H a))(hs:Heap.SameBut a s.heap h')(he:∃ q,h'.get? a=some q)(new:Z4 X.prog X.w (upd H a ob) h' a ob) :
   Inv X pins Z (upd H a ob) {s with heap:=h',toks:=t'} :=
 I.write (x:=a) (e:=a) mu (.inl rfl) (fun b q hb z=>(hs.2 b hb).trans z) he new
theorem Zik(z:kvs.length<=sizeLine)(hd:(a==sysModules)=false)(rel:KV kvs vs)(dd:h'.DictOf (ZD P w) a vs) :
   Z4 P w H' h' a (.dK kvs):=⟨z,hd,vs,rel,dd⟩
end
theorem Zhj (h:Heap) (hb:sysModules<h.objs.size):Z4 P w H (h.push {cls:=.type "dict",data:=.dict #[]}) h.objs.size (.dK []) :=
 ⟨Nat.zero_le _,beq_eq_false_iff_ne.mpr (Ne.symm (Ou hb)),[],.nil,Heap.DictOf.new h⟩
noncomputable def ZpJ:TE:=fun _ H Q=>∀ p,H p=none->Q (.ref p) (upd H p (.dK []))
section
variable {X:Cx}{pos:Pos}
theorem ZlA:PE X (.Dict [] [] pos) ZpJ:=fun pins s Z H Q I h =>
 wpAny_Dict_empty ⟨.ref s.heap.objs.size,_,I.laid (a:=s.heap.objs.size) (o:=.dK []) (t':=s.toks) (fun _ _ q=>Od _ q) (Oq _) (Zhj s.heap I.big),rfl,h _ (I.hok.fresh (Oq _))⟩
end
noncomputable def ZfR:List (TE×TE)->St->Hp->(List (V×V)->Hp->Prop)->Prop
 | [],_,H,Q=>Q [] H
 | (tk,tv)::r,Z,H,Q=>tk Z H fun x H1=>tv Z H1 fun y H2=>ZfR r Z H2 fun ps H3=>Q ((x,y)::ps) H3
noncomputable abbrev VV:List (V×V)->List (Value×Value)->Prop:=Paired fun p q=>RelV p.1 q.1/\RelV p.2 q.2
noncomputable def PPs(X:Cx)(pos:Pos)(keys:List (Option Expr))(values:List Expr)(trs:List (TE×TE)):Prop :=
 ∀ (pins:List (Addr×Obj)) (s:Shared) (Z:St) (H:Hp) (Q:List (V×V)->Hp->Prop),Inv X pins Z H s->ZfR trs Z H Q ->
   wpAny (model X.prog X.w) X.A (evalPairs (pairTrees keys values X.env pos)) (fun vs s'=>∃ ps H',Inv X pins Z H' s'/\VV ps vs/\Q ps H') X.xe s
theorem Znv:PPs X pos [] [] []:=fun pins s Z H Q I h=>pairTrees_nil_walk ⟨[],H,I,.nil,h⟩
theorem Zlp(hk:PE X k tk)(hv:PE X v tv)(hr:PPs X pos ks vs trs) :
   PPs X pos (some k::ks) (v::vs) ((tk,tv)::trs):=fun pins s Z H Q I h =>
 pairTrees_cons_walk (thn (hk pins s Z H _ I h) fun u s1 ⟨x,H1,I1,rx,q1⟩=>thn (hv pins s1 Z H1 _ I1 q1) fun w2 s2 ⟨y,H2,I2,ry,q2⟩ =>
   thn (hr pins s2 Z H2 _ I2 q2) fun ws s3 ⟨ps,H3,I3,rel,q3⟩=>⟨(x,y)::ps,H3,I3,.cons ⟨rx,ry⟩ rel,q3⟩)
noncomputable def ZdJ(kvs more:List (Key×V)):List (Key×V):=more.foldl (fun acc kv=>putK acc kv.1 kv.2) kvs
theorem KV.merge:∀ {more:List (Key×V)}{rs:List (Key×Value)}{kvs:List (Key×V)}{vs:List (Key×Value)},KV more rs->KV kvs vs->KV (ZdJ kvs more) (merged vs rs):=by
 intro more rs kvs vs r;unfold KV at r;induction r generalizing kvs vs with
 | nil=>intro q;exact q
 | @cons p q ps qs h t ih =>
   intro r0;have e:KV (putK kvs p.1 p.2) (stored vs q.1 q.2):=by
     have:=r0.put p.1 h.2;rw [<- h.1];exact this
   exact ih e
theorem ZcO:∀ (more kvs:List (Key×V)),(ZdJ kvs more).length<=kvs.length+more.length
 | [],kvs=>by show kvs.length<=kvs.length+0;lia
 | p::r,kvs=>by
   have h1:=ZcO r (putK kvs p.1 p.2);have h2:=ZdY kvs p.1 p.2;show (ZdJ (putK kvs p.1 p.2) r).length<=_;rw [Os];lia
theorem Zfc:∀ {kvs:List (Key×V)}{ws:List (Value×Value)},VV (kvs.map fun kv=>(kV kv.1,kv.2)) ws->∃ rs,Carries (ZD P w) ws rs/\KV kvs rs
 | [],_,r=>by rw [Oy] at r;cases r;exact ⟨[],True.intro,.nil⟩
 | p::kvs,_,r=>by
   rw [Op] at r;cases r with
   | @cons a b as bs h t =>
     obtain ⟨rs,c,q⟩:=Zfc (P:=P) (w:=w) t;obtain ⟨b1,b2⟩:=b;exact ⟨(p.1,b2)::rs,⟨Zg5 h.1,rfl,c⟩,.cons ⟨rfl,h.2⟩ q⟩
noncomputable def Zr1(trs:List (TE×TE)):TE:=fun Z H Q=>∀ p,H p=none->ZfR trs Z (upd H p (.dK [])) fun ps H2=>H2 p=some (.dK [])/\∃ kvs:List (Key×V),ps=kvs.map (fun kv=>(kV kv.1,kv.2))/\kvs.length<=15/\Q (.ref p) (upd H2 p (.dK (ZdJ [] kvs)))
theorem ZnH(h:PPs X pos keys values trs)(hall:keys.all (·.isSome)=true)(hl:keys.length=values.length)(h0:keys≠[])
   (h15:keys.length<=15):PE X (.Dict keys values pos) (Zr1 trs):=by
 intro pins s Z H Q I q;have hn:=I.hok.fresh (Oq s.heap.objs.size);have I1:=I.laid (a:=s.heap.objs.size) (o:=.dK []) (h':=s.heap.push {cls:=.type "dict",data:=.dict #[]}) (t':=s.toks) (fun _ _ q=>Od _ q) (Oq _) (Zhj s.heap I.big);refine wpAny_Dict_walk (knd:=ZD X.prog X.w) hall hl h0 h15 (thn (h pins _ Z _ _ I1 (q _ hn)) fun ws s2 ⟨ps,H2,I2,rel,e,kvs,ep,lk,q2⟩=>?_);subst ep;obtain ⟨rs,c,rk⟩:=Zfc (P:=X.prog) (w:=X.w) rel;obtain ⟨z,hd,vs0,r0,dd⟩:=Zpn I2.hok e;cases r0;refine ⟨rs,c,dd,fun h' dd' hs=>⟨.ref s.heap.objs.size,_,?_,rfl,q2⟩⟩;have hz:(ZdJ [] kvs).length<=sizeLine:=by
   have h1:=ZcO kvs [];rw [List.length_nil] at h1;rw [sizeLine_eq];lia
 have he:∃ q,h'.get? s.heap.objs.size=some q:=let ⟨q,_,_,hq,_⟩:=dd';⟨q,hq⟩;exact ZjA I2 (by rw [e];exact True.intro) hs he (Zik hz hd (rk.merge .nil) dd')
section
variable {X:Cx}{pins:List (Addr×Obj)}{Z:St}{H:Hp}{s:Shared}{a:Addr}{kvs:List (Key×V)}{A:Around}{E:Value->Shared->Prop}
theorem Zmt (I:Inv X pins Z H s) (e:Rd H a (.dK kvs)) (h:∀ p s',H p=none->Inv X pins Z (upd H p (.dK kvs)) s'->Q (.ref p) s'):wpAny (model X.prog X.w) A (call (.type "dict") [.ref a]) Q E s:=by
 obtain ⟨z,hd,vs,rel,dd⟩:=Zmq I.hok e;refine kt_call_dict hd dd (by rw [<- rel.length];exact z) fun h' dd' hs=>?_;refine h _ _ (I.hok.fresh (Oq _)) (I.laid (a:=s.heap.objs.size) (o:=.dK kvs) (t':=s.toks) (fun b q hq=>?_) (Oq _) (Zik z (beq_eq_false_iff_ne.mpr (Ne.symm (Ou I.big))) rel dd'));exact (hs.2 b (Ou (Heap.lt_size hq))).trans (Od _ hq)
end
end L2
end
section
namespace L2
open PySem PySem.Spec PyProof.Rows
theorem Zca{env:Env}:∀ (names:List (Str×NameKind)) (x:Str),
   (names.map fun (n,k)=>if (k==NameKind.free&&env.scope.kind==.function&&env.kindOf n==some .cell) then (n,NameKind.cell) else (n,k)).lookup x =
     (names.lookup x).map fun k=>if (k==NameKind.free&&env.scope.kind==.function&&env.kindOf x==some .cell) then NameKind.cell else k
 | [],_=>rfl
 | (n,k)::r,x=>by
   have ih:=@Zca env r x;show List.lookup x ((if (k==NameKind.free&&env.scope.kind==.function&&env.kindOf n==some .cell)=true then (n,NameKind.cell) else (n,k))::_)=_;cases hx:x==n with
   | true =>
     have e:x=n:=by simpa using hx
     subst e;by_cases hc:(k==NameKind.free&&env.scope.kind==.function&&env.kindOf x==some .cell)=true
     . rw [if_pos hc];simp only [OF,hx,Option.map_some,if_pos hc]
     . rw [if_neg hc];simp only [OF,hx,Option.map_some,if_neg hc]
   | false =>
     by_cases hc:(k==NameKind.free&&env.scope.kind==.function&&env.kindOf n==some .cell)=true
     . rw [if_pos hc];simp only [OF,hx];exact ih
     . rw [if_neg hc];simp only [OF,hx];exact ih
noncomputable def ZdT(env:Env):List (Str×NameKind)->List (Str×Addr)->List (Str×Addr)
 | [],cs=>cs
 | (n,k)::r,cs=>ZdT env r (if (k==.free)=true then (n,(env.cells.lookup n).getD 0)::cs else cs)
theorem Zhq{env:Env}:∀ (l:List (Str×NameKind)) (cs:List (Str×Addr)),(∀ y∈l,y.2=.free->∃ c,env.cells.lookup y.1=some c) ->
   (∀ x c,(x,c)∈cs->env.cells.lookup x=some c)->∀ x c,(x,c)∈ZdT env l cs->env.cells.lookup x=some c
 | [],cs,_,h2,x,c,hm=>h2 x c hm
 | (n,k)::r,cs,h1,h2,x,c,hm=>by
   refine Zhq r _ (fun y hy=>h1 y (Oh _ hy)) (fun x c hm=>?_) x c hm;by_cases hk:(k==NameKind.free)=true
   . rw [if_pos hk] at hm;rcases O2.mp hm with e|hm
     . cases e;have hk':k=.free:=by
         cases k<;>first|rfl|(exact absurd hk (by decide))
       obtain ⟨c,e⟩:=h1 (n,k) Oi hk';rw [e];rfl
     . exact h2 x c hm
   . rw [if_neg hk] at hm;exact h2 x c hm
theorem ZfE:∀ (l:List (Str×NameKind)) (cs:List (Str×Addr)) (p:Str×Addr),p∈cs->p∈ZdT env l cs
 | [],_,_,h=>h
 | (n,k)::r,cs,p,h=>by
   refine ZfE r _ p ?_;by_cases hk:(k==NameKind.free)=true
   . rw [if_pos hk];exact Oh _ h
   . rw [if_neg hk];exact h
theorem Zhr:∀ (l:List (Str×NameKind)) (cs:List (Str×Addr)) (y:Str×NameKind),y∈l->y.2=.free->∃ c,(y.1,c)∈ZdT env l cs
 | (n,k)::r,cs,y,h,hf=>by
   rcases O2.mp h with e|h
   . subst e;refine ⟨(env.cells.lookup n).getD 0,ZfE r _ _ ?_⟩;have hk:(k==NameKind.free)=true:=by
       have:k=.free:=hf;subst this;rfl
     rw [if_pos hk];exact Oi
   . exact Zhr r _ y h hf
theorem ZcN:∀ {l:List (Str×α)}{x:Str}{c:α},(x,c)∈l->∃ c',l.lookup x=some c'/\(x,c')∈l
 | (n,d)::r,x,c,h=>by
   cases hx:x==n with
   | true =>
     have e:x=n:=by simpa using hx
     subst e;exact ⟨d,by simp [OF],Oi⟩
   | false =>
     rcases O2.mp h with e|h
     . cases e;simp at hx
     . obtain ⟨c',h1,h2⟩:=ZcN h;exact ⟨c',by simp only [OF,hx];exact h1,Oh _ h2⟩
theorem Zfm(h:∀ y∈scope.names,y.2=.free->∃ c,env.cells.lookup y.1=some c):closureFor scope env=pure (ZdT env scope.names []):=by
 have all:∀ (l:List (Str×NameKind)) (cs:List (Str×Addr)),(∀ y∈l,y.2=.free->∃ c,env.cells.lookup y.1=some c) ->
     (forIn l cs fun (x:Str×NameKind) r=>match x with|(name,kind)=>if (kind==NameKind.free)=true then (do let a <- cellOf env name;pure (ForInStep.yield ((name,a)::r))) else pure (ForInStep.yield r):Sem (List (Str×Addr)))=pure (ZdT env l cs):=by
   intro l;induction l with
   | nil=>intro cs _;rfl
   | cons y r ih =>
     intro cs hl;obtain ⟨n,k⟩:=y;rw [List.forIn_cons];have hr:=fun cs=>ih cs fun y hy=>hl y (Oh _ hy);by_cases hk:(k==NameKind.free)=true
     . have hk':k=.free:=by
         cases k<;>first|rfl|(exact absurd hk (by decide))
       obtain ⟨c,e⟩:=hl (n,k) Oi hk';have ec:cellOf env n=pure c:=by unfold cellOf;rw [e]
       simp only [hk,if_true,ec];show (forIn r ((n,c)::cs) _:Sem _)=_;rw [hr];show _=pure (ZdT env r (if (k==NameKind.free)=true then (n,(env.cells.lookup n).getD 0)::cs else cs));rw [if_pos hk,e];rfl
     . simp only [hk];show (forIn r cs _:Sem _)=_;rw [hr];show _=pure (ZdT env r (if (k==NameKind.free)=true then (n,(env.cells.lookup n).getD 0)::cs else cs));rw [if_neg hk]
 unfold closureFor;have z:=all scope.names [] h;dsimp only at z ⊢;rw [z];rfl
end L2
end
section
set_option tactic.hygienic false
namespace L2
open PySem PySem.Spec PyProof.Rows
theorem Zhn(I:Nat->Shared->Prop)
   (turn:∀ n s,I n s->wpAny (model prog w) A (pyNext it) (fun r s₁=>match r with
     | none=>R (.ok .next) s₁
     | some v=>wpAny (model prog w) A (letOwnedTupleGo target it v) (fun _ s₁'=>wpAny (model prog w) A (assign target env v) (fun _ s₂ =>
         wpAny (model prog w) A (forIn ifs true fun c r=>if r=true then do let ok <- isTrue c env (eval c env);pure (ForInStep.yield ok) else pure (ForInStep.yield r)) (fun ok s₃ =>
           if ok=true then wpAny (model prog w) A (eval elt env) (fun x s₄ =>
             wpAny (model prog w) A (call (.builtin "list.append") [acc,x]) (fun _ s₅=>∃ m,m<n/\I m s₅) (notedBy (model prog w) A env fun e s'=>R (.error e) s') s₄) (notedBy (model prog w) A env fun e s'=>R (.error e) s') s₃
           else ∃ m,m<n/\I m s₃) (notedBy (model prog w) A env fun e s'=>R (.error e) s') s₂) (notedBy (model prog w) A env fun e s'=>R (.error e) s') s₁') (notedBy (model prog w) A env fun e s'=>R (.error e) s') s₁) (notedBy (model prog w) A env fun e s'=>R (.error e) s') s)
   (n:Nat) (h:I n s) :
   codeAny (model prog w) A (.compLoop (.ListComp elt [⟨target,iter,ifs,0⟩] scope pos) 0 it acc env) R s:=by
 refine codeAny_loop rfl I (fun n s hI=>?_) n h;show wpAny _ A ((compTurn (.ListComp elt [⟨target,iter,ifs,0⟩] scope pos) 0 it acc env).onRaise (fun x=>do noteFrame x env;theTreesLotGoes x)) _ _ s;refine wpAny_noted ?_;rw [compTurn_list];refine wpAny_bind (wpAny_standAt (wpAny_bind (wpAny_mono (turn n s hI) (fun r s₁ h₁=>?_) fun _ _ h'=>h')));cases r with
 | none=>exact wpAny_pure h₁
 | some v =>
   refine wpAny_bind (wpAny_mono h₁ (fun _ s₁' h₁'=>?_) fun _ _ h'=>h');refine wpAny_bind (wpAny_mono h₁' (fun _ s₂ h₂=>wpAny_bind (wpAny_mono h₂ (fun ok s₃ h₃=>?_) fun _ _ h'=>h')) fun _ _ h'=>h');cases ok with
   | false=>exact wpAny_pure ⟨rfl,h₃⟩
   | true =>
     exact wpAny_bind (wpAny_bind (wpAny_mono h₃ (fun x s₄ h₄=>wpAny_bind (wpAny_mono h₄ (fun _ s₅ h₅=>wpAny_pure (wpAny_pure ⟨rfl,h₅⟩)) fun _ _ h'=>h')) fun _ _ h'=>h'))
structure CompSc(NC N:List Str)(js:List (Option Nat))(sc scope:Scope):Prop where
 kind:scope.kind=.function
 dkind:sc.kind=.function
 nocell:∀ y∈scope.names,y.2≠.cell
 locs:∀ y∈scope.names,y.2=.local->scope.names.lookup y.1=some .local
 free:∀ y∈scope.names,y.2=.free->sc.names.lookup y.1=some .cell
 nd:NC.Nodup
 len:js.length=NC.length
 jok:((NC.zip js).all fun p=>p.2.all fun j=>decide (N[j]? = some p.1)&&decide (scope.names.lookup p.1=some .free))=true
theorem CompSc.at{NC N:List Str}{js:List (Option Nat)}(S_:CompSc NC N js sc scope){i j:Nat}{x:Str}(h1:NC[i]? = some x)(h2:js[i]? = some (some j)):N[j]? = some x/\scope.names.lookup x=some .free:=by
 have h:=S_.jok;rw [OC] at h;have hm:(x,some j)∈NC.zip js:=by
   refine O1 (i:=i) ?_;rw [List.getElem?_zip_eq_some];exact ⟨h1,h2⟩
 have q:=h _ hm;simp only [Option.all_some,Oa,decide_eq_true_eq] at q;exact q
noncomputable def capt(js:List (Option Nat))(Z:St):St:=js.map fun o=>o.bind fun j=>(Z[j]?).join
noncomputable def Zy(X:Cx)(NC:List Str)(scope:Scope)(C:Addr)(s3:Shared)(H3:Hp)(fp:List Addr):Cx :=
 {X with N:=NC,s₀:=s3,H₀:=H3,env:=compEnvC scope (ZdT X.env scope.names []) C X.env,outer:=X.stack,stack:=X.stack,ex:=fp,fn:=fun _=>false,calm:=true,pn:=[],xe:=fun _ _=>False}
noncomputable def ZiJ(k:Nat)(g:TG):Prop:=∀ x Z H Q,g x Z H Q->g x Z H fun σ2 H2=>Q σ2 H2/\σ2.length=Z.length/\∀ j,k<=j->σ2[j]? = Z[j]?
noncomputable def ZhC(k:Nat)(g:TGs):Prop:=∀ x Z H Q,g x Z H Q->g x Z H fun σ2 H2=>Q σ2 H2/\σ2.length=Z.length/\∀ j,k<=j->σ2[j]? = Z[j]?
theorem Zm4(h:i<k):ZiJ k (ZbT i):=fun x Z H Q q=>⟨q,List.length_set,fun j hj=>by rw [Oc (by lia)]⟩
theorem ZiT:ZhC k Zon:=fun x Z H Q q=>⟨q.1,q.2,rfl,fun _ _=>rfl⟩
theorem Zep(h:i<k)(hu:ZhC k u):ZhC k (Zg7 (ZbT i) u):=by
 rintro xs Z H Q ⟨v,r,e,q⟩;refine ⟨v,r,e,?_⟩;have z:=hu r (Z.set i (some v)) H Q q;have z2:=hu r (Z.set i (some v)) H (fun σ2 H2=>Q σ2 H2/\σ2.length=(Z.set i (some v)).length/\∀ j,k<=j->σ2[j]? = (Z.set i (some v))[j]?) z;show u r (Z.set i (some v)) H _;have e1:(Z.set i (some v)).length=Z.length:=List.length_set;have e2:∀ j,k<=j->(Z.set i (some v))[j]? = Z[j]? := fun j hj=>Oc (by lia);have e3:(fun σ2 H2=>Q σ2 H2/\σ2.length=Z.length/\∀ j,k<=j->σ2[j]? = Z[j]?)=(fun σ2 H2=>Q σ2 H2/\σ2.length=(Z.set i (some v)).length/\∀ j,k<=j->σ2[j]? = (Z.set i (some v))[j]?):=by
   funext σ2 H2;rw [e1];refine propext ⟨fun ⟨a,b,c⟩=>⟨a,b,fun j hj=>(c j hj).trans (e2 j hj).symm⟩,fun ⟨a,b,c⟩=>⟨a,b,fun j hj=>(c j hj).trans (e2 j hj)⟩⟩
 rw [e3];exact z
theorem ZkU{K:PySem.W.Frag}(hu:ZhC k u):ZiJ k (Zom K n u):=by
 rintro x Z H Q ⟨a,xs,e,h1,h2,q⟩;exact ⟨a,xs,e,h1,h2,hu xs Z H Q q⟩
noncomputable def PIf(X:Cx)(ifs:List Expr)(t:TT):Prop :=
 ∀ (pins:List (Addr×Obj)) (s:Shared) (Z:St) (H:Hp) (Q:Bool->Hp->Prop),Inv X pins Z H s->t Z H Q ->
   wpAny (model X.prog X.w) X.A (forIn ifs true fun c r=>if r=true then do let ok <- isTrue c X.env (eval c X.env);pure (ForInStep.yield ok) else pure (ForInStep.yield r)) (TP X pins Z Q) X.xe s
noncomputable def ZtO:TT:=fun _ H Q=>Q true H
theorem Znz{X:Cx}:PIf X [] ZtO:=fun _ _ _ H _ I h=>wpAny_tests_nil ⟨H,I,h⟩
theorem Zny{X:Cx}{c:Expr}{t:TT}(hc:PT X c t):PIf X [c] t:=fun pins s Z H Q I h=>wpAny_tests_one (hc pins s Z H Q I h)
noncomputable def ZkX(wi:TI)(js:List (Option Nat))(g:TG)(tc:TT)(te:TE):TE:=fun Z H Q=>wi Z H fun J H1=>∀ D,H1 D=none->∃ W:Nat->Nat->List V->Hp->Prop,(∃ m,W 0 m [] (upd H1 D (.lst []))) /\
 ∀ i m ys H,W i m ys H->H D=some (.lst ys)->(J.stop i H/\Q (.ref D) H) \/
   (J.go i H/\ys.length<sizeLine/\∀ x H',J.yld i H x H'->g x (capt js Z) H' fun σ2 H2=>tc σ2 H2 fun b H3 =>
     if b=true then te σ2 H3 fun y H4=>H4 D=some (.lst ys)/\∃ m',m'<m/\W (i+1) m' (ys++[y]) (upd H4 D (.lst (ys++[y])))
     else H3 D=some (.lst ys)/\∃ m',m'<m/\W (i+1) m' ys H3)
section
variable {X:Cx}{pins:List (Addr×Obj)}{Z:St}{H:Hp}{s:Shared}
theorem Zl8{NC:List Str}{js:List (Option Nat)}{sc scope:Scope}{C:Addr}{h4:Heap}{tk:Nat}{fp:List Addr}{m:Str->Option Value}(S_:CompSc NC X.N js sc scope)(hsc:X.env.scope=sc)(hc:X.calm=true)
   (I:Inv X pins Z H s) (f:∀ b∈fp,Zcz X pins H b) (fo:∀ b∈fp,∃ o,s.heap.get? b=some o) (hC:C=s.heap.objs.size) (hns:h4.Ns C m) (hk:∀ b o,s.heap.get? b=some o->h4.get? b=some o) :
   Inv (Zy X NC scope C s H fp) [] (capt js Z) H {s with heap:=h4,toks:=tk}:=by
 have hcells:∀ y∈scope.names,y.2=.free->∃ c,X.env.cells.lookup y.1=some c:=fun y hy hf=>I.ok.has y.1 (.inl (show X.env.scope.names.lookup y.1=some .cell by rw [hsc];exact S_.free y hy hf));have cl1:∀ x c,(ZdT X.env scope.names []).lookup x=some c->X.env.cells.lookup x=some c:=fun x c e=>Zhq scope.names [] hcells (fun _ _ z=>by cases z) x c (PySem.mem_of_lookup e);have cl2:∀ y∈scope.names,y.2=.free->∃ c,(ZdT X.env scope.names []).lookup y.1=some c:=fun y hy hf=>by
   obtain ⟨c,hm⟩:=Zhr (env:=X.env) scope.names [] y hy hf;obtain ⟨c',e,_⟩:=ZcN hm;exact ⟨c',e⟩
 have kinds:∀ x,(Zy X NC scope C s H fp).env.kindOf x=(scope.names.lookup x).map fun k=>if (k==NameKind.free&&X.env.scope.kind==.function&&X.env.kindOf x==some .cell) then NameKind.cell else k:=fun x=>Zca scope.names x;have fcell:∀ x,scope.names.lookup x=some .free->(Zy X NC scope C s H fp).env.kindOf x=some .cell:=fun x e=>by
   rw [kinds,e];have h1:X.env.kindOf x=some .cell:=show X.env.scope.names.lookup x=some .cell by rw [hsc];exact S_.free (x,.free) (PySem.mem_of_lookup e) rfl
   have h2:X.env.scope.kind=.function:=I.ok.kind;simp only [Option.map_some,h1,h2];rfl
 have flt:∀ b∈fp,b<s.heap.objs.size:=fun b hb=>let ⟨o,e⟩:=fo b hb;Heap.lt_size e;refine ⟨⟨I.ok.mod,S_.kind,I.ok.glob,I.ok.blt,Nat.le_of_eq hC.symm,fun x y c h1 h2=>I.ok.inj x y c (cl1 x c h1) (cl1 y c h2),fun x hx=>?_,fun x c hf _=>absurd (show false=true from hf) Ow,fun _=>I.ok.hd hc,I.ok.frames,.inl rfl,fun b hb=>⟨?_,fun x c e=>(f b hb).2.2.2.2.1 x c (cl1 x c e)⟩,
     I.bs,OE I.ok.bsz I.sz,fun b o e hb=>?_,fun b hb hm=>?_,I.stack,I.stkFree⟩,
   rfl,I.bare,Un.kept hk,⟨m,hns,fun i x v h1 h2 h3=>?_⟩,fun x c e=>?_,?_,fun x c e=>I.freeC x c (cl1 x c e),fun p hp=>absurd (show p∈([]:List (Addr×Obj)) from hp) (by simp),I.hok.kept hk,?_⟩
 . rw [kinds] at hx;cases e:scope.names.lookup x with
   | none=>rw [e] at hx;rcases hx with hx|hx<;>cases hx
   | some k =>
     rw [e] at hx;have hm:=PySem.mem_of_lookup e;have hk:k=.free:=by
       by_cases hf:(k==NameKind.free)=true
       . cases k<;>first|rfl|(exact absurd hf (by decide))
       . have hf':(k==NameKind.free)=false:=Bool.eq_false_iff.mpr hf;simp only [Option.map_some,hf',Bool.false_and,OG,if_false] at hx;rcases hx with hx|hx
         . exact absurd (Option.some.inj hx) (S_.nocell _ hm)
         . exact Option.some.inj hx
     exact cl2 (x,k) hm hk
 . show b≠C;rw [hC];exact Ou (flt b hb)
 . obtain ⟨_,_,_,f3,_⟩:=f b hb;rcases f3 with z|z
   . exact I.ok.noex b o e z
   . exact absurd (Ot (Heap.lt_size e) (OE I.ok.bsz z)) (Nat.lt_irrefl _)
 . obtain ⟨_,f1,f2,_⟩:=f b hb;exact (O2.mp (I.stkSub b hm)).elim f1 f2
 . have hj:∃ j,js[i]? = some (some j)/\Z[j]? = some (some v):=by
     unfold capt at h2;rw [On] at h2;cases e:js[i]? with
     | none=>rw [e] at h2;cases h2
     | some o =>
       rw [e] at h2;have h2':(o.bind fun j=>(Z[j]?).join)=some v:=Option.some.inj h2;cases o with
       | none=>cases h2'
       | some j =>
         refine ⟨j,rfl,?_⟩;have h3':(Z[j]?).join=some v:=h2';cases q:Z[j]? with
         | none=>rw [q] at h3';cases h3'
         | some r=>rw [q] at h3';rw [show r=some v from h3']
   obtain ⟨j,hj,hσ⟩:=hj;obtain ⟨hN,hfr⟩:=S_.at (show NC[i]? = some x from h1) hj;have hcell:X.env.scope.names.lookup x=some .cell:=by rw [hsc];exact S_.free (x,.free) (PySem.mem_of_lookup hfr) rfl
   obtain ⟨m0,_,hl⟩:=I.loc;obtain ⟨u,r,l⟩:=hl j x v hN hσ (.inr (.inl hcell));refine ⟨u,r,?_⟩;rcases l with ⟨k,_⟩|⟨_,c,e,z⟩
   . rw [show X.env.kindOf x=some .cell from hcell] at k;cases k
   . obtain ⟨c',e'⟩:=cl2 (x,.free) (PySem.mem_of_lookup hfr) rfl;have ec:=cl1 x c' e';rw [e] at ec;cases ec;obtain ⟨o,ho,hd⟩:=z;exact .inr ⟨.inl (fcell x hfr),c,e',o,hk _ _ ho,hd⟩
 . obtain ⟨v,o,ho,hd⟩:=I.cell x c (cl1 x c e);exact ⟨v,o,hk _ _ ho,hd⟩
 . show H C=none;rw [hC];exact I.hok.fresh (Oq _)
 . unfold capt;rw [List.length_map];exact S_.len
end
section
variable {X:Cx}{elt tg iter:Expr}{ifs:List Expr}{scope sc:Scope}{pos:Pos}{NC:List Str}{js:List (Option Nat)}{k:Nat}{wi:TI}{g:TG}{tc:TT}{te:TE}
theorem Inv.comp_out{pins:List (Addr×Obj)}{Z σ':St}{H3 H':Hp}{s3 s1:Shared}{C:Addr}{fp:List Addr}{h'':Heap}(I3:Inv X pins Z H3 s3)(f:∀ b∈fp,Zcz X pins H3 b)(hC:C=s3.heap.objs.size)
   (I':Inv (Zy X NC scope C s3 H3 fp) [] σ' H' s1) (hs:Heap.SameBut C s1.heap h''):Inv X pins Z H' {s1 with heap:=h''}:=by
 have ne:∀ b o,s3.heap.get? b=some o->b≠C:=fun b o e=>by rw [hC];exact Ou (Heap.lt_size e)
 have u:=I'.base;refine I3.call' (s':={s1 with heap:=h''}) (ch:=fp) I'.os ⟨fun b o e n hb hx=>(hs.2 b (ne b o e)).trans (u.keep b o e n hb hx),fun b o e n hb hx=>?_,u.free,fun b o e hx=>?_,u.tups,u.frzs,u.tbls⟩ ?_ I'.bare fun b hb=>?_
 . obtain ⟨sl,q⟩:=u.slot b o e n hb hx;exact ⟨sl,(hs.2 b (ne b o e)).trans q⟩
 . obtain ⟨o',q⟩:=u.there b o e hx;exact ⟨o',(hs.2 b (ne b o e)).trans q⟩
 . have hfree:H' C=none:=I'.free;intro b ob e;refine (I'.hok b ob e).stay (fun c w' hc q=>(hs.2 c ?_).trans q) (fun _ q=>q) fun _ _ q=>q;rintro rfl;rcases hc with rfl|hc
   . rw [hfree] at e;cases e
   . rw [hfree] at hc;cases hc
 . obtain ⟨_,f1,_,f3,f4,f5⟩:=f b hb;exact ⟨f3,f1,f4,f5⟩
theorem ZkD{pins:List (Addr×Obj)}{Z:St}{H3:Hp}{s3 s4:Shared}{C Dd it:Addr}{fp:List Addr}{tn:Nat->Heap->Prop}{J:It}{W:Nat->Nat->List V->Hp->Prop}{Q:VK}{m0:Nat}{post:Result->Shared->Prop}
   (hb:∀ (C:Addr) (s3:Shared) (H3:Hp) (fp:List Addr),PG (Zy X NC scope C s3 H3 fp) tg g/\PIf (Zy X NC scope C s3 H3 fp) ifs tc/\PE (Zy X NC scope C s3 H3 fp) elt te)
   (hk:ZiJ k g) (hjk:∀ j,j<k->js[j]? = some none) (hC:C=s3.heap.objs.size) (f3:∀ b∈fp,Zcz X pins H3 b) (fpl:∀ b∈fp,∃ o,s3.heap.get? b=some o) (I4:Inv (Zy X NC scope C s3 H3 fp) [] (capt js Z) H3 s4) (T:Turn X.prog X.w X.K tg J fp it tn) (st4:tn 0 s4.heap) (hD0:H3 Dd=some (.lst [])) (w0:W 0 m0 [] H3)
   (turn:∀ i m ys H,W i m ys H->H Dd=some (.lst ys)->(J.stop i H/\Q (.ref Dd) H)\/(J.go i H/\ys.length<sizeLine/\∀ x H',J.yld i H x H'->g x (capt js Z) H' fun σ2 H2=>tc σ2 H2 fun b H3 =>
     if b=true then te σ2 H3 fun y H4=>H4 Dd=some (.lst ys)/\∃ m',m'<m/\W (i+1) m' (ys++[y]) (upd H4 Dd (.lst (ys++[y]))) else H3 Dd=some (.lst ys)/\∃ m',m'<m/\W (i+1) m' ys H3))
   (stp:∀ s6 H5,Inv (Zy X NC scope C s3 H3 fp) [] (capt js Z) H5 s6->Q (.ref Dd) H5->post (.ok .next) s6) :
   codeAny (model X.prog X.w) X.A (.compLoop (.ListComp elt [⟨tg,iter,ifs,0⟩] scope pos) 0 (.ref it) (.ref Dd) (compEnvC scope (ZdT X.env scope.names []) C X.env)) post s4:=by
 have stat:∀ {H':Hp},(∀ b∈fp,H' b=none)->∀ b∈fp,Zcz (Zy X NC scope C s3 H3 fp) [] H' b:=fun hn b hb =>
   ⟨hn b hb,(by rw [hC];exact Ou (let ⟨o,e⟩:=fpl b hb;Heap.lt_size e)),fun hm=>I4.ok.exfs b hb hm,.inl hb,fun x c e=>(I4.ok.exf b hb).2 x c e,fun p hp=>absurd (show p∈([]:List (Addr×Obj)) from hp) (by simp)⟩
 refine Zhn (fun n s'=>∃ i ys H',Inv (Zy X NC scope C s3 H3 fp) [] (capt js Z) H' s'/\tn i s'.heap/\(∀ b∈fp,H' b=none)/\H' Dd=some (.lst ys)/\W i n ys H') ?_ m0
   ⟨0,[],_,I4,st4,fun b hb=>(f3 b hb).1,hD0,w0⟩
 rintro n s5 ⟨i,ys,H5,I5,st5,fr5,hD5,w5⟩;rcases turn i n ys H5 w5 hD5 with ⟨stop,qn⟩|⟨go,hlen,step⟩
 . refine wpAny_mono (T.done (Zy X NC scope C s3 H3 fp) rfl rfl rfl rfl i [] s5 (capt js Z) H5 (fun _ _=>False) I5 (stat fr5) st5 stop) (fun r s6 ⟨hr,I6⟩=>?_) fun _ _ z=>z.elim;subst hr;exact stp s6 H5 I6 qn
 . refine wpAny_mono (T.item (Zy X NC scope C s3 H3 fp) rfl rfl rfl rfl i [] s5 (capt js Z) H5 (fun _ _=>False) I5 (stat fr5) st5 go) (fun r s6 ⟨u,hr,h6⟩=>?_) fun _ _ z=>z.elim;subst hr;refine wpAny_mono h6 (fun _ s7 ⟨x,H7,I7,r7,y7,st7,fr7⟩=>?_) fun _ _ z=>z.elim;have I7':=I7.pinned (stat fr7) (T.obj _ _ st7);obtain ⟨pg,pif,pe⟩:=hb C s3 H3 fp;refine wpAny_mono (pg _ s7 (capt js Z) H7 x u _ I7' r7 (hk _ _ _ _ (step x H7 y7))) (fun _ s8 ⟨σ8,H8,I8,q8,l8,k8⟩=>?_) fun _ _ z=>z.elim;have back:∀ {H9:Hp}{s9:Shared},Inv (Zy X NC scope C s3 H3 fp) ([]++Zez fp s7.heap) σ8 H9 s9 ->
       Inv (Zy X NC scope C s3 H3 fp) [] (capt js Z) H9 s9/\tn (i+1) s9.heap/\∀ b∈fp,H9 b=none:=fun {H9 s9} I9=>by
     refine ⟨(I9.unpinned).weak l8.symm fun j v e=>?_,T.keep _ _ _ st7 fun b hb o e=>(I9.pin (b,o) (Ov _ (Ov _ (ZbB hb e)))).1,fun b hb=>?_⟩
     . by_cases hj:j<k
       . unfold capt at e;rw [On,hjk j hj] at e;cases e
       . rw [k8 j (Nat.le_of_not_lt hj)];exact e
     . obtain ⟨o,e,d⟩:=T.obj _ _ st7 b hb;exact (I9.pin (b,o) (Ov _ (Ov _ (ZbB hb e)))).2.1
   refine wpAny_mono (pif _ s8 σ8 H8 _ I8 q8) (fun ok s9 ⟨H9,I9,q9⟩=>?_) fun _ _ z=>z.elim;cases ok with
   | false =>
     rw [if_neg Ow] at q9 ⊢;obtain ⟨hD9,m',hm,w9⟩:=q9;obtain ⟨b1,b2,b3⟩:=back I9;exact ⟨m',hm,i+1,ys,H9,b1,b2,b3,hD9,w9⟩
   | true =>
     rw [if_pos rfl] at q9 ⊢;refine wpAny_mono (pe _ s9 σ8 H9 _ I9 q9) (fun y s10 ⟨v,H10,I10,r10,hD10,m',hm,w10⟩=>?_) fun _ _ z=>z.elim;refine wpAny_mono (Zfz (X:=Zy X NC scope C s3 H3 fp) _ s10 σ8 H10 (.ref Dd) [v] (.ref Dd) [y]
       (fun _ H11=>H11=upd H10 Dd (.lst (ys++[v]))) I10 rfl (.cons r10 .nil) ⟨_,ys,v,rfl,rfl,hD10,hlen,rfl⟩) (fun _ s11 ⟨_,H11,I11,_,e11⟩=>?_) fun _ _ z=>z.elim
     subst e11;obtain ⟨b1,b2,b3⟩:=back I11;exact ⟨m',hm,i+1,ys++[v],_,b1,b2,b3,Zg,w10⟩
theorem Zhm{U:Option (Value->Sem Unit)}{Q0:Value->Shared->Prop}{Q:VK}{pins:List (Addr×Obj)}{Z:St}{H:Hp}{s:Shared}(S_:CompSc NC X.N js sc scope)(hsc:X.env.scope=sc)(hc:X.calm=true)(hi:PI X tg iter wi)
   (hb:∀ (C:Addr) (s3:Shared) (H3:Hp) (fp:List Addr),PG (Zy X NC scope C s3 H3 fp) tg g/\PIf (Zy X NC scope C s3 H3 fp) ifs tc/\PE (Zy X NC scope C s3 H3 fp) elt te)
   (hk:ZiJ k g) (hjk:∀ j,j<k->js[j]? = some none) (hs:∀ x,foldedSetIterable iter X.env x=pure x) (I:Inv X pins Z H s) (h:ZkX wi js g tc te Z H Q)
   (stp:∀ C Dd (s3 s6:Shared) H3 H5 fp,C=s3.heap.objs.size->Inv X pins Z H3 s3->(∀ b∈fp,Zcz X pins H3 b)->Inv (Zy X NC scope C s3 H3 fp) [] (capt js Z) H5 s6->Q (.ref Dd) H5->compPost (model X.prog X.w) X.A X.xe U Q0 (.ref Dd) C (.ok .next) s6) :
   wpAny (model X.prog X.w) X.A (comprehension (.ListComp elt [⟨tg,iter,ifs,0⟩] scope pos) scope X.env posn (newList []) false (eval iter X.env) U) Q0 X.xe s:=by
 have hcells:∀ y∈scope.names,y.2=.free->∃ c,X.env.cells.lookup y.1=some c:=fun y hy hf=>I.ok.has y.1 (.inl (show X.env.scope.names.lookup y.1=some .cell by rw [hsc];exact S_.free y hy hf));refine wpAny_comprehension_free rfl hs (Zfm hcells) S_.kind S_.locs (thn (hi pins s Z H _ I h) fun xv s1 h1=>thn h1 fun itv s2 h2=>?_);obtain ⟨it,fp,tn,J,H2,e,I2,T,st2,f2,rest⟩:=h2;subst e;have hD:H2 s2.heap.objs.size=none:=I2.hok.fresh (Oq _);obtain ⟨W,⟨m0,w0⟩,turn⟩:=rest s2.heap.objs.size hD;refine wpAny_newObj_type (wpAny_newFunctionEnv S_.nocell (by intro y hy;simp at hy) (fun h4 hns hsb=>?_) S_.kind);have I3:Inv X pins Z (upd H2 s2.heap.objs.size (.lst [])) {s2 with heap:=s2.heap.push {cls:=.type "list",dict:=none,data:=.seq ([]:List Value).toArray}}:=I2.lnew (t':=s2.toks) (ys:=[]) (its:=[]) .nil (Nat.zero_le _);dsimp only at hns hsb ⊢;generalize hs3:({s2 with heap:=s2.heap.push {cls:=.type "list",dict:=none,data:=.seq ([]:List Value).toArray}}:Shared)=s3 at I3;have eh:s2.heap.push {cls:=.type "list",dict:=none,data:=.seq ([]:List Value).toArray}=s3.heap:=by rw [<- hs3]
 have eD:s2.heap.objs.size<s3.heap.objs.size:=by rw [<- eh,Heap.size_push];exact OH _
 rw [eh] at hns hsb;have keep:∀ b o,s3.heap.get? b=some o->h4.get? b=some o:=fun b o e=>(hsb.2 b (Ou (Heap.lt_size e))).trans (Od _ e);have fpl:∀ b∈fp,∃ o,s3.heap.get? b=some o:=fun b hb=>by
   obtain ⟨o,e,_⟩:=T.obj 0 _ st2 b hb;exact ⟨o,by rw [<- eh];exact Od _ e⟩
 have neD:∀ b∈fp,b≠s2.heap.objs.size:=fun b hb=>by
   obtain ⟨o,e,_⟩:=T.obj 0 _ st2 b hb;exact Ou (Heap.lt_size e)
 have f3:∀ b∈fp,Zcz X pins (upd H2 s2.heap.objs.size (.lst [])) b:=fun b hb=>⟨by rw [Zh (neD b hb)];exact (f2 b hb).1,(f2 b hb).2⟩
 have I4:=Zl8 (tk:=s2.toks+([]:List (Str×Value)).length) S_ hsc hc I3 f3 fpl rfl hns keep;have st4:tn 0 h4:=T.keep 0 _ _ st2 fun b hb o e=>keep b o (by rw [<- eh];exact Od _ e);have eC:(s2.heap.push {cls:=.type "list",dict:=none,data:=.seq ([]:List Value).toArray}).objs.size=s3.heap.objs.size:=by rw [eh]
 have loop:∀ s4:Shared,s4={s3 with heap:=h4,toks:=s2.toks+([]:List (Str×Value)).length} ->
     codeAny (model X.prog X.w) X.A (.compLoop (.ListComp elt [⟨tg,iter,ifs,0⟩] scope pos) 0 (.ref it) (.ref s2.heap.objs.size) (compEnvC scope (ZdT X.env scope.names []) s3.heap.objs.size X.env))
       (compPost (model X.prog X.w) X.A X.xe U Q0 (.ref s2.heap.objs.size) s3.heap.objs.size) s4:=by
   rintro s4 rfl;exact ZkD hb hk hjk rfl f3 fpl I4 T st4 Zg w0 turn fun s6 H5 I6 qn=>stp _ _ s3 s6 _ H5 fp rfl I3 f3 I6 qn
 have e4:({s2 with heap:=h4,toks:=s2.toks+([]:List (Str×Value)).length}:Shared)={s3 with heap:=h4,toks:=s2.toks+([]:List (Str×Value)).length}:=by rw [<- hs3]
 rw [eC];exact codeAny_compStart_list (loop _ e4) (T.self X.A 0 _ _ _ st4 (loop _ e4))
theorem ZnI(S_:CompSc NC X.N js sc scope)(hsc:X.env.scope=sc)(hc:X.calm=true)(hi:PI X tg iter wi)
   (hb:∀ (C:Addr) (s3:Shared) (H3:Hp) (fp:List Addr),PG (Zy X NC scope C s3 H3 fp) tg g/\PIf (Zy X NC scope C s3 H3 fp) ifs tc/\PE (Zy X NC scope C s3 H3 fp) elt te)
   (hk:ZiJ k g) (hjk:∀ j,j<k->js[j]? = some none) (hs:∀ x,foldedSetIterable iter X.env x=pure x:=by intro _;rfl) :
   PE X (.ListComp elt [⟨tg,iter,ifs,0⟩] scope pos) (ZkX wi js g tc te):=fun pins s Z H Q I h=>Zhm S_ hsc hc hi hb hk hjk hs I h fun C Dd s3 s6 H3 H5 fp hC I3 f3 I6 qn=>by
     obtain ⟨m,hm,_⟩:=I6.loc;exact ⟨m,hm,fun h' hs'=>⟨.ref Dd,H5,I3.comp_out f3 hC I6 hs',rfl,qn⟩⟩
end
end L2
end
section
namespace L2
open PySem PySem.Spec PyProof.Rows
section
variable {X:Cx}
noncomputable def TyN(K:PySem.W.Frag)(x:V)(H:Hp)(t:String):Prop:=match x with
 | .int _=>t = "int"
 | .str _=>t = "str"
 | .bl _=>t = "bool"
 | .non=>t = "NoneType"
 | .ref p=>(t = "list" /\ ∃ xs,SqL K H p xs)\/(t = "tuple" /\ ∃ xs,SqT K H p xs)
 | _=>False
theorem Zmw:ZaK X (.builtin "isinstance") (fun xs H Q=>∃ x t T b,xs=[x,.ty T]/\TyN X.K x H t/\PySem.W.kitOne X.K (.type t) (.type T)=some b/\Q (.bl b) H):=by
 intro pins s Z H xs us Q I r h;obtain ⟨x,t,T,b,rfl,ty,e,q⟩:=h;obtain ⟨u,w',rfl,rx,rT⟩:=vals2 r;obtain rfl:w'=Value.type T:=rT;have fin:∀ tk,EP X pins Z Q (.bool b) {s with toks:=tk}:=fun tk=>⟨.bl b,H,I.tok tk,rfl,q⟩
 cases x with
 | int i =>
   obtain ⟨tk,rfl⟩:=rx;obtain rfl:t = "int" := ty;exact PySem.W.kia_one PySem.W.kitx_int I.kIn trivial e (by intro z;cases z) fin
 | str i =>
   obtain ⟨tk,rfl⟩:=rx;obtain rfl:t = "str" := ty;exact PySem.W.kia_one PySem.W.kitx_str I.kIn trivial e (by intro z;cases z) fin
 | bl i =>
   obtain rfl:u=Value.bool i:=rx;obtain rfl:t = "bool" := ty;exact PySem.W.kia_one PySem.W.kitx_bool I.kIn trivial e (by intro z;cases z) fin
 | non =>
   obtain rfl:u=Value.none:=rx;obtain rfl:t = "NoneType" := ty;exact PySem.W.kia_one PySem.W.kitx_none I.kIn trivial e (by intro z;cases z) fin
 | ref p =>
   obtain rfl:u=Value.ref p:=rx;rcases ty with ⟨rfl,xs,hx⟩|⟨rfl,xs,hx⟩
   . obtain ⟨its,_,pl,_⟩:=I.list hx;exact PySem.W.kia_one PySem.W.kitx_list I.kIn pl.isList.typeIs e (by intro z;cases z) fin
   . obtain ⟨its,_,pl,_⟩:=I.tuple hx;exact PySem.W.kia_one PySem.W.kitx_tuple I.kIn pl.typeIs e (by intro z;cases z) fin
 | _=>exact (show False from ty).elim
theorem Zkv{K:PySem.W.Frag}(h:PySem.W.kitOne [] (.type t) (.type T)=some b):PySem.W.kitOne K (.type t) (.type T)=some b:=h
theorem range_all(bs:List Bool):(List.range bs.length).all (fun i=>bs.getD i false)=bs.all id:=by
 rw [Bool.eq_iff_iff,OC,OC];constructor
 . intro h x hx;obtain ⟨i,hi,e⟩:=List.getElem_of_mem hx;have:=h i (List.mem_range.mpr hi);rw [List.getD_eq_getElem?_getD,Og hi] at this;subst e;exact this
 . intro h i hi;have hi':=List.mem_range.mp hi;rw [List.getD_eq_getElem?_getD,Og hi'];exact h _ (List.getElem_mem hi')
theorem Zmx (hc:X.calm=true):ZaK X (.builtin "all") (fun xs H Q=>∃ (a:Addr) (bs:List Bool),xs=[.ref a]/\SqL X.K H a (bs.map V.bl)/\Q (.bl (bs.all id)) H):=by
 intro pins s Z H xs us Q I r h;obtain ⟨a,bs,rfl,hx,q⟩:=h;obtain ⟨u,rfl,rx⟩:=vals1 r;obtain rfl:u=Value.ref a:=rx;obtain ⟨its,rv,pl,hz⟩:=I.list hx;have hlt:a<s.heap.objs.size:=by obtain ⟨_,_,e,_⟩:=pl;exact Heap.lt_size e
 have hl:its.length=bs.length:=by have:=rv.length;rw [List.length_map] at this;exact this.symm
 refine call_all_walk (wpAny_pyIter_list pl.isList ?_);refine ⟨s.heap.objs.size,_,_,_,_,_,fun i=>bs.getD i false,rfl,Walks.list (A:=X.A.in1) (show X.A.in1.handled=none from I.ok.hd hc) s.heap.objs.size a (Ou hlt) its.toArray,⟨⟨_,Oj _ rfl,rfl,rfl⟩,pl.isList.push _⟩,?_,fun h' tk hk=>?_⟩
 . intro i v s' Q' E' hv hq;have hv':its[i]? = some v:=by simpa using hv
   have hi:i<bs.length:=by rw [<- hl];exact (Ob.mp hv').1
   have hb:(bs.map V.bl)[i]? = some (.bl bs[i]):=by rw [On,Og hi]<;>rfl
   obtain ⟨u',e',r'⟩:=rv.get hb;rw [hv'] at e';cases e';obtain rfl:v=Value.bool bs[i]:=r';refine wpAny_truthy_bool ?_;have e:bs.getD i false=bs[i]:=by rw [List.getD_eq_getElem?_getD,Og hi]<;>rfl
   rw [<- e];exact hq
 . refine ⟨.bl (bs.all id),H,I.kept fun b o e=>hk b o (fun z=>?_) (Od _ e),?_,q⟩
   . have:b=s.heap.objs.size:=by simpa using z
     subst this;exact absurd (Heap.lt_size e) (Nat.lt_irrefl _)
   . rw [<- range_all];show Value.bool ((List.range its.toArray.size).all _)=_;rw [Of,hl]
noncomputable def Zue:V->Option Int->Option Int->Hp->VK->Prop:=fun x lo hi H Q=>∃ y,x=.str y/\y.length<=sizeLine/\Q (.str (StrLaws.sliceText y lo hi)) H
theorem ZpM:SlR X Zue:=by
 intro pins s Z H x v vl vu lo hi sl Q I rx hs pl pu h;obtain ⟨y,rfl,hz,q⟩:=h;obtain ⟨t,rfl⟩:=rx;refine ⟨"str",_,F.slot_str_getitem.lookup,typeIs_str _ _ _,?_⟩;have go:∀ (l u:Option (Int×Tok)),vl=partValue l->vu=partValue u->lo=l.map (·.1)->hi=u.map (·.1)->wpAny (model X.prog X.w) X.A (getItem (.str y t) (.ref sl)) (EP X pins Z Q) X.xe s:=by
   rintro l u rfl rfl rfl rfl;refine wpAny_getItem_str_slice (l:=l) (u:=u) (st:=none) hs rfl ?_;refine post_val_or_str ⟨OE (Txt.slice_le y _ _) hz,fun t' k=>⟨.str _,H,I.tok k,⟨t',rfl⟩,q⟩⟩
 cases pl with
 | none =>
   cases pu with
   | none=>exact go none none rfl rfl rfl rfl
   | int j tj=>exact go none (some (j,tj)) rfl rfl rfl rfl
 | int i ti =>
   cases pu with
   | none=>exact go (some (i,ti)) none rfl rfl rfl rfl
   | int j tj=>exact go (some (i,ti)) (some (j,tj)) rfl rfl rfl rfl
end
end L2
end
section
namespace L2
open PySem PySem.Spec PyProof.Rows
theorem Z4.there(x:Z4 P w H h a o):∃ ob,h.get? a=some ob:=by
 cases o with
 | lst xs=>obtain ⟨_,_,_,_,e⟩:=x;exact ⟨_,e⟩
 | tup xs=>obtain ⟨_,_,_,ob,e,_⟩:=x;exact ⟨_,e⟩
 | dK kvs=>obtain ⟨_,_,_,_,o,_,_,e,_⟩:=x;exact ⟨_,e⟩
 | dT kvs=>obtain ⟨_,_,_,_,o,_,_,e,_⟩:=x;exact ⟨_,e⟩
 | set S_ n=>obtain ⟨o,_,_,_,e,_⟩:=x;exact ⟨_,e⟩
 | ins C dx fs=>obtain ⟨_,_,_,e,_⟩:=x;exact ⟨_,e⟩
 | own y=>obtain ⟨_,e⟩:=x;exact ⟨_,e⟩
 | xd fs=>obtain ⟨_,⟨_,_,_,e,_⟩,_⟩:=x;exact ⟨_,e⟩
 | rng lo hi=>obtain ⟨_,_,_,e⟩:=x;exact ⟨_,e⟩
 | frz ob u=>obtain ⟨e,_⟩:=x;exact ⟨_,e⟩
 | tbl ps=>exact ⟨_,(show h.get? a=some _ from x)⟩
 | met f y=>exact ⟨_,(show h.get? a=some _ from x)⟩
 | ext φ=>obtain ⟨_,⟨_,e⟩,_⟩:=x;exact ⟨_,e⟩
noncomputable def Kept(fs:List Addr)(H':Hp)(h h1 B_:Heap):Prop:=∀ b o,h1.get? b=some o->(H' b≠none\/((∃ o',h.get? b=some o')/\b ∉ fs))->B_.get? b=some o
noncomputable def CXF(P:Program)(w:World):CXT:=fun outer H s E e s' =>
 ∃ (a:Addr) (cls a0:Value) (H':Hp) (B_:Heap),e=.ref a/\s'.os=s.os/\AllBare s'.gens/\Un (frs outer) [] H H' s.heap s'.heap/\HOk P w H' s'.heap /\
   Heap.FlyingW B_ outer a cls a0 s'.heap/\Kept (frs outer) H' s.heap s'.heap B_/\H' a=none/\E cls none H'
theorem ZeJ(un:Un fs [] H H' h h1)(hok:HOk P w H' h1)(kb:Kept fs H' h h1 B_)(stay:B_.StaysIn h2)(up:h1.UpToSlots h2)
   (hf:∀ b∈fs,∃ o,h1.get? b=some o/\∀ vs,o.data≠.fields vs):Un fs [] H H' h h2/\HOk P w H' h2/\Kept fs H' h h2 B_:=by
 have tr:∀ b u,H' b=some u->∃ o,h1.get? b=some o/\h2.get? b=some o/\B_.get? b=some o:=fun b u e=>by
   obtain ⟨o,q⟩:=(hok b u e).there;have z:=kb b o q (.inl (by rw [e];simp));exact ⟨o,q,stay _ _ z,z⟩
 have old:∀ b o,h.get? b=some o->b ∉ fs->∃ o1,h1.get? b=some o1/\h2.get? b=some o1/\B_.get? b=some o1:=fun b o e hb=>by
   obtain ⟨o1,q⟩:=un.there b o e (by simp);have z:=kb b o1 q (.inr ⟨⟨o,e⟩,hb⟩);exact ⟨o1,q,stay _ _ z,z⟩
 refine ⟨⟨fun b o e n hb _=>?_,fun b o e n hb _=>?_,fun b o e n _=>un.free b o e n (by simp),fun b o e _=>?_,un.tups,un.frzs,un.tbls⟩,fun b u e=>?_,fun b o e hb=>?_⟩
 . obtain ⟨o1,q1,q2,_⟩:=old b o e hb;have z:=un.keep b o e n hb (by simp);rw [q1] at z;cases z;exact q2
 . obtain ⟨sl,z⟩:=un.slot b o e n hb (by simp);obtain ⟨o',z',nf⟩:=hf b hb;rw [z] at z';cases z';obtain ⟨sl',q⟩:=up b _ z nf;exact ⟨sl',q⟩
 . by_cases hb:b∈fs
   . obtain ⟨o',z',nf⟩:=hf b hb;obtain ⟨sl',q⟩:=up b _ z' nf;exact ⟨_,q⟩
   . obtain ⟨o1,_,q2,_⟩:=old b o e hb;exact ⟨_,q2⟩
 . refine (hok b u e).stay (fun c v hc q=>?_) (fun _ q=>q) fun _ _ q=>q;have hc':∃ u',H' c=some u':=by
     rcases hc with rfl|hc
     . exact ⟨u,e⟩
     . exact ⟨_,hc⟩
   obtain ⟨u',e'⟩:=hc';obtain ⟨o,q1,q2,_⟩:=tr c u' e';rw [q] at q1;cases q1;exact q2
 . rcases hb with hb|⟨⟨o',e'⟩,hb⟩
   . cases q:H' b with
     | none=>exact absurd q hb
     | some u =>
       obtain ⟨o1,q1,q2,q3⟩:=tr b u q;rw [e] at q2;cases q2;exact q3
   . obtain ⟨o1,q1,q2,q3⟩:=old b o' e' hb;rw [e] at q2;cases q2;exact q3
noncomputable def ZjV(X:Cx)(E:XK):Prop:=∀ (pins:List (Addr×Obj)) (Z:St) (H:Hp) (s:Shared) (h':Heap) (e:Addr) (cls:Value) (vs:List Value),Inv X pins Z H s->Heap.MadeExcOf s.heap h' e cls vs->E cls none H->X.xe (.ref e) {s with heap:=h'}
section
variable {P:Program}{w:World}{K:PySem.W.Frag}{mg:Str->Option Value}{base:Heap}{N:List Str}{qual:Str}{scope:Scope}{f:Addr}{cd:Value}{A:Around}{outer:List Env}{s0:Shared}{H0:Hp}{E:XK}
theorem Zk7:ZjV (Zim (CXF P w) P w K mg base N qual scope f cd A outer s0 H0 E) E:=by
 intro pins Z H s h' e cls vs I hx hE;have hfr:(A.deeper (envOfC qual scope s0.heap.objs.size f cd)).frames=some (envOfC qual scope s0.heap.objs.size f cd::outer):=I.ok.frames;have hin:∀ env∈(envOfC qual scope s0.heap.objs.size f cd::outer),∀ b,env.frame=some b->b∈(envOfC qual scope s0.heap.objs.size f cd::outer).filterMap (·.frame):=fun env he b hb=>List.mem_filterMap.mpr ⟨env,he,hb⟩;have hst:s.heap.FunFrames base (envOfC qual scope s0.heap.objs.size f cd::outer):=I.stack;show wpAny (model P w) (A.deeper (envOfC qual scope s0.heap.objs.size f cd)) (leaving (envOfC qual scope s0.heap.objs.size f cd) (.ref e)) _ _ {s with heap:=h'};refine wpAny_leaves_madeW (s:={s with heap:=h'}) (base:=PySem.W.hideAll s.heap (frs (envOfC qual scope s0.heap.objs.size f cd::outer))) hfr rfl (fun b o q=>PySem.W.of_hideAll _ q) (PySem.W.funFrames_hide hst hin) hx fun h'' t x1 x2 x3 x4=>?_;have un:Un (frs outer) [] H0 H s0.heap h':=(I.base:Un (frs outer) [] H0 H s0.heap s.heap).trans (Un.kept hx.keeps);have hok:HOk P w H h':=I.hok.kept hx.keeps;have kb:Kept (frs outer) H s0.heap h' (PySem.W.hideAll s.heap (frs (envOfC qual scope s0.heap.objs.size f cd::outer))):=fun b o e1 hb=>by
   rcases hb with hb|⟨⟨o',e'⟩,hb⟩
   . cases q:H b with
     | none=>exact absurd q hb
     | some u =>
       obtain ⟨o1,q1⟩:=(I.hok b u q).there;have q2:=hx.keeps b o1 q1;rw [e1] at q2;cases q2;exact PySem.W.hideAll_get _ q1 fun hm=>by
         have z:H b=none:=I.stkFree b hm;rw [q] at z;cases z
   . obtain ⟨o1,q1⟩:=(I.base:Un (frs outer) [] H0 H s0.heap s.heap).there b o' e' (show b ∉ ([]:List Addr) from List.not_mem_nil);have q2:=hx.keeps b o1 q1;rw [e1] at q2;cases q2;refine PySem.W.hideAll_get _ q1 fun hm=>?_;have hm':b∈s0.heap.objs.size::frs outer:=I.stkSub b hm;rcases O2.mp hm' with z|z
     . rw [z] at e';exact absurd (Heap.lt_size e') (Nat.lt_irrefl _)
     . exact hb z
 have hfo:∀ b∈frs outer,∃ o,h'.get? b=some o/\∀ vs,o.data≠.fields vs:=fun b hb=>by
   obtain ⟨_,o,q,nf⟩:=I.funs.mem hb;exact ⟨o,hx.keeps _ _ q,nf⟩
 obtain ⟨r1,r2,r3⟩:=ZeJ un hok kb x1.1 x4 hfo;refine ⟨e,cls,_,H,_,rfl,I.os,I.bare,r1,r2,x1,r3,?_,hE⟩;cases q:H e with
 | none=>rfl
 | some u =>
   obtain ⟨o1,q1⟩:=(I.hok e u q).there;rw [hx.new] at q1;cases q1
theorem ZnM(h:∀ cls H',E1 cls none H'->E cls none H'):Za1 (CXF P w) (Zim (CXF P w) P w K mg base N qual scope f cd A outer s0 H0 E) E1:=by
 intro pins Z H s e s' I hx;obtain ⟨a,cls,a0,H',B_,rfl,os,bare,un,hok,fl,kb,ha,hE⟩:=hx;have I':=I.call' (ch:=[]) os un hok bare (fun b z=>absurd z (by simp));have hfr:(A.deeper (envOfC qual scope s0.heap.objs.size f cd)).frames=some (envOfC qual scope s0.heap.objs.size f cd::outer):=I.ok.frames;show wpAny (model P w) (A.deeper (envOfC qual scope s0.heap.objs.size f cd)) (leaving (envOfC qual scope s0.heap.objs.size f cd) (.ref a)) _ _ s';refine wpAny_leaves_onW hfr rfl fl fun h'' x1 x4=>?_;have kb':Kept (frs outer) H' s0.heap s'.heap B_:=fun b o e1 hb=>by
   refine kb b o e1 ?_;rcases hb with hb|⟨⟨o',e'⟩,hb⟩
   . exact .inl hb
   . obtain ⟨o1,q1⟩:=(I.base:Un (frs outer) [] H0 H s0.heap s.heap).there b o' e' (show b ∉ ([]:List Addr) from List.not_mem_nil);refine .inr ⟨⟨o1,q1⟩,fun hm=>?_⟩;have hm':b∈s0.heap.objs.size::frs outer:=I.stkSub b hm;rcases O2.mp hm' with z|z
     . rw [z] at e';exact absurd (Heap.lt_size e') (Nat.lt_irrefl _)
     . exact hb z
 have hfo:∀ b∈frs outer,∃ o,s'.heap.get? b=some o/\∀ vs,o.data≠.fields vs:=fun b hb=>by
   obtain ⟨_,o,q,nf⟩:=I'.funs.mem hb;exact ⟨o,q,nf⟩
 obtain ⟨r1,r2,r3⟩:=ZeJ (I'.base:Un (frs outer) [] H0 H' s0.heap s'.heap) hok kb' x1.1 x4 hfo;exact ⟨a,cls,a0,H',B_,rfl,I'.os,bare,r1,r2,x1,r3,ha,h _ _ hE⟩
end
theorem Zkj:Za1 (CXF P w) X E0:=fun _ _ _ _ _ _ _ h=>by
 obtain ⟨_,_,_,_,_,_,_,_,_,_,_,_,_,z⟩:=h;exact z.elim
end L2
end
section
namespace L2
open PySem PySem.Spec PyProof.Rows
structure ExcN(K:PySem.W.Frag)(C2:Addr):Prop where
 ty:PySem.W.typeIn K (.ref C2)=some (.type "type")
 cls:(PySem.W.clsIn K C2).isSome=true
 exc:PySem.W.subIn K (.ref C2) (.type "BaseException")=some true
end L2
end
section
namespace L2
open PySem PySem.Spec PyProof.Rows
noncomputable def Def(P:Program)(w:World)(K:PySem.W.Frag)(mg:Str->Option Value)(base:Heap)(k:Nat)(x:Str)(ps:List Str)(sp:Sp):Prop :=
 ∃ f fd,mg x=some (.ref f)/\PySem.W.keepIn K (.ref f)=true/\Binds K fd ps []/\FnOk P w K mg base (CXF P w) k f fd ps sp
section
variable {X:Cx}{k:Nat}{x:Str}{ps:List Str}{sp:Sp}{E:XK}{e:Expr}{es:List Expr}{t:TA}{p pos:Pos}
noncomputable def Zt0(sp:Sp)(E:XK)(t:TA):TE:=fun Z H Q=>t Z H fun vs H1=>sp vs H1 Q E
theorem Zqi(D:Def X.prog X.w X.K X.mg X.base k x ps sp)(hr:Room k X.A)(hg:Gl X x)(hx:Za1 (CXF X.prog X.w) X E)(ha:PA X (e::es) t)
   (hdb:(x==("__debug__" : Str))=false:=by decide) (he:starEach (e::es) X.env=(false,eval e X.env)::starEach es X.env:=by rfl) (hpl:(backTo pos (starEach es X.env)).any (·.1)=false:=by rfl) :
   PE X (.Call (.Name x p) (e::es) [] pos) (Zt0 sp E t):=by
 obtain ⟨f,fd,h1,h2,h3,h4⟩:=D;intro pins s Z H Q I h;refine ZnK h4 hr hg h1 h2 h3 .nil hx ha hdb he hpl pins s Z H Q I ?_;have z:t Z H fun vs H1=>sp vs H1 Q E:=h;show t Z H fun vs H1=>sp (vs++[]) H1 Q E;simpa only [List.append_nil] using z
end
end L2
end
section
namespace L2
open PySem PySem.Spec PyProof.Rows
section
variable {X:Cx}{pins:List (Addr×Obj)}{Z:St}{H:Hp}{s:Shared}{h':Heap}
theorem Zjv{ch:List Addr}(hf:∀ b∈ch,Zcz X pins H b):∀ b∈ch,(b∈X.ex\/X.s₀.heap.objs.size<=b)/\b≠X.env.locals/\(∀ x c,X.env.cells.lookup x=some c->c≠b)/\∀ p∈X.pn++pins,p.1≠b:=fun b hb=>by
 obtain ⟨_,f1,_,f3,f4,f5⟩:=hf b hb;exact ⟨f3,f1,f4,f5⟩
theorem Inv.turnL{t':Nat}{ch:List Addr}(I:Inv X pins Z H s)(hf:∀ b∈ch,Zcz X pins H b)(k:∀ b o,b ∉ ch->s.heap.get? b=some o->h'.get? b=some o):Inv X pins Z H {s with heap:=h',toks:=t'}:=by
 have nit:∀ b u,H b=some u->b ∉ ch:=fun b u e z=>by rw [(hf b z).1] at e;cases e
 refine I.step (g':=s.gens) (d':=s.drawn) (ch:=ch) (Zjv hf) (fun b o _ _ hc e _=>k b o hc e) (fun b o _ _ hc e _=>⟨o.slots,k b o hc e⟩) (fun _ _ _ _ n=>n)
   (fun b o hc e=>⟨o,k b o hc e⟩) (fun _ _ e=>e) (fun _ _ _ e=>e) (fun b ps e=>⟨#[],by rw [e];simp⟩) (fun m hm=>?_) (fun b u e=>?_) I.bare
 . obtain ⟨o,es,ep,ho,r⟩:=hm;exact ⟨o,es,ep,k _ o (fun z=>(hf _ z).2.1 rfl) ho,r⟩
 . refine (I.hok b u e).stay (fun c v hc q=>k c v ?_ q) (fun _ q=>q) fun _ _ q=>q;rcases hc with z|z
   . rw [z];exact nit b u e
   . exact nit c _ z
theorem Inv.turnT{t':Nat}{ch:List Addr}{us:List Value}(I:Inv X pins Z H s)(hf:∀ b∈ch,Zcz X pins H b)(k:∀ b o,b ∉ ch->s.heap.get? b=some o->h'.get? b=some o)
   (hT:s.heap.objs.size<=T) (tup:Zau h' T us.toArray) (rv:Zj vs us) (hz:vs.length<=sizeLine):Inv X pins Z (upd H T (.tup vs)) {s with heap:=h',toks:=t'}:=by
 have nit:∀ b u,H b=some u->b ∉ ch:=fun b u e z=>by rw [(hf b z).1] at e;cases e
 have neT:∀ b o,s.heap.get? b=some o->b≠T:=fun b o e=>Ou (Ot (Heap.lt_size e) hT);have hTn:H T=none:=I.hok.fresh hT;refine I.step (g':=s.gens) (d':=s.drawn) (ch:=ch) (Zjv hf) (fun b o _ _ hc e _=>k b o hc e) (fun b o _ _ hc e _=>⟨o.slots,k b o hc e⟩) (fun b o _ e n=>by rw [Zh (neT b o e)];exact n)
   (fun b o hc e=>⟨o,k b o hc e⟩) (fun b xs e=>by rw [Zh (ZJ e hTn)];exact e) (fun b o u e=>by rw [Zh (ZJ e hTn)];exact e) (fun b ps e=>⟨#[],by rw [Zh (ZJ e hTn),e];simp⟩) (fun m hm=>?_) (fun b u e=>?_) I.bare
 . obtain ⟨o,es,ep,ho,r⟩:=hm;exact ⟨o,es,ep,k _ o (fun z=>(hf _ z).2.1 rfl) ho,r⟩
 . by_cases hb:b=T
   . subst hb;rw [Zg] at e;cases e;exact ⟨hz,us,rv,tup⟩
   . rw [Zh hb] at e;refine (I.hok b u e).stay (fun c v hc q=>k c v ?_ q) (fun c q=>by rw [Zh (ZJ q hTn)];exact q) fun c xs q=>by rw [Zh (ZJ q hTn)];exact q
     rcases hc with z|z
     . rw [z];exact nit b u e
     . exact nit c _ z
end
noncomputable def Ite(K:PySem.W.Frag)(a:Addr):It :=
 ⟨fun i H=>∃ xs x,SqL K H a xs/\xs[i]? = some x,fun i H v H'=>∃ p,v=.ref p/\H p=none/\∃ x,(∀ xs,SqL K H a xs->xs[i]? = some x)/\H'=upd H p (.tup [.int i,x]),fun i H=>∃ xs,SqL K H a xs/\xs.length=i⟩
theorem Zj1{P:Program}{w:World}{K:PySem.W.Frag}{es:List Expr}{kk:Nat}{tp:Pos}(a it e:Addr)(hei:e≠it)(hae:a≠e)(hai:a≠it) :
   Turn P w K (.Tuple es kk tp) (Ite K a) [e,it] e (fun i h=>(∃ old,IsEnum h e it i old)/\h.IsListIter it a i) where
 mem:=by simp
 obj:=fun i h st b hb=>by
   obtain ⟨⟨old,he⟩,o,e1,c,d⟩:=st;rcases O2.mp hb with rfl|hb
   . exact ⟨_,he,fun v z=>by cases z⟩
   . have e2:b=it:=by simpa using hb
     subst e2;exact ⟨o,e1,fun v z=>by rw [d] at z;cases z⟩
 keep:=fun i h h' st k=>by
   obtain ⟨⟨old,he⟩,st⟩:=st;exact ⟨⟨old,k e (by simp) _ he⟩,st.at fun o z=>k it (by simp) o z⟩
 item:=by
   intro X hP hw hK hc i pins s Z H E I hf st hg;subst hP hw hK;obtain ⟨xs,x,hq,hx⟩:=hg;obtain ⟨its,rv,p,hz⟩:=I.list hq;have hl:=rv.length;have hi:i<xs.length:=(Ob.mp hx).1;have W:=WalksT.enumerate (prog:=X.prog) (w:=X.w) (I.ok.hd hc) e it a hei hae hai its.toArray;have itm:∀ (Q':Option Value->Shared->Prop) (E':Value->Shared->Prop),(∀ T vals h' tk,(∃ t x,its.toArray[i]? = some x/\vals=#[.int i t,x])->s.heap.objs.size<=T->Zau h' T vals ->
       ((∃ x,IsEnumOut h' e it ((i:Int)+1) x T)/\h'.IsListIter it a (i+1)/\h'.IsList a its.toArray/\T≠e/\T≠it)->(∀ b o,b ∉ [e,it]->s.heap.get? b=some o->h'.get? b=some o)->Q' (some (.ref T)) {s with heap:=h',toks:=tk}) ->
       wpAny (model X.prog X.w) X.A (pyNext (.ref e)) Q' E' s:=by
     intro Q' E' hQ;obtain ⟨⟨old,he⟩,hit⟩:=st;have hx2:its.toArray[i]? = some (its.toArray[i]'(by simp;lia)):=Array.getElem?_eq_getElem (by simp;lia);refine wpAny_pyNext_enum_item he hit p.isList hx2 hei fun h' ho hit' hT hsz hk=>?_;have e1:e<s.heap.objs.size:=Heap.lt_size he;have e2:it<s.heap.objs.size:=by obtain ⟨_,z,_⟩:=hit;exact Heap.lt_size z
     exact hQ s.heap.objs.size _ h' (s.toks+1) ⟨_,_,hx2,rfl⟩ (Oq _) ⟨_,hT,rfl,rfl,_,rfl⟩ ⟨⟨_,ho⟩,hit',p.isList.at fun o z=>hk a o hae hai z,Nat.ne_of_gt e1,Nat.ne_of_gt e2⟩
       fun b o hb z=>hk b o (fun e'=>hb (by simp [e'])) (fun e'=>hb (by simp [e'])) z
   refine itm _ _ fun T vals h1 tk hP hT tup mid kk=>?_;refine ⟨_,rfl,W.go _ _ _ i T {s with heap:=h1,toks:=tk} _ _ mid fun h2 st2 kk2=>?_⟩;obtain ⟨t,y,hy,rfl⟩:=hP;have hy':its[i]? = some y:=by simpa using hy
   obtain ⟨u,hu,ru⟩:=rv.get hx;rw [hy'] at hu;cases hu;have hTw:T ∉ [e,it]:=W.apart i T h1 mid;have tup2:Zau h2 T #[.int i t,y]:=by
     obtain ⟨o,q,r⟩:=tup;exact ⟨o,kk2 T o hTw q,r⟩
   have I2:Inv X pins Z (upd H T (.tup [.int i,x])) {s with heap:=h2,toks:=tk}:=I.turnT hf (fun b o hb q=>kk2 b o hb (kk b o hb q)) hT (us:=[.int i t,y]) tup2 (.cons ⟨t,rfl⟩ (.cons ru .nil)) (by show 2<=sizeLine;decide);refine ⟨.ref T,_,I2,rfl,⟨T,rfl,I.hok.fresh hT,x,fun ys hy=>by rw [I.list_inj hy hq];exact hx,rfl⟩,⟨st2.1,st2.2.1⟩,fun b hb=>?_⟩;have neb:b≠T:=fun z=>hTw (by rw [<- z];exact hb);rw [Zh neb];exact (hf b hb).1
 done:=by
   intro X hP hw hK hc i pins s Z H E I hf st hg;subst hP hw hK;obtain ⟨xs,hq,hx⟩:=hg;obtain ⟨its,rv,p,hz⟩:=I.list hq;have hl:=rv.length;have W:=WalksT.enumerate (prog:=X.prog) (w:=X.w) (I.ok.hd hc) e it a hei hae hai its.toArray;have e1:its.toArray.size=i:=by simp;lia
   refine W.done s _ _ ?_ fun h1 tk kk=>⟨rfl,I.turnL hf kk⟩
   rw [e1];exact ⟨st.1,st.2,p.isList⟩
 self:=fun A i s Q E st h=>by
   obtain ⟨⟨old,he⟩,_⟩:=st;exact wpAny_pyIter_enum he h
noncomputable def Zs8(K:PySem.W.Frag)(ta:TA):TI:=fun Z H R=>ta Z H fun vs H1=>∃ a,vs=[.ref a]/\(∃ xs,SqL K H1 a xs)/\R (Ite K a) H1
theorem ZnC {X:Cx}{es:List Expr}{kk:Nat}{tp:Pos}{l:Expr}{ta:TA}{p pos:Pos} (hg:Gl X "enumerate") (hm:X.mg "enumerate" = none) (ha:PA X [l] ta) (hs:starEach [l] X.env=[(false,eval l X.env)]:=by rfl) :
   PI X (.Tuple es kk tp) (.Call (.Name "enumerate" p) [l] [] pos) (Zs8 X.K ta):=by
 intro pins s Z H R I h;refine Call_ (ZbD I hg hm boot_enumerate (PyProof.Rows.callWith_type1 (thn (ha pos pins s Z H _ I h) fun us s1 ⟨vs,H1,I1,r1,q1⟩=>?_) hs rfl));obtain ⟨a,rfl,⟨xs,hq⟩,q⟩:=q1;obtain ⟨u,rfl,ru⟩:=vals1 r1;obtain rfl:u=Value.ref a:=ru;obtain ⟨its,rv,pl,hz⟩:=I1.list hq;have hlt:a<s1.heap.objs.size:=by obtain ⟨_,_,e,_⟩:=pl;exact Heap.lt_size e
 refine call_enumerate_list pl.isList fun h' he hi hsz kk=>?_;refine wpAny_pyIter_enum he ?_;refine ⟨s1.heap.objs.size+1,[s1.heap.objs.size+1,s1.heap.objs.size],_,_,H1,rfl,I1.kept (t':=s1.toks) kk,Zj1 a s1.heap.objs.size (s1.heap.objs.size+1) (Nat.succ_ne_self _) (Ou (Nat.lt_succ_of_lt hlt)) (Ou hlt),⟨⟨_,he⟩,hi⟩,fun b hb=>?_,q⟩;rcases O2.mp hb with rfl|hb
 . exact I1.fpOk (Nat.le_succ _) (I1.hok.fresh (Nat.le_succ _))
 . have e:b=s1.heap.objs.size:=by simpa using hb
   subst e;exact I1.fpOk (Oq _) (I1.hok.fresh (Oq _))
end L2
end
section
namespace L2
open PySem PySem.Spec PyProof.Rows PySem.Builtin PySem.Builtin.ObjectAttr PySem.Builtin.Getset_descriptor
structure ExcA(K:PySem.W.Frag)(D:Addr):Prop where
 ga:PySem.W.findIn K (.ref D) "__getattribute__" = some (some (.builtin "BaseException.__getattribute__"))
 ga2:PySem.W.findIn K (.ref D) "__getattr__" = some none
 cl:PySem.W.findIn K (.ref D) "__class__" = some (some (.builtin "object.__class__"))
 get:PySem.W.specialIn K (.builtin "object.__class__") "__get__" = some (some (.builtin "getset_descriptor.__get__"))
 takes:PySem.W.takesIn K (.builtin "object.__class__")=some true
 obj:PySem.W.mroIn K D (.type "object")=some true
 base:PySem.W.subIn K (.ref D) (.type "BaseException")=some true
 isc:(PySem.W.clsIn K D).isSome=true
end L2
end
section
namespace L2
open PySem PySem.Spec PyProof.Rows
theorem ZoH(h:PSs X b t)(r:t D Z H):∃ t,PSs X b t/\t D Z H:=⟨t,h,r⟩
theorem Zev:RelV (.str x) (.str x t):=⟨t,rfl⟩
theorem Zdc:RelV (.int x) (.int x t):=⟨t,rfl⟩
theorem Zae:RelV (.ref a) (.ref a):=rfl
end L2
end
section
namespace L2
open PySem PySem.Spec PyProof.Rows
noncomputable def DkK(P:Program)(w:World)(K:PySem.W.Frag)(a:Addr)(kvs:List (Key×V)):Prop :=
 ∃ (o:Obj) (es:Array DictEntry) (ep:Nat) (vs:List (Key×Value)),K.lookup a=some o/\o.ExactDict/\o.data=.dict es ep/\KeysOf (ZD P w) es/\Pairs (ZD P w) es.toList vs/\(vs.map (·.1)).Nodup/\KV kvs vs/\kvs.length<=sizeLine/\(a==sysModules)=false
noncomputable def Dk(P:Program)(w:World)(K:PySem.W.Frag)(H:Hp)(a:Addr)(kvs:List (Key×V)):Prop:=Rd H a (.dK kvs)\/DkK P w K a kvs
section
variable {X:Cx}{pins:List (Addr×Obj)}{Z:St}{H:Hp}{s:Shared}{a:Addr}
theorem Inv.dk(I:Inv X pins Z H s)(h:Dk X.prog X.w X.K H a kvs):kvs.length<=sizeLine/\(a==sysModules)=false/\∃ vs,KV kvs vs/\s.heap.DictOf (ZD X.prog X.w) a vs:=by
 rcases h with h|⟨o,es,ep,vs,lk,ex,da,ks,ps,nd,kv,z,hm⟩
 . exact Zmq I.hok h
 . exact ⟨z,hm,vs,kv,o,es,ep,I.kIn a o lk,ex,da,ks,ps,nd⟩
noncomputable def Zsj(P:Program)(w:World)(K:PySem.W.Frag)(neg:Bool):R2:=fun x y H Q=>∃ a kvs k,y=.ref a/\x=kV k/\Dk P w K H a kvs/\Q (.bl (if neg then !(Zc9 kvs k).isSome else (Zc9 kvs k).isSome)) H
theorem Zqp:OpR X (compareOp .In) (Zsj X.prog X.w X.K false):=by
 intro pins s Z H x y v u Q I rx ry h;obtain ⟨a,kvs,k,rfl,rfl,hd,q⟩:=h;cases ry;obtain ⟨z,hm,vs,rel,dd⟩:=I.dk hd;refine wpAny_in_of (Zg5 rx) hm dd.mapOf ?_;rw [<- (rel.val k).isSome_eq];exact ⟨.bl _,H,I.tok _,rfl,q⟩
theorem Zkk:OpR X (compareOp .NotIn) (Zsj X.prog X.w X.K true):=by
 intro pins s Z H x y v u Q I rx ry h;obtain ⟨a,kvs,k,rfl,rfl,hd,q⟩:=h;cases ry;obtain ⟨z,hm,vs,rel,dd⟩:=I.dk hd;refine wpAny_notIn_of (Zg5 rx) hm dd.mapOf ?_;rw [<- (rel.val k).isSome_eq];exact ⟨.bl _,H,I.tok _,rfl,q⟩
noncomputable def Zuk(P:Program)(w:World)(K:PySem.W.Frag):R2:=fun x y H Q=>∃ a kvs k v,x=.ref a/\y=kV k/\Dk P w K H a kvs/\Zc9 kvs k=some v/\Q v H
theorem Zoh:IxR X (Zuk X.prog X.w X.K):=by
 intro value slice pins s Z H x y v u Q I rx ry h hs;obtain ⟨a,kvs,k,z,rfl,rfl,hd,hv,q⟩:=h;cases rx;obtain ⟨_,hm,vs,rel,dd⟩:=I.dk hd;obtain ⟨w',hw,rw'⟩:=ZdD.some_of (v:=z) (o:=valueAt vs k) (by rw [<- hv];exact rel.val k);exact subscriptTail_builtinR (x:=w') dd.typeIs PySem.F.slot_dict_getitem.lookup (wpAny_getItem_of (Zg5 ry) dd.mapOf hw ⟨rfl,z,H,I.tok _,rw',q⟩) hs
theorem Ztm(I:Inv X pins Z H s)(e:H a=some (.dK kvs))(l:kvs.length<sizeLine)(ry:RelV (kV k) u)(rv:RelV v r)
   (h:∀ s',Inv X pins Z (upd H a (.dK (putK kvs k v))) s'->Q () s'):wpAny (model X.prog X.w) A (setItem (.ref a) u r) Q E s:=by
 obtain ⟨z,hd,vs,rel,dd⟩:=Zpn I.hok e;have hz:vs.length<=sizeLine:=by rw [<- rel.length];exact z
 have hl:(putK kvs k v).length<=sizeLine:=by have:=ZdY kvs k v;lia
 refine wpAny_setItem_pairs (hsz:=hz) (Zg5 ry) dd fun h' dd' hs=>h _ ?_;have he:∃ q,h'.get? a=some q:=let ⟨q,_,_,hq,_⟩:=dd';⟨q,hq⟩;exact ZjA I (by rw [e];exact True.intro) hs he (Zik hl hd (rel.put k rv) dd')
noncomputable def Zsa:ZoV:=fun o i v H Q=>∃ a kvs k,o=.ref a/\i=kV k/\H a=some (.dK kvs)/\kvs.length<sizeLine/\Q (upd H a (.dK (putK kvs k v)))
theorem set_dict:ZoW X Zsa:=by
 intro pins s Z H o i v ov iv u Q I ro ri rv h;obtain ⟨a,kvs,k,rfl,rfl,e,l,q⟩:=h;cases ro;exact Ztm I e l ri rv fun s' I'=>⟨_,I',q⟩
end
end L2
end
section
set_option tactic.hygienic false
namespace L2
open PySem PySem.Spec PyProof.Rows
section
variable {X:Cx}{elt tg iter:Expr}{ifs:List Expr}{scope sc:Scope}{pos:Pos}{NC:List Str}{js:List (Option Nat)}{k:Nat}{wi:TI}{g:TG}{tc:TT}{te:TE}
theorem ZhP(hN:X.N.Nodup)(hy:X.N[i0]? = some y)(hx:Loc X.env.scope y)(hf:X.fn y=true\/X.env.scope.names.lookup y=some .local)(S_:CompSc NC X.N js sc scope)(hsc:X.env.scope=sc)(hc:X.calm=true)(hi:PI X tg iter wi)
   (hb:∀ (C:Addr) (s3:Shared) (H3:Hp) (fp:List Addr),PG (Zy X NC scope C s3 H3 fp) tg g/\PIf (Zy X NC scope C s3 H3 fp) ifs tc/\PE (Zy X NC scope C s3 H3 fp) elt te)
   (hk:ZiJ k g) (hjk:∀ j,j<k->js[j]? = some none) (hs:∀ x,foldedSetIterable iter X.env x=pure x:=by intro _;rfl) (hsw:swapsWith (.ListComp elt [⟨tg,iter,ifs,0⟩] scope pos) (some (.Name y py)) spos.line X.env=pure true:=by rfl) :
   PS X (.Assign [.Name y py] (.ListComp elt [⟨tg,iter,ifs,0⟩] scope pos) spos) (ZhJ (ZkX wi js g tc te) (ZbT i0)):=by
 intro pins s Z H D0 I h;rw [exec_Assign_Name_used _ _ _ _ hsw];refine wpAny_bind (wpAny_standAt (wpAny_bind ?_));show wpAny _ X.A (do let _ <- comprehension (.ListComp elt [⟨tg,iter,ifs,0⟩] scope pos) scope X.env _ (newList []) false (eval iter X.env) (some (assign (.Name y py) X.env))) _ _ s;refine wpAny_bind (wpAny_mono (Zhm (Q:=fun x H1=>ZbT i0 x Z H1 D0.nx) (Q0:=fun _ s'=>SP X pins D0 .next s') S_ hsc hc hi hb hk hjk hs I h fun C Dd s3 s6 H3 H5 fp hC I3 f3 I6 qn=>?_) (fun _ s' hq=>wpAny_pure (wpAny_pure hq)) fun _ _ e=>e);obtain ⟨m,hm,_⟩:=I6.loc;have Io:Inv X pins Z H5 s6:=I3.comp_out (h'':=s6.heap) f3 hC I6 ⟨rfl,fun _ _=>rfl⟩;have fC:Zcz X pins H5 C:=I3.fpOk (Nat.le_of_eq hC.symm) I6.free;show wpAny _ X.A (assign (.Name y py) X.env (.ref Dd)) _ _ _;refine wpAny_assign_Name (Zfu Io hN hy hx (v:=.ref Dd) rfl (fun s8 I8 ⟨a8,sb8,ha8⟩=>?_) hf);have ne8:C≠a8:=fun z=>by
   rcases ha8 with e|e
   . exact fC.2.1 (z.trans e)
   . exact fC.2.2.2.2.1 _ _ e z.symm
 refine ⟨m,hm.sameBut sb8 ne8,fun h' hs'=>?_⟩;exact ⟨_,H5,I8.turnL (t':=s8.toks) (ch:=[C]) (fun b hb=>by rw [Ox.mp hb];exact fC) (fun b o hb e=>(hs'.2 b (fun z=>hb (by rw [z];exact List.mem_singleton_self _))).trans e),qn⟩
end
end L2
end
section
namespace L2
open PySem PySem.Spec PyProof.Rows
mutual
inductive Dp(K:PySem.W.Frag)(H:Hp):V->PyData->Prop
 | non:Dp K H .non .none
 | bl (b:Bool):Dp K H (.bl b) (.bool b)
 | int (i:Int):Dp K H (.int i) (.int i)
 | str (x:Str) (ok:PyData.strOk x=true):Dp K H (.str x) (.str x)
 | lst {a:Addr}{xs:List V}{ds:List PyData}:SqL K H a xs->Dps K H xs ds->Dp K H (.ref a) (.list ds)
 | tup {a:Addr}{xs:List V}{ds:List PyData}:SqT K H a xs->Dps K H xs ds->Dp K H (.ref a) (.tuple ds)
inductive Dps(K:PySem.W.Frag)(H:Hp):List V->List PyData->Prop
 | nil:Dps K H [] []
 | cons {v:V}{vs:List V}{d:PyData}{ds:List PyData}:Dp K H v d->Dps K H vs ds->Dps K H (v::vs) (d::ds)
end
section
variable {K:PySem.W.Frag}{H H':Hp}
mutual
theorem Dp.lay:∀ {v:V}{d:PyData},Dp K H v d->d.canLay0=true
 | _,_,.non=>rfl
 | _,_,.bl b=>rfl
 | _,_,.int i=>rfl
 | _,_,.str x ok=>ok
 | _,_,.lst h r=>Dps.lay r
 | _,_,.tup h r=>Dps.lay r
theorem Dps.lay:∀ {v:List V}{d:List PyData},Dps K H v d->PyData.canLayAll0 d=true
 | _,_,.nil=>rfl
 | _,_,.cons h r=>by rw [PyData.canLayAll0,Dp.lay h,Dps.lay r];rfl
end
end
section
variable {X:Cx}{pins:List (Addr×Obj)}{Z:St}{H:Hp}{s:Shared}
mutual
theorem Inv.reads(I:Inv X pins Z H s):∀ {v:V}{d:PyData}{u:Value},Dp X.K H v d->RelV v u->∃ as,Reads s.heap u d as
 | _,_,_,.non,r=>by cases r;exact ⟨_,.none⟩
 | _,_,_,.bl b,r=>by cases r;exact ⟨_,.bool b⟩
 | _,_,_,.int i,r=>by obtain ⟨t,rfl⟩:=r;exact ⟨_,.int i t⟩
 | _,_,_,.str x ok,r=>by obtain ⟨t,rfl⟩:=r;exact ⟨_,.str x t⟩
 | _,_,_,.lst h rs,r=>by
   cases r;obtain ⟨its,rv,⟨o,n,e,c,_,dd⟩,_⟩:=I.list h;obtain ⟨as,q⟩:=Inv.readsAll I rs rv;exact ⟨_,.list e c dd (by simpa using q)⟩
 | _,_,_,.tup h rs,r=>by
   cases r;obtain ⟨its,rv,⟨o,e,c,n,dd⟩,_⟩:=I.tuple h;obtain ⟨as,q⟩:=Inv.readsAll I rs rv;exact ⟨_,.tuple e c dd (by simpa using q)⟩
theorem Inv.readsAll(I:Inv X pins Z H s):∀ {v:List V}{d:List PyData}{u:List Value},Dps X.K H v d->Zj v u->∃ as,ReadsAll s.heap u d as
 | _,_,_,.nil,r=>by cases r;exact ⟨_,.nil⟩
 | _,_,_,.cons h rs,r=>by
   cases r with
   | cons r1 r2 =>
     obtain ⟨as,q⟩:=Inv.reads I h r1;obtain ⟨bs,q2⟩:=Inv.readsAll I rs r2;exact ⟨_,.cons q q2⟩
end
end
end L2
end
section
set_option tactic.hygienic false
namespace L2
open PySem PySem.Spec PyProof.Rows
namespace Rv
theorem own:Manifest.owners.lookup (String.ofList ['d','e','s','r','e','v','e','r'].reverse)=some Manifest.sig_reversed:=by kernel_rfl
theorem next:Slot "reversed" "__next__" "reversed.__next__" :=
 .of (owner := "reversed") (n := "__next__") (by rw [typeLookup_type,builtinLookup_eq_fast]<;>kernel_rfl) (by decide +kernel) (by decide +kernel) (by decide +kernel) (by first|exact .inl (by decide +kernel)|exact .inr (by decide +kernel)) (by rw [isSubtype_type]<;>kernel_rfl)
theorem Zpm:entryFor table "reversed.__next__" = some Builtin.«reversed.__next__»:=entryFor_of_tree (by kernel_rfl)
theorem Zpv (a:Value):argsOk "reversed.__next__" ⟨[a],[]⟩:=by
 unfold argsOk;rw [signature?_of (id := "reversed.__next__") (n:=['_','_','t','x','e','n','_','_']) (o:=['d','e','s','r','e','v','e','r']) (by kernel_rfl) own];kernel_rfl
theorem iter:Slot "reversed" "__iter__" "reversed.__iter__" :=
 .of (owner := "reversed") (n := "__iter__") (by rw [typeLookup_type,builtinLookup_eq_fast]<;>kernel_rfl) (by decide +kernel) (by decide +kernel) (by decide +kernel) (by first|exact .inl (by decide +kernel)|exact .inr (by decide +kernel)) (by rw [isSubtype_type]<;>kernel_rfl)
theorem Ztz (a:Value):argsOk "reversed.__iter__" ⟨[a],[]⟩:=by
 unfold argsOk;rw [signature?_of (id := "reversed.__iter__") (n:=['_','_','r','e','t','i','_','_']) (o:=['d','e','s','r','e','v','e','r']) (by kernel_rfl) own];kernel_rfl
theorem Ztk:entryFor table "reversed.__iter__" = some Builtin.«dict_keyiterator.__iter__» :=
 entryFor_alias (id' := "dict_keyiterator.__iter__") (by kernel_rfl) (by first|rfl|decide +kernel|(unfold String.splitOn;simp +decide [String.splitOnAux])) (by decide +kernel) (by kernel_rfl)
theorem ZsJ:typeLookup (.type "tuple") "__reversed__" = pure none:=by rw [typeLookup_type,builtinLookup_eq_fast]<;>kernel_rfl
theorem Zm9:isSubtype (.type "reversed") (.type "reversed")=pure true:=by rw [isSubtype_type]<;>kernel_rfl
theorem init:Slot "reversed" "__init__" "object.__init__" :=
 .of (owner := "object") (n := "__init__") (by rw [typeLookup_type,builtinLookup_eq_fast]<;>kernel_rfl) (by decide +kernel) (by decide +kernel) (by decide +kernel) (by first|exact .inl (by decide +kernel)|exact .inr (by decide +kernel)) (by rw [isSubtype_type]<;>kernel_rfl)
theorem called:TypeCalled "reversed" "reversed.__new__" "object.__init__" := ⟨by decide +kernel,F.create_reversed,⟨_,_,F.mro_reversed⟩,F.made_reversed,by decide +kernel,Zm9,init⟩
noncomputable def obj (l:Addr) (i:Int):Obj:={cls:=.type "reversed",data:=.fields #[.ref l,rawInt i]}
noncomputable def Is (h:Heap) (a l:Addr) (i:Int):Prop:=∃ o,h.get? a=some o/\o.cls=.type "reversed" /\ o.data=.fields #[.ref l,rawInt i]
section
variable {prog:Program}{w:World}{A:Around}{E:Value->Shared->Prop}{s:Shared}
theorem Is.typeIs (x:Is s.heap a l i):s.TypeIs (.ref a) "reversed" := let ⟨o,ho,hc,_⟩:=x;⟨o,ho,hc⟩
theorem Is.at(x:Is h a l i)(e:∀ o,h.get? a=some o->h'.get? a=some o):Is h' a l i:=let ⟨o,ho,r⟩:=x;⟨o,e _ ho,r⟩
theorem new(hl:IsTup s.heap l items)(hz:items.size<=sizeLine)
   (h:Q (.ref s.heap.objs.size) {s with heap:=s.heap.push (obj l ((items.size:Int) - 1)),toks:=s.toks+1+1}) :
   codeAny (model prog w) A (.call (.builtin "reversed.__new__") ⟨[.type "reversed",.ref l],[]⟩) (wants Q E) s:=by
 have hfit:(items.size:Int)<2 ^ 63:=by have:=ZbC;lia
 refine codeAny_of_tree ?_;show wpAny _ A.in1 (do checkBuiltinCall "reversed.__new__" ⟨[.type "reversed",.ref l],[]⟩;again (.builtin "reversed.__new__" ⟨[.type "reversed",.ref l],[]⟩)) _ _ s;refine wpAny_bind (wpAny_of_eq (F.newCall_reversed_1 _) (wpAny_pure ⟨plainId_quiet F.plain_reversed_new _,codeAny_builtin F.entry_reversed_new ?_⟩));rw [Around.under_plainId F.plain_reversed_new _];unfold Builtin.«reversed.__new__»;refine wpAny_bind (wpAny_of_eq (newClass_reversed _) ?_)
 try dsimp only
 refine wpAny_bind (wpAny_of_eq (a:=()) (by first|rfl|kernel_rfl) (wpAny_bind (wpAny_of_eq (a:=()) (by first|rfl|kernel_rfl) ?_)))
 try dsimp only
 refine wpAny_bind (wpAny_specialOf hl.typeIs ZsJ ?_)
 try dsimp only
 refine wpAny_bind ?_;show wpAny _ _ (isInstance (.ref l) (.type "dict") >>= fun b=>_) _ _ s;refine wpAny_bind (wpAny_isInstance hl.typeIs F.sub_tuple_dict ?_);show wpAny _ _ (specialOf (.ref l) "__getitem__" >>= fun b=>_) _ _ s;refine wpAny_bind (wpAny_specialOf hl.typeIs slot_tuple_getitem.lookup ?_);refine wpAny_of_eq (a:=true) (by rfl) ?_;show wpAny _ _ (call (.builtin "len") [.ref l] >>= fun b=>_) _ _ s;refine wpAny_bind (len_tuple hl hfit ?_);show wpAny _ _ (asInt? (.int _ _) >>= fun b=>_) _ _ _;refine wpAny_bind (wpAny_pure ?_);show wpAny _ _ (newObj (.type "reversed") (.fields #[.ref l,rawInt ((items.size:Int) - 1)]) >>= fun b=>_) _ _ _;exact wpAny_bind (wpAny_newObj_type (wpAny_pure h))
theorem call(hl:IsTup s.heap l items)(hz:items.size<=sizeLine)
   (h:Q (.ref s.heap.objs.size) {s with heap:=s.heap.push (obj l ((items.size:Int) - 1)),toks:=s.toks+1+1}):wpAny (model prog w) A (PySem.call (.type "reversed") [.ref l]) Q E s:=by
 refine callType_codes called (F.typeCall_reversed_1 _) F.entry_object_init (new (Q:=fun o s1=>o=.ref s.heap.objs.size/\s1={s with heap:=s.heap.push (obj l ((items.size:Int) - 1)),toks:=s.toks+1+1}) hl hz ⟨rfl,rfl⟩) ?_;rintro _ _ ⟨rfl,rfl⟩;have hT:Shared.TypeIs {s with heap:=s.heap.push (obj l ((items.size:Int) - 1)),toks:=s.toks+1+1} (.ref s.heap.objs.size) "reversed" := ⟨_,Oj _ rfl,rfl⟩
 refine ⟨hT,F.args_object_init_2 _ _,?_⟩;exact object_init_meets init.lookup F.made_reversed (by decide) prog w _ _ _ ⟨hT,rfl,h⟩
theorem next_item{it l:Addr}{i:Nat}{Q:Option Value->Shared->Prop}(hit:Is s.heap it l (i:Int))(hl:IsTup s.heap l items)(hz:items.size<=sizeLine)(hx:items[i]? = some x)
   (hQ:∀ h' t',Is h' it l ((i:Int) - 1)->Heap.SameBut it s.heap h'->Q (some x) {s with heap:=h',toks:=t'}):wpAny (model prog w) A (pyNext (.ref it)) Q E s:=by
 obtain ⟨o,ho,hc,hd⟩:=id hit;have hi:i<items.size:=by
   have:=(Array.getElem?_eq_some_iff.mp hx).1;exact this
 have l63:=ZbC;unfold pyNext;refine wpAny_bind (wpAny_attempt (wpAny_callSpecial?_slot (name:=O "__next__") hit.typeIs next (wpAny_call_entry next hit.typeIs Zpm ?_ (Zpv _))));unfold Builtin.«reversed.__next__»;refine wpAny_bind (wpAny_of_eq (a:=(Value.ref it,[])) rfl ?_)
 try dsimp only
 refine wpAny_bind (wpAny_field ho hd (x:=.ref l) rfl (wpAny_bind (wpAny_field ho hd (x:=rawInt (i:Int)) rfl ?_)));show wpAny _ _ (if (i:Int)<0 then _ else _) _ _ s;rw [if_neg (by lia)];show wpAny _ _ (specialOf (.ref l) "__getitem__" >>= fun b=>_) _ _ s;refine wpAny_bind (wpAny_specialOf hl.typeIs slot_tuple_getitem.lookup ?_);show wpAny _ _ (mkInt (i:Int) >>= fun b=>_) _ _ s;refine wpAny_bind (wpAny_mkInt ?_);refine wpAny_bind (wpAny_attempt (getItem_tuple (s:={s with toks:=s.toks+1}) (j:=i) (x:=x) hl (by lia) (by lia) (seqIndex_of (by lia) (by lia)) hx ?_));show wpAny _ _ (field (.ref it) 1 >>= fun b=>_) _ _ _;refine wpAny_bind (wpAny_field ho hd (x:=rawInt (i:Int)) rfl ?_);show wpAny _ _ (setField (.ref it) 1 (rawInt ((i:Int) - 1)) >>= fun b=>_) _ _ _;refine wpAny_bind (wpAny_setField ho hd (by simp) ?_);refine wpAny_pure ⟨x,rfl,wpAny_pure (hQ _ _ ?_ (Heap.SameBut.update ..))⟩;exact ⟨_,Heap.get?_update_self _ ho (Obj.isFreed_of_fields (Obj.data_mapFields hd _)),(Obj.cls_mapFields ..).trans hc,by rw [Obj.data_mapFields hd]<;>simp⟩
theorem next_end(hh:A.handled=none)(hit:Is s.heap it l (-1))(hQ:∀ h',Heap.ExtBut it s.heap h'->Q none {s with heap:=h'}):wpAny (model prog w) A (pyNext (.ref it)) Q E s:=by
 obtain ⟨o,ho,hc,hd⟩:=id hit;unfold pyNext;refine wpAny_bind (wpAny_attempt (wpAny_callSpecial?_slot (name:=O "__next__") hit.typeIs next (wpAny_call_entry next hit.typeIs Zpm ?_ (Zpv _))));unfold Builtin.«reversed.__next__»;refine wpAny_bind (wpAny_of_eq (a:=(Value.ref it,[])) rfl ?_)
 try dsimp only
 refine wpAny_bind (wpAny_field ho hd (x:=.ref l) rfl (wpAny_bind (wpAny_field ho hd (x:=rawInt (-1)) rfl ?_)));show wpAny _ _ (if (-1:Int)<0 then _ else _) _ _ s;rw [if_pos (by decide)];refine wpAny_bind (wpAny_rule ?_);show wpAny _ _ ((setField (.ref it) 1 (rawInt (-1)) >>= fun _=>setField (.ref it) 0 .none) >>= fun b=>_) _ _ _;have e1:=Heap.get?_update_self (Obj.mapFields (·.setIfInBounds 1 (rawInt (-1)))) ho (Obj.isFreed_of_fields (Obj.data_mapFields hd _));refine wpAny_bind (wpAny_bind (wpAny_setField ho hd (by simp) (wpAny_setField e1 (Obj.data_mapFields hd _) (by simp) ?_)));refine wpAny_bind ?_;show wpAny _ _ (newExc (.type "StopIteration") [] >>= fun b=>_) _ _ _;refine wpAny_bind ?_;simp only [newExc,newTuple];refine wpAny_bind (wpAny_newObj_type ?_ (by size_fits));refine wpAny_bind (m:=firstArgMember _ _) (wpAny_of_eq (a:=Value.none) (by first|rfl|(simp only [firstArgMember]<;>rfl)) (wpAny_newObj_type ?_ (by size_fits)));simp only [raiseNew];refine wpAny_bind (wpAny_handled ?_);rw [show A.in1.handled=none from hh];refine wpAny_bind (wpAny_pure (wpAny_throw ?_));refine wpAny_bind (wpAny_isInstance (T := "StopIteration") (b:=true) ⟨_,Oj _ rfl,rfl⟩ isSubtype_stop (wpAny_pure (hQ _ ?_)));exact ((((Heap.ExtBut.refl _ _).trans (Heap.SameBut.update ..).extBut).trans (Heap.SameBut.update ..).extBut).push _).push _
theorem ZfB(hit:Is s.heap it l i)(h:Q (.ref it) s):wpAny (model prog w) A (pyIter (.ref it)) Q E s:=by
 refine wpAny_pyIter_slot hit.typeIs iter (wpAny_call_entry iter hit.typeIs Ztk ?_ (Ztz _));exact wpAny_pure ⟨_,rfl, "reversed",_,hit.typeIs,next.lookup,h⟩
end
end Rv
noncomputable def Itv(K:PySem.W.Frag)(a:Addr)(n:Nat):It :=
 ⟨fun i H=>∃ xs x,SqT K H a xs/\xs.length=n/\xs.reverse[i]? = some x,fun i H x H'=>H'=H/\∀ xs,SqT K H a xs->xs.reverse[i]? = some x,fun i H=>∃ xs,SqT K H a xs/\xs.length=n/\n=i⟩
theorem ZkR{P:Program}{w:World}{K:PySem.W.Frag}{tg:Expr}(a it:Addr)(n:Nat):Turn P w K tg (Itv K a n) [it] it (fun i h=>i<=n/\Rv.Is h it a ((n:Int) - 1 - i)) where
 mem:=by simp
 obj:=fun i h st b hb=>by
   have e:b=it:=by simpa using hb
   subst e;obtain ⟨_,o,e,c,d⟩:=st;exact ⟨o,e,fun v z=>by rw [d] at z;cases z⟩
 keep:=fun i h h' st k=>⟨st.1,st.2.at fun o e=>k it (by simp) o e⟩
 item:=by
   intro X hP hw hK hc i pins s Z H E I hf st hg;subst hP hw hK;obtain ⟨hin,st⟩:=st;obtain ⟨xs,x,hq,hxn,hx⟩:=hg;obtain ⟨its,rv,p,hz⟩:=I.tuple hq;have hl:=rv.length;have hi:i<xs.length:=by
     have:=(Ob.mp hx).1;simpa using this
   have hx':xs[n - 1 - i]? = some x:=by
     rw [List.getElem?_reverse hi] at hx;rw [<- hxn];exact hx
   obtain ⟨u,hu,ru⟩:=rv.get hx';obtain ⟨f0,f1,f2,f3,f4,f5⟩:=hf it (by simp);have e1:(n:Int) - 1 - (i:Nat)=((n - 1 - i:Nat):Int):=by lia
   rw [e1] at st;refine Rv.next_item st p (by simp;lia) (x:=u) (by simpa using hu) fun h' t' st' sb=>?_;have I1:Inv X pins Z H {s with heap:=h',toks:=t'}:=I.turned (t':=t') (fun b o hb e=>(sb.2 b hb).trans e) f0 f1 f3 f4 f5;obtain ⟨o,e,c,d⟩:=id st';have e2:((n - 1 - i:Nat):Int) - 1=(n:Int) - 1 - ((i+1:Nat):Int):=by lia
   refine ⟨u,rfl,ZfC (s:={s with heap:=h',toks:=t'}) e c d (by decide) ⟨x,H,I1,ru,⟨rfl,fun ys hy=>by rw [I.tuple_inj hy hq];exact hx⟩,⟨by lia,by rw [<- e2];exact st'⟩,fun b hb=>(hf b hb).1⟩⟩
 done:=by
   intro X hP hw hK hc i pins s Z H E I hf st hg;subst hP hw hK;obtain ⟨xs,hq,hxn,hx⟩:=hg;obtain ⟨f0,f1,f2,f3,f4,f5⟩:=hf it (by simp);have st1:=st.2;rw [show (n:Int) - 1 - (i:Nat)=-1 by lia] at st1;exact Rv.next_end (I.ok.hd hc) st1 fun h' eb=>⟨rfl,I.turned (t':=s.toks) (fun b o hb e=>eb b o hb e) f0 f1 f3 f4 f5⟩
 self:=fun _ _ _ _ _ st h=>Rv.ZfB st.2 h
end L2
end
section
set_option tactic.hygienic false
namespace L2
open PySem PySem.Spec PyProof.Rows
theorem ZdF:∀ {vs:List Value}{ss:List Str},StrsAre vs ss->Zj (ss.map V.str) vs
 | _,_,.nil=>.nil
 | _,_,.cons y t h=>.cons ⟨t,rfl⟩ (ZdF h)
section
variable {prog:Program}{w:World}{A:Around}{E:Value->Shared->Prop}{s:Shared}
theorem ZhK
   (hcol:∀ R:List Value->Shared->Prop,(∀ (h':Heap) (tk:Nat) (vs:List Value),s.heap.objs.size<=h'.objs.size->(∀ b o,s.heap.get? b=some o->h'.get? b=some o)->StrsAre vs ss->R vs {s with heap:=h',toks:=tk})->wpAny (model prog w) A.in1 (collect (.ref r)) R E s)
   (h64:ss.length<64)
   (h:∀ (D:Addr) (h':Heap) (tk:Nat) (out:List Value) (ss':List Str) (n:Nat),(∀ b o,s.heap.get? b=some o->h'.get? b=some o)->s.heap.objs.size<=D->h'.get? D=some {cls:=.type "list",data:=.seq out.toArray n}->StrsAre out ss'->ss'.Perm ss->sortedS ss'=true ->
     Q (.ref D) {s with heap:=h',toks:=tk}):wpAny (model prog w) A (call (.builtin "sorted") [.ref r]) Q E s:=by
 refine Calls.call_function_entry kind_sorted plain_sorted entry_sorted (args_sorted1 _) ?_;unfold Builtin.«sorted»;refine wpAny_bind (m:=checkCount "sorted" 1 1 _) (wpAny_pure (wpAny_bind (hcol _ fun h' tk vs hsz hk hS=>?_)));have hlen:vs.length=ss.length:=by
   have:=(ZdF hS).length;simpa using this.symm
 have hz:vs.length<=sizeLine:=by rw [sizeLine_eq];lia
 refine wpAny_bind (wpAny_newList ?_ hz);have hoL:(h'.push (seqObj "list" vs.toArray 0)).get? h'.objs.size=some (seqObj "list" vs.toArray 0):=Oj _ rfl;refine wpAny_bind (wpAny_holding (wpAny_call_entry slot_list_sort ⟨_,hoL,rfl⟩ entry_list_sort (list_sort_treeK strKind_oneLt hoL hS.keysOf (fun v₁ v₂ rest e=>keyKind_strs (by rw [<- e];exact hS)) (by lia) fun st' a1 a2=>⟨_,rfl,?_⟩) (args_list_sort _)));refine wpAny_pure ⟨_,rfl,?_⟩;obtain ⟨ss',h1,h2,h3⟩:=sorted_out_str hS a1 a2;obtain ⟨e,he⟩:=sortedHeap_at (out:=(arrOf st').map (·.2)) hoL;have e2:((arrOf st').map (·.2))=((arrOf st').map (·.2)).toList.toArray:=Array.toArray_toList.symm;refine h h'.objs.size _ tk ((arrOf st').map (·.2)).toList ss' e (fun b o q=>?_) hsz (by rw [<- e2];exact he) h1 h2 h3;have q':=hk b o q;have hlt:=Heap.lt_size q';rw [sortedHeap_old (Ou hlt) (by rw [size_push'];exact Nat.lt_succ_of_lt hlt)];exact Od _ q'
theorem Zho(K:PySem.W.KdlSrc prog w T r d n P OK)(hh:A.handled=none)(hok:OK s.heap)(hn:n<=sizeLine)
   (h:∀ (h':Heap) (tk:Nat) (acc:Array Value),s.heap.objs.size<=h'.objs.size->(∀ b o,s.heap.get? b=some o->h'.get? b=some o)->ItemsOf P acc n->R acc.toList {s with heap:=h',toks:=tk}) :
   wpAny (model prog w) A (collect (.ref r)) R E s:=by
 have lt:=K.there _ hok;unfold collect;refine wpAny_bind (wpAny_runValue (codeAny_builtin entry_proto_collect' ?_));rw [Around.under_plainId PySem.F.plain_proto_collect _];show wpAny _ A.in1 (newList [] >>= fun x=>again (.builtin "list.__iadd__" ⟨[x,.ref r],[]⟩)) _ _ s;refine wpAny_bind (wpAny_newObj_type (wpAny_pure ⟨plainId_quiet PySem.F.plain_list_iadd _,codeAny_builtin entry_list_iadd' ?_⟩));rw [Around.under_plainId PySem.F.plain_list_iadd _];have e0:(s.heap.push {cls:=.type "list",data:=.seq ([]:List Value).toArray}).get? s.heap.objs.size=some {cls:=.type "list",data:=.seq #[]}:=Oj _ rfl;show wpAny _ A.in1 (Builtin.List.listExtendWith (.ref s.heap.objs.size) (.ref r) (.ref s.heap.objs.size)) _ _ _;have key:=PySem.W.kdl_extend (A:=A) (s:={s with heap:=s.heap.push {cls:=.type "list",data:=.seq ([]:List Value).toArray}})
   (R:=fun (q:Result) (s':Shared)=>∃ (h':Heap) (tk:Nat) (acc:Array Value) (c:Nat),q=.ok (.ret (.ref s.heap.objs.size))/\s'={s with heap:=h',toks:=tk}/\(∀ b o,s.heap.get? b=some o->h'.get? b=some o)/\h'.get? s.heap.objs.size=some {cls:=.type "list",dict:=none,data:=.seq acc c,slots:=#[]}/\ItemsOf P acc n)
   K hh (K.keep _ _ hok fun b _ o e=>Od _ e) s.heap.objs.size (Nat.ne_of_gt lt.1) (Nat.ne_of_gt lt.2) (.ref s.heap.objs.size) 0 e0 (fun h' tk acc c hk hS hacc=>⟨h',tk,acc,c,rfl,rfl,fun b o e=>hk b o (Ou (Heap.lt_size e)) (Od _ e),hS,hacc⟩) hn
 refine wpAny_mono key (fun fin s' x=>?_) fun e s' x=>?_
 . cases fin with
   | done f =>
     obtain ⟨h',tk,acc,c,e,rfl,hk,hS,hacc⟩:=x;cases e;exact wpAny_bind (wpAny_load hS (wpAny_pure (h h' tk acc (Nat.le_of_lt (Heap.lt_size hS)) hk hacc)))
   | again c₁ =>
     refine ⟨x.1,codeAny_mono x.2 fun q s₂ y=>?_⟩;obtain ⟨h',tk,acc,c,rfl,rfl,hk,hS,hacc⟩:=y;exact wpAny_bind (wpAny_load hS (wpAny_pure (h h' tk acc (Nat.le_of_lt (Heap.lt_size hS)) hk hacc)))
 . obtain ⟨_,_,_,_,z,_⟩:=x;cases z
end
theorem ZeB:∀ {xs:List α}{ys:List β},Paired R xs ys->∀ {i:Nat}{x:α},xs[i]? = some x->∃ y,ys[i]? = some y/\R x y
 | _,_,.nil,i,x,e=>by simp at e
 | _,_,.cons h r,0,x,e=>by cases e;exact ⟨_,rfl,h⟩
 | _,_,.cons h r,i+1,x,e=>by
   obtain ⟨y,h1,h2⟩:=ZeB r (i:=i) (x:=x) (by simpa using e);exact ⟨y,by simpa using h1,h2⟩
theorem Zeq:∀ (ss:List Str) (vs:List Value),vs.length=ss.length->(∀ (j:Nat) (v:Value),vs[j]? = some v->∃ x,ss[j]? = some x/\(ZD P w).is (Sum.inr x) v=true)->StrsAre vs ss
 | [],[],_,_=>.nil
 | s::ss,v::vs,hl,h=>by
   obtain ⟨x,e,hx⟩:=h 0 v rfl;cases e;obtain ⟨t,rfl⟩:=Value.isStrOf_shape (x:=s) (v:=v) hx;exact .cons s t (Zeq ss vs (by simpa using hl) fun j u hu=>h (j+1) u (by simpa using hu))
section
variable {X:Cx}
noncomputable def Zlf(P:Program)(w:World)(K:PySem.W.Frag):List V->Hp->VK->Prop:=fun xs H Q=>∃ a kvs ss,xs=[.ref a]/\Dk P w K H a kvs/\kvs.map (·.1)=ss.map Sum.inr/\ss.length<64/\∀ p ss',H p=none->ss'.Perm ss->sortedS ss'=true->Q (.ref p) (upd H p (.lst (ss'.map V.str)))
theorem Zgt (hc:X.A.handled=none):ZaK X (.builtin "sorted") (Zlf X.prog X.w X.K):=by
 intro pins s Z H xs us Q I r h;obtain ⟨a,kvs,ss,rfl,hd,hks,h64,q⟩:=h;obtain ⟨u,rfl,ru⟩:=vals1 r;cases ru;obtain ⟨z,hm,vs,rel,dd⟩:=I.dk hd;obtain ⟨ep,hat⟩:=dd.dictAt;have hl:vs.length=kvs.length:=(Paired.length rel).symm;have hl2:kvs.length=ss.length:=by
   have:=congrArg List.length hks;simpa using this
 have hkey:∀ (j:Nat) k x,vs[j]? = some (k,x)->∃ y,ss[j]? = some y/\k=Sum.inr y:=fun j k x e=>by
   have hj:j<vs.length:=(Ob.mp e).1;have h1:kvs[j]? = some kvs[j]:=Og (by lia);obtain ⟨u,hu,hu2⟩:=ZeB rel h1;rw [e] at hu;cases hu;have h3:(kvs.map (·.1))[j]? = some kvs[j].1:=by rw [On,h1];rfl
   rw [hks,On] at h3;obtain ⟨y,hy,e3⟩:=Oo.mp h3;exact ⟨y,hy,hu2.1.symm.trans e3.symm⟩
 refine ZhK (ss:=ss) (fun R hR=>Zho (PySem.W.kdl_dict (knd:=ZD X.prog X.w) (kvs:=vs) (ep:=ep) hm) hc hat (by lia) fun h' tk acc hsz hk hacc=>?_) h64 fun D h' tk out ss' n hk hD ho hS hp hs=>?_
 . refine hR h' tk acc.toList hsz hk (Zeq (P:=X.prog) (w:=X.w) ss acc.toList (by rw [Array.length_toList,hacc.1];lia) fun j v hv=>?_);obtain ⟨k,x,e,hk2⟩:=hacc.2 j v (by rw [<- Array.getElem?_toList];exact hv);obtain ⟨y,hy,rfl⟩:=hkey j k x e;exact ⟨y,hy,hk2⟩
 . have hlen:ss'.length<=sizeLine:=by rw [hp.length_eq];lia
   refine ⟨.ref D,_,I.laid (a:=D) (o:=.lst (ss'.map V.str)) (t':=tk) hk hD ⟨by simpa using hlen,out,n,ZdF hS,ho⟩,rfl,q D ss' (I.hok.fresh hD) hp hs⟩
end
end L2
end
section
namespace L2
open PySem PySem.Spec PyProof.Rows
theorem ZcL:∀ {ns:List Int}{vs:List Value},Zj (ns.map V.int) vs->IntsAre vs ns
 | [],vs,h=>by cases h;exact .nil
 | s::ss,vs,h=>by
   rw [Op] at h;cases h with
   | cons h1 h2 =>
     obtain ⟨t,rfl⟩:=h1;exact .cons s t (ZcL h2)
noncomputable def Zb5(z:Str)(n:Nat):Str:=⟨(List.replicate n z.cps).foldl (·++·) #[]⟩
theorem ZeS(a:Array Nat):∀ (n:Nat) (i:Array Nat),((List.replicate n a).foldl (·++·) i).size=i.size+n * a.size
 | 0,i=>by simp
 | n+1,i=>by
   rw [List.replicate_succ,List.foldl_cons,ZeS a n (i++a),Array.size_append,Nat.succ_mul]
   lia
theorem Zb4(z:Str)(n:Nat):(Zb5 z n).length=n * z.length:=by
 show ((List.replicate n z.cps).foldl (·++·) #[]).size=_;rw [ZeS];simp;rfl
section
variable {X:Cx}
theorem ZkF (hc:X.A.handled=none):ZaK X (.builtin "sum") (fun xs H Q=>∃ (a:Addr) (ns:List Int),xs=[.ref a]/\SqL X.K H a (ns.map V.int)/\Q (.int ns.sum) H):=by
 intro pins s Z H xs us Q I r h;obtain ⟨a,ns,rfl,hq,q⟩:=h;obtain ⟨u,rfl,ru⟩:=vals1 r;cases ru;obtain ⟨its,rv,pl,hz⟩:=I.list hq;have hi:=ZcL rv;obtain ⟨ys,e⟩:=hi.allInts.items;refine sum_intListG (xs:=ys) hc (by rw [<- e];exact pl.isList) fun h' tk t' hk=>?_;refine ⟨.int ns.sum,H,I.kept (t':=tk) hk,⟨t',?_⟩,q⟩;have e2:=hi.numsOf;have e3:numsOf (intItems ys).toList=ns:=by rw [<- e];exact e2
 rw [nums_intItems] at e3;rw [preSum_eq,List.take_of_length_le (by simp),e3]
theorem ZnO:OpR X (binaryOp .Mult) (fun x y H Q=>∃ z n,x=.str z/\y=.int n/\0<=n/\n<=1000/\z.length<=1000/\Q (.str (Zb5 z n.toNat)) H):=by
 intro pins s Z H x y v u Q I rx ry h;obtain ⟨z,n,rfl,rfl,h0,h1,h2,q⟩:=h;obtain ⟨t,rfl⟩:=rx;obtain ⟨t2,rfl⟩:=ry;have hl:z.length * n.toNat<=1000000:=Nat.mul_le_mul h2 (by lia:n.toNat<=1000);have hs:(1000000:Nat)<=sizeLine:=by decide
 refine PySem.P.mul_str (by rw [decide_eq_false (by lia:¬ n < -(2 ^ 63:Int)),decide_eq_false (by lia:¬ n ≥ 2 ^ 63)]<;>rfl) (fun _ _=>?_) (fun _ _=>?_) ?_
 . have h3:1<=n:=by lia
   have h4:(9223372036854775807:Int) / n ≥ 1000:=by
     have:1000<=9223372036854775807 / n:=(Int.le_ediv_iff_mul_le (by lia)).mpr (by lia);exact this
   show ¬ ((z.length:Int) > (2 ^ 63 - 1) / n);rw [show (2 ^ 63 - 1:Int)=9223372036854775807 by decide]
   lia
 . unfold Builtin.Str.tooLong;exact decide_eq_false (by lia)
 . by_cases hn:n<1
   . rw [if_pos hn];refine ⟨by decide,.str _,H,I.tok _,⟨_,rfl⟩,?_⟩;rw [show n.toNat=0 by lia] at q;exact q
   . rw [if_neg hn];by_cases h5:(n==1 || z.length==0)=true
     . rw [if_pos h5];refine ⟨.str _,H,I,⟨_,rfl⟩,?_⟩;have e:Zb5 z n.toNat=z:=by
         rw [Bool.or_eq_true] at h5;rcases h5 with h5|h5
         . have e1:n.toNat=1:=by have:=eq_of_beq h5;lia
           rw [e1];unfold Zb5;simp
         . have e1:z.length=0:=eq_of_beq h5;have e2:(Zb5 z n.toNat).length=0:=by rw [Zb4,e1];simp
           have f:∀ y:Str,y.length=0->y=⟨#[]⟩:=fun y hy=>by
             cases y with|mk c=>rw [show c=#[] from Array.eq_empty_of_size_eq_zero hy]
           exact (f _ e2).trans (f z e1).symm
       rw [e] at q;exact q
     . rw [if_neg h5];refine ⟨?_,.str _,H,I.tok _,⟨_,rfl⟩,q⟩;show (Zb5 z n.toNat).length<=sizeLine;rw [Zb4,Nat.mul_comm]
       lia
end
end L2
end
section
namespace L2
open PySem PySem.Spec PyProof.Rows
section
variable {X:Cx}
theorem Zf9(hi:i.natAbs<2 ^ 2000)(hj:j.natAbs<2 ^ 2000):IntMulOk i j:=by
 have bits:∀ k:Int,k.natAbs<2 ^ 2000->Builtin.Int.intBits k<=2000:=fun k hk=>by
   unfold Builtin.Int.intBits;split
   . lia
   . rename_i h;have h0:k.natAbs≠0:=by simpa using h
     have:=(Nat.log2_lt h0).mpr hk
     lia
 unfold IntMulOk;have h1:=bits i hi;have h2:=bits j hj;have h3:Builtin.Int.intTooBig (Builtin.Int.intBits i+Builtin.Int.intBits j:Nat)=false:=by
   unfold Builtin.Int.intTooBig;rw [decide_eq_false_iff_not];have:(bitsLine:Nat)=134217728:=by decide
   rw [this]
   lia
 intro q;simp only [Oa] at q;have q2:=q.2;rw [show ((Builtin.Int.intBits i:Int)+(Builtin.Int.intBits j:Int))=((Builtin.Int.intBits i+Builtin.Int.intBits j:Nat):Int) by simp] at q2;rw [h3] at q2;cases q2
theorem Zkl:OpR X (binaryOp .Mult) (rI (fun i j=>i.natAbs<2 ^ 2000/\j.natAbs<2 ^ 2000) fun i j=>.int (i * j)):=opI fun _ _ _ _ _ _ _ hc q=>mul_int q (Zf9 hc.1 hc.2)
noncomputable def Zsl(K:PySem.W.Frag):R2:=fun x y H Q=>∃ a b ys,x=.ref a/\y=.ref b/\SqT K H a []/\SqT K H b ys/\Q (.ref b) H
theorem ZnR:OpR X (binaryOp .Add) (Zsl X.K):=by
 intro pins s Z H x y v u Q I rx ry h;obtain ⟨a,b,ys,rfl,rfl,ha,hb,q⟩:=h;cases rx;cases ry;obtain ⟨its,r1,ht,_⟩:=I.tuple ha;obtain ⟨its2,r2,hb,_⟩:=I.tuple hb;cases r1;obtain ⟨⟨cls,dd,data,sl⟩,ho,hc,n,hd⟩:=id ht;obtain ⟨⟨cls2,dd2,data2,sl2⟩,ho2,hc2,n2,hd2⟩:=id hb;simp only at hc hd hc2 hd2;subst hc hd hc2 hd2;exact concat_meets ⟨_,ho,rfl⟩ ⟨_,ho2,rfl⟩ noFill_tuple_add seq_tuple_add PySem.F.slot_tuple_add PySem.F.entry_tuple_add (PySem.F.args_tuple_add_2 _ _)
     (tuple_addW0 a b _ _ n n2 dd dd2 sl sl2 (by simp)) ⟨ho,ho2,⟨.ref b,H,I,rfl,q⟩⟩
end
end L2
namespace HT
open PySem PyProof.Rows
section
variable {prog:Program}{w:World}{A:Around}{E:Value->Shared->Prop}{s:Shared}
theorem ZcK{t sl:Addr}{items:Array Value}{lo hi:Option Int}{Q:Value->Shared->Prop}(ht:IsTup s.heap t items)(hs:s.heap.IsSliceOf sl vl vu .none)(pl:IsPart vl lo)(pu:IsPart vu hi)
   (hw:sIx items.size 0 lo=0/\sIx items.size items.size hi=items.size) (h:Q (.ref t) s):wpAny (model prog w) A (getItem (.ref t) (.ref sl)) Q E s:=by
 obtain ⟨os,hos,hcs,hds⟩:=id hs;have hTs:s.TypeIs (.ref sl) "slice" := ⟨os,hos,hcs⟩
 unfold getItem
 try with_reducible refine wpAny_holding ?_
 first|refine wpAny_bind (wpAny_pure ?_)|skip
 refine wpAny_bind (wpAny_sequenceKey ht.typeIs (by decide) ?_);refine wpAny_bind (wpAny_callSpecial?_slot (name:=O "__getitem__") ht.typeIs PyProof.Rows.slot_tuple_getitem
   (wpAny_call_entry PyProof.Rows.slot_tuple_getitem ht.typeIs entry_tuple_getitem ?_ (args_tuple_getitem _ _)))
 show wpAny _ _ (Builtin.Tuple.tupleItemsOf (.ref t) >>= _) _ _ s;refine wpAny_bind (tupleItemsOf_ ht ?_);refine wpAny_bind (wpAny_typeOf hTs ?_);rw [if_pos (by decide)];refine wpAny_bind (Zbp hs pl pu ?_);have hyes:(((sIx items.size 0 lo:Nat):Int)==0&&(1:Int)==1&&(sIx items.size items.size hi - sIx items.size 0 lo)==items.size)=true:=by
   rw [hw.1,hw.2];simp
 show wpAny _ _ (if (((sIx items.size 0 lo:Nat):Int)==0&&(1:Int)==1&&(sIx items.size items.size hi - sIx items.size 0 lo)==items.size)=true then _ else _) _ _ s;rw [if_pos hyes];unfold Builtin.Tuple.tupleIsExact;refine wpAny_bind (wpAny_bind (wpAny_typeOf ht.typeIs (wpAny_pure ?_)));rw [if_pos (by decide)];exact wpAny_bind (wpAny_rule (wpAny_pure ⟨_,rfl,wpAny_pure h⟩))
end
end HT
namespace L2
open PySem PySem.Spec PyProof.Rows
section
variable {X:Cx}
noncomputable def Zuc(K:PySem.W.Frag):V->Option Int->Option Int->Hp->VK->Prop:=fun x lo hi H Q=>∃ a xs,x=.ref a/\SqT K H a xs /\
 (HT.sIx xs.length 0 lo=0/\HT.sIx xs.length xs.length hi=xs.length)/\Q (.ref a) H
theorem Zk2:SlR X (Zuc X.K):=by
 intro pins s Z H x v vl vu lo hi sl Q I rx hs pl pu h;obtain ⟨a,xs,rfl,hx,hw,q⟩:=h;cases rx;obtain ⟨its,r,ht,hz⟩:=I.tuple hx;have hlen:its.toArray.size=xs.length:=by rw [Of];exact r.length.symm
 refine ⟨"tuple",_,PyProof.Rows.slot_tuple_getitem.lookup,ht.typeIs,?_⟩;exact HT.ZcK ht hs pl pu (by rw [hlen];exact hw) ⟨.ref a,H,I,rfl,q⟩
end
end L2
end
section
set_option tactic.hygienic false
namespace L2
namespace Mx
open PySem PyProof.Rows
theorem nm:(toString "max" ++ toString ".loop" : String) = "max.loop" := by decide
section
variable {prog:Program}{w:World}{A:Around}{Z_:Result->Shared->Prop}{J:Addr}{fo wo:List Addr}{m:Nat}{P:Nat->Value->Prop}{S_:Nat->Heap->Prop}
theorem loop(W:Walks prog w A.in1 J fo wo m P S_)(bt:Nat->Nat->Bool)(hb:CmpOf prog w A.in1 .Gt P bt)(C:Addr)(hC:C ∉ fo)(kw:List (Str×Value)):∀ (d j:Nat) (s:Shared) (u:Value) (c:Nat),
   m - (j+1)=d->j+1<=m->S_ (j+1) s.heap->P (argBest bt j) u->s.heap.get? C=some {cls:=.type "list",dict:=none,data:=.seq #[u,u] c,slots:=#[]} ->
   (∀ v hp tk,P (argBest bt (m - 1)) v->(∀ b o,b ∉ wo->b≠C->s.heap.get? b=some o->hp.get? b=some o)->Z_ (.ok (.ret v)) {s with heap:=hp,toks:=tk}) ->
   codeAny (model prog w) A (.builtin "max.loop" ⟨[.ref J,.none,.ref C],kw⟩) Z_ s:=by
 have hCw:C ∉ wo:=fun z=>hC (W.sub _ z);intro d;induction d with
 | zero =>
   intro j s u c e1 e2 st pu hc hz;have em:j+1=m:=by omega
   refine codeAny_builtin PySem.F.entry_max_loop ?_;rw [Around.under_plainId PySem.F.plain_max_loop _];show wpAny (model prog w) A.in1 (seqItems? (Value.ref C) >>= _) _ _ s;refine wpAny_bind (wpAny_seqItems hc rfl ?_);show wpAny (model prog w) A.in1 (tryCatch (pyNext (Value.ref J)) _ >>= _) _ _ s;refine wpAny_bind (wpAny_tryCatch (W.done s _ _ (em ▸ st) fun hp tk kp=>?_));have hc1:=kp C _ hCw hc;show wpAny (model prog w) A.in1 (updateSeq C (fun _=>#[]) >>= _) _ _ _;exact wpAny_bind (wpAny_updateSeq hc1 rfl (wpAny_bind (wpAny_letGo (wpAny_pure (hz u _ tk (by rw [<- em];exact pu) fun b o b1 b2 e=>(Heap.get?_update_other _ _ (Ne.symm b2)).trans (kp b o b1 e))))))
 | succ d ih =>
   intro j s u c e1 e2 st pu hc hz;have lt:j+1<m:=by omega
   refine codeAny_builtin PySem.F.entry_max_loop ?_;rw [Around.under_plainId PySem.F.plain_max_loop _];show wpAny (model prog w) A.in1 (seqItems? (Value.ref C) >>= _) _ _ s;refine wpAny_bind (wpAny_seqItems hc rfl ?_);show wpAny (model prog w) A.in1 (tryCatch (pyNext (Value.ref J)) _ >>= _) _ _ s;refine wpAny_bind (wpAny_tryCatch (W.item (j+1) s _ _ lt st fun v hp tk pv st1 kp=>?_));have hc1:=kp C _ hCw hc;show wpAny (model prog w) A.in1 (tryCatch (holding [v,v] (richCompare CmpOp.Gt v u >>= _)) _ >>= _) _ _ _;refine wpAny_bind (wpAny_tryCatch (wpAny_holding (wpAny_bind (hb (j+1) (argBest bt j) v u _ _ _ pv pu (wpAny_bind (wpAny_holding (wpAny_truthy_bool (wpAny_bind (wpAny_letGo (wpAny_pure ?_))))))))));cases q:bt (j+1) (argBest bt j) with
   | true =>
     simp only [if_true];refine wpAny_bind (wpAny_updateSeq hc1 rfl (wpAny_bind (wpAny_letGo ?_)));rw [nm];refine wpAny_pure ⟨plainId_quiet PySem.F.plain_max_loop _,ih (j+1) _ v _ (by omega) lt (W.frame _ _ _ st1 fun b b1 o e=>?_) (by simp only [argBest,q,if_true];exact pv) (Heap.get?_update_self _ hc1 rfl) fun v2 hp2 tk2 pv2 kp2=>?_⟩
     . exact (Heap.get?_update_other _ _ (fun z:C=b=>hC (by rw [z];exact b1))).trans e
     . exact hz v2 hp2 tk2 pv2 fun b o b1 b2 e=>kp2 b o b1 b2 ((Heap.get?_update_other _ _ (Ne.symm b2)).trans (kp b o b1 e))
   | false =>
     simp only [OG,if_false];refine wpAny_bind (wpAny_letGo ?_);rw [nm];exact wpAny_pure ⟨plainId_quiet PySem.F.plain_max_loop _,ih (j+1) _ u c (by omega) lt st1 (by simp only [argBest,q,OG,if_false];exact pu) hc1 fun v2 hp2 tk2 pv2 kp2=>hz v2 hp2 tk2 pv2 fun b o b1 b2 e=>kp2 b o b1 b2 (kp b o b1 e)⟩
theorem first(W:Walks prog w A.in1 J fo wo m P S_)(bt:Nat->Nat->Bool)(hb:CmpOf prog w A.in1 .Gt P bt)(C:Addr)(hC:C ∉ fo)(dn:Str)(dv:Value)(st:S_ 0 s.heap)
   (hc:s.heap.get? C=some {cls:=.type "list",dict:=none,data:=.seq #[] c,slots:=#[]})
   (hz:∀ v hp tk,(m=0->v=dv)->(0<m->P (argBest bt (m - 1)) v)->(∀ b o,b ∉ wo->b≠C->s.heap.get? b=some o->hp.get? b=some o)->Z_ (.ok (.ret v)) {s with heap:=hp,toks:=tk}) :
   codeAny (model prog w) A (.builtin "max.loop" ⟨[.ref J,.none,.ref C],[(dn,dv)]⟩) Z_ s:=by
 have hCw:C ∉ wo:=fun z=>hC (W.sub _ z);refine codeAny_builtin PySem.F.entry_max_loop ?_;rw [Around.under_plainId PySem.F.plain_max_loop _];show wpAny (model prog w) A.in1 (seqItems? (Value.ref C) >>= _) _ _ s;refine wpAny_bind (wpAny_seqItems hc rfl ?_);show wpAny (model prog w) A.in1 (tryCatch (pyNext (Value.ref J)) _ >>= _) _ _ s;by_cases hm:0<m
 . refine wpAny_bind (wpAny_tryCatch (W.item 0 s _ _ hm st fun v hp tk pv st1 kp=>?_));have hc1:=kp C _ hCw hc;show wpAny (model prog w) A.in1 (updateSeq C (fun _=>#[v,v]) >>= _) _ _ _;refine wpAny_bind (wpAny_updateSeq hc1 rfl ?_);rw [nm];refine wpAny_pure ⟨plainId_quiet PySem.F.plain_max_loop _,loop W bt hb C hC _ _ 0 _ v _ rfl hm (W.frame _ _ _ st1 fun b b1 o e=>?_) pv (Heap.get?_update_self _ hc1 rfl) fun v2 hp2 tk2 pv2 kp2=>?_⟩
   . exact (Heap.get?_update_other _ _ (fun z:C=b=>hC (by rw [z];exact b1))).trans e
   . exact hz v2 hp2 tk2 (fun z=>by omega) (fun _=>pv2) fun b o b1 b2 e=>kp2 b o b1 b2 ((Heap.get?_update_other _ _ (Ne.symm b2)).trans (kp b o b1 e))
 . have h0:m=0:=by omega
   refine wpAny_bind (wpAny_tryCatch (W.done s _ _ (h0 ▸ st) fun hp tk kp=>?_));exact wpAny_bind (wpAny_rule (wpAny_pure (hz dv hp tk (fun _=>rfl) (fun z=>absurd z hm) fun b o b1 _ e=>kp b o b1 e)))
end
section
variable {prog:Program}{w:World}{A:Around}{E:Value->Shared->Prop}{s:Shared}
theorem args (a d:Value):argsOk "max" ⟨[a],[("default",d)]⟩:=by unfold argsOk;kernel_rfl
theorem call
   (h:wpAny (model prog w) A.in1 (pyIter x) (fun it s2=>∃ J fo wo m P S_ bt,it=.ref J/\Walks prog w A.in1 J fo wo m P S_/\S_ 0 s2.heap/\(∀ b∈fo,b<s2.heap.objs.size)/\CmpOf prog w A.in1 .Gt P bt /\
     ∀ v hp tk,(m=0->v=dv)->(0<m->P (argBest bt (m - 1)) v)->(∀ b o,b ∉ wo->s2.heap.get? b=some o->hp.get? b=some o)->Q v {s2 with heap:=hp,toks:=tk}) E s) :
   wpAny (model prog w) A (PySem.call (.builtin "max") [x] [("default",dv)]) Q E s:=by
 refine wpAny_call (codeAny_call_builtin PySem.F.plain_max PySem.F.entry_max ?_);simp only [checkBuiltinCall,PySem.F.kind_max];have go:wpAny (model prog w) A.in1 (Builtin.«max» ⟨[x],[("default",dv)]⟩) (fun fin s'=>match fin with
     | .done f=>(match (Except.ok f:Result) with|.ok (.ret v)=>Q v s'|.ok _=>False|.error e=>E e s')
     | .again c'=>c'.quiet=true/\codeAny (model prog w) A c' (fun r s'=>match r with|.ok (.ret v)=>Q v s'|.ok _=>False|.error e=>E e s') s') E s:=by
   show wpAny (model prog w) A.in1 (Builtin.Builtins.bindParams "max" ["key", "default"] 0 ⟨[],[("default",dv)]⟩ >>= _) _ _ s;refine wpAny_bind (wpAny_of_eq (show Builtin.Builtins.bindParams "max" ["key", "default"] 0 ⟨[],[("default",dv)]⟩=pure [none,some dv] from rfl) (wpAny_bind (wpAny_pure (wpAny_bind (wpAny_mono h (fun it s2 q=>?_) fun _ _ e=>e)))));obtain ⟨J,fo,wo,m,P,S_,bt,rfl,W,st,hfo,hb,hQ⟩:=q;refine wpAny_bind (wpAny_newObj_type ?_);have hC:s2.heap.objs.size ∉ fo:=fun z=>Nat.lt_irrefl _ (hfo _ z);rw [nm];exact wpAny_pure ⟨plainId_quiet PySem.F.plain_max_loop _,first W bt hb s2.heap.objs.size hC _ dv (W.frame _ _ _ st fun b _ o e=>Od _ e) (Oj _ rfl) fun v hp tk a1 a2 kp=>hQ v hp tk a1 a2 fun b o b1 e=>kp b o b1 (Ou (Heap.lt_size e)) (Od _ e)⟩
 cases hs:Manifest.signature? "max" with
 | none=>exact wpAny_pure go
 | some sig =>
   have ha:=args x dv;simp only [argsOk,hs] at ha;have h2:Bind.checkArgs "max" sig ⟨[x],[("default",dv)]⟩=pure ():=ha;show wpAny _ A.in1 (Bind.checkArgs "max" sig ⟨[x],[("default",dv)]⟩) _ _ s;rw [h2];exact wpAny_pure go
end
end Mx
end L2
namespace L2
open PySem PySem.Spec PyProof.Rows
noncomputable def Zb9:List Int->Int->Int
 | [],d=>d
 | x::r,_=>r.foldl (fun m y=>if y > m then y else m) x
theorem ZfK(ns:List Int):∀ k,k<ns.length->(argBest (fun i j=>decide (ns.getD i 0 > ns.getD j 0)) k)<ns.length/\ns.getD (argBest (fun i j=>decide (ns.getD i 0 > ns.getD j 0)) k) 0=Zb9 (ns.take (k+1)) 0
 | 0,h=>by
   cases ns with
   | nil=>simp at h
   | cons x r=>exact ⟨by simp [argBest],by simp [argBest,Zb9]⟩
 | k+1,h=>by
   obtain ⟨h1,h2⟩:=ZfK ns k (by omega);have e:Zb9 (ns.take (k+1+1)) 0=if ns.getD (k+1) 0 > Zb9 (ns.take (k+1)) 0 then ns.getD (k+1) 0 else Zb9 (ns.take (k+1)) 0:=by
     cases ns with
     | nil=>simp at h
     | cons x r =>
       have hk:k<r.length:=by simpa using h
       show ((r.take (k+1)).foldl _ x)=_;rw [List.take_succ_eq_append_getElem hk,List.foldl_append];simp only [List.foldl_cons,List.foldl_nil];have:(x::r).getD (k+1) 0=r[k]:=by simp [List.getD_eq_getElem?_getD,Og hk]
       rw [this];rfl
   rw [e,<- h2];have ea:argBest (fun i j=>decide (ns.getD i 0 > ns.getD j 0)) (k+1)=if decide (ns.getD (k+1) 0 > ns.getD (argBest (fun i j=>decide (ns.getD i 0 > ns.getD j 0)) k) 0)=true then k+1 else argBest (fun i j=>decide (ns.getD i 0 > ns.getD j 0)) k:=rfl;rw [ea];by_cases q:ns.getD (k+1) 0 > ns.getD (argBest (fun i j=>decide (ns.getD i 0 > ns.getD j 0)) k) 0
   . rw [if_pos (decide_eq_true q),if_pos q];exact ⟨h,rfl⟩
   . rw [if_neg (by simpa using q),if_neg q];exact ⟨h1,rfl⟩
section
variable {X:Cx}
theorem ZlS(hc:X.calm=true)(I:Inv X pins Z H s)(hx:SqL X.K H a (ns.map V.int))(q:Q (.int (Zb9 ns d)) H) :
   wpAny (model X.prog X.w) X.A (PySem.call (.builtin "max") [.ref a] [("default",.int d t)]) (EP X pins Z Q) X.xe s:=by
 obtain ⟨its,rv,pl,hz⟩:=I.list hx;have hlt:a<s.heap.objs.size:=by obtain ⟨_,_,e,_⟩:=pl;exact Heap.lt_size e
 have hl:its.length=ns.length:=by have:=rv.length;rw [List.length_map] at this;exact this.symm
 have val:∀ {i:Nat}{v:Value},its.toArray[i]? = some v->i<ns.length/\∃ t,v=.int (ns.getD i 0) t:=fun {i v} hv=>by
   have hv':its[i]? = some v:=by simpa using hv
   have hi:i<ns.length:=by rw [<- hl];exact (Ob.mp hv').1
   have hb:(ns.map V.int)[i]? = some (.int ns[i]):=by rw [On,Og hi]<;>rfl
   obtain ⟨u',e',r'⟩:=rv.get hb;rw [hv'] at e';cases e';obtain ⟨t,rfl⟩:=r';exact ⟨hi,t,by simp [List.getD_eq_getElem?_getD,Og hi]⟩
 refine Mx.call (wpAny_pyIter_list pl.isList ?_);refine ⟨s.heap.objs.size,_,_,_,_,_,fun i j=>decide (ns.getD i 0 > ns.getD j 0),rfl,Walks.list (A:=X.A.in1) (show X.A.in1.handled=none from I.ok.hd hc) s.heap.objs.size a (Ou hlt) its.toArray,⟨⟨_,Oj _ rfl,rfl,rfl⟩,pl.isList.push _⟩,?_,?_,fun v hp tk a1 a2 kp=>?_⟩
 . intro b hb;have hp1:b<s.heap.objs.size+1:=by
     simp at hb;rcases hb with rfl|rfl
     . exact OH _
     . exact Nat.lt_succ_of_lt hlt
   simpa [Heap.push] using hp1
 . exact CmpOf.ints_gt (fun i=>ns.getD i 0) fun i v hv=>(val hv).2
 . refine ⟨.int (Zb9 ns d),H,I.kept fun b o e=>kp b o (fun z=>?_) (Od _ e),?_,q⟩
   . have:b=s.heap.objs.size:=by simpa using z
     subst this;exact absurd (Heap.lt_size e) (Nat.lt_irrefl _)
   . have hsz:its.toArray.size=ns.length:=by rw [Of,hl]
     by_cases h0:ns=[]
     . subst h0;have:=a1 (by rw [hsz];rfl);subst this;exact ⟨t,rfl⟩
     . have hp0:0<ns.length:=List.length_pos_iff.mpr h0;obtain ⟨_,t3,ev⟩:=val (a2 (by rw [hsz];exact hp0));refine ⟨t3,?_⟩;rw [ev,hsz,(ZfK ns (ns.length - 1) (by omega)).2,List.take_of_length_le (by omega)];cases ns with
       | nil=>exact absurd rfl h0
       | cons x r=>rfl
end
end L2
namespace L2
open PySem PySem.Spec PyProof.Rows
section
variable {X:Cx}
noncomputable def ZrZ(K:PySem.W.Frag)(ta tb:TE):TE:=fun Z H Q=>ta Z H fun v H1=>tb Z H1 fun u H2=>∃ a ns d,v=.ref a/\u=.int d/\SqL K H2 a (ns.map V.int)/\Q (.int (Zb9 ns d)) H2
theorem ZnE (hg:Gl X "max") (hm:X.mg "max" = none) (hc:X.calm=true) (ha:PE X x ta) (hb:PE X y tb) (he:starEach [x] X.env=[(false,eval x X.env)]) :
   PE X (.Call (.Name "max" p) [x] [⟨some "default",y,kp⟩] pos) (ZrZ X.K ta tb):=by
 intro pins s Z H Q I h;refine wpAny_Call_Name_kw (ZbD I hg hm boot_max ?_);refine PyProof.Rows.callWith_kw ?_ (by rw [he];rfl) (by rw [he];rfl);rw [he];refine Calls.spliced_cons (thn (ha pins s Z H _ I h) fun v s1 ⟨vv,H1,I1,r1,q1⟩=>Calls.spliced_nil ?_);refine kws_cons (thn (hb pins s1 Z H1 _ I1 q1) fun u s2 ⟨uu,H2,I2,r2,q2⟩=>kws_nil ?_);obtain ⟨a,ns,d,rfl,rfl,hq,q⟩:=q2;cases r1;obtain ⟨t,rfl⟩:=r2;exact ZlS hc I2 hq q
end
end L2
end
section
namespace L2
open PySem PySem.Spec PyProof PyProof.Rows PySem.AutoSeq1
set_option maxRecDepth 8000 in
theorem Zih(l:Addr)(items:Array Value)(n:Nat)(b:Addr)(items2:Array Value)(n2:Nat)(od:Option Addr)(sl:Array (Option Value))(hs0:¬(!items.isEmpty&&Builtin.List.listTooLong (items.size+items2.size))=true)(hs1:items.size<=sizeLine)(hs2:items.size+items2.size<=sizeLine+1) :
   Meets (Builtin.«list.extend» ⟨[.ref l,.ref b],[]⟩) (fun _ R s=>s.heap.get? l=some {cls:=.type "list",dict:=none,data:=.seq items n,slots:=#[]}/\s.heap.get? b=some {cls:=.type "tuple",dict:=od,data:=.seq items2 n2,slots:=sl}/\R (.ok (.ret Value.none)) {s with heap:=s.heap.update l (Obj.mapSeq fun x=>x++items2),toks:=s.toks}) :=
 .of_wp fun prog w A R s h=>by
   obtain ⟨hp,g,d,tk,os⟩:=s;obtain ⟨hl,hb,h⟩:=h;have f1:=idx_int;have f2:=AutoSeq1.sub_tuple_tuple;have f3:=AutoSeq1.sub_list_list;have f4:=AutoSeq1.sub_tuple_list;have f5:=AutoSeq1.sub_list_tuple;have hz':(items++items2).size<=sizeLine+1:=by rw [Array.size_append];exact hs2
   wp_walk using (wpAny_updateSeq hl rfl (hz:=hs1) (_hz':=hz')),wpAny_loadPart' hl,wpAny_loadPart' hb;exact ⟨_,rfl,h⟩
section
variable {X:Cx}
noncomputable def Zlh(K:PySem.W.Frag):V->List V->Hp->VK->Prop:=fun x vs H Q=>∃ l b xs zs,x=.ref l/\vs=[.ref b]/\H l=some (.lst xs)/\SqT K H b zs/\xs.length+zs.length<=sizeLine/\Q .non (upd H l (.lst (xs++zs)))
theorem ZhZ:MtM X "list.extend" (Zlh X.K):=by
 intro pins s Z H x vs v us Q I rx rv h;obtain ⟨l,b,xs,zs,rfl,rfl,hH,hB,hz,q⟩:=h;cases rx;obtain ⟨u,rfl,ru⟩:=rv.one;cases ru;obtain ⟨z,its,n,r,hl,e⟩:=I.lstM hH;obtain ⟨its2,r2,⟨o,e2,oc,n2,od⟩,z2⟩:=I.tuple hB;obtain ⟨cls,dc,dat,sl⟩:=o;simp only at oc od;subst oc;subst od;have hl2:=r2.length;have hsz:its.toArray.size+its2.toArray.size<=sizeLine:=by rw [Of,Of];lia
 have hlong:¬ (!its.toArray.isEmpty&&Builtin.List.listTooLong (its.toArray.size+its2.toArray.size))=true:=by
   rw [ZgU hsz,Bool.and_false];exact Ow
 refine call_meets F.slot_list_extend ⟨_,e,rfl⟩ F.entry_list_extend (F.args_list_extend_2 _ _)
   (Zih l its.toArray n b its2.toArray n2 dc sl hlong (by rw [Of];lia) (by lia)) ⟨e,e2,?_⟩
 refine ⟨.non,_,I.lset (its':=its++its2) hH e (by simp) (r.append r2) ?_,rfl,q⟩;rw [OA]
 lia
end
end L2
end
section
namespace L2
open PySem PySem.Spec PyProof.Rows
noncomputable def Zru(K:PySem.W.Frag)(a:Addr)(n:Nat):It :=
 ⟨fun i H=>∃ xs x,SqL K H a xs/\xs.length=n/\xs.reverse[i]? = some x,fun i H x H'=>H'=H/\∀ xs,SqL K H a xs->xs.reverse[i]? = some x,fun i H=>∃ xs,SqL K H a xs/\xs.length=n/\n=i⟩
theorem ZjZ{P:Program}{w:World}{K:PySem.W.Frag}{tg:Expr}(a it:Addr)(n:Nat):Turn P w K tg (Zru K a n) [it] it (fun i h=>i<=n/\h.IsRevIter it a ((n:Int) - 1 - i)) where
 mem:=by simp
 obj:=fun i h st b hb=>by
   have e:b=it:=by simpa using hb
   subst e;obtain ⟨_,o,e,c,d⟩:=st;exact ⟨o,e,fun v z=>by rw [d] at z;cases z⟩
 keep:=fun i h h' st k=>⟨st.1,st.2.at fun o e=>k it (by simp) o e⟩
 item:=by
   intro X hP hw hK hc i pins s Z H E I hf st hg;subst hP hw hK;obtain ⟨hin,st⟩:=st;obtain ⟨xs,x,hq,hxn,hx⟩:=hg;obtain ⟨its,rv,p,hz⟩:=I.list hq;have hl:=rv.length;have hi:i<xs.length:=by
     have:=(Ob.mp hx).1;simpa using this
   have hx':xs[n - 1 - i]? = some x:=by
     rw [List.getElem?_reverse hi] at hx;rw [<- hxn];exact hx
   obtain ⟨u,hu,ru⟩:=rv.get hx';obtain ⟨f0,f1,f2,f3,f4,f5⟩:=hf it (by simp);have e1:(n:Int) - 1 - (i:Nat)=((n - 1 - i:Nat):Int):=by lia
   rw [e1] at st;refine wpAny_pyNext_rev_item st p.isList (x:=u) (by simpa using hu) fun h' st' sb=>?_;have I1:Inv X pins Z H {s with heap:=h'}:=I.turned (t':=s.toks) (fun b o hb e=>(sb.2 b hb).trans e) f0 f1 f3 f4 f5;obtain ⟨o,e,c,d⟩:=id st';have e2:((n - 1 - i:Nat):Int) - 1=(n:Int) - 1 - ((i+1:Nat):Int):=by lia
   exact ⟨u,rfl,ZfC (s:={s with heap:=h'}) e c d (by decide) ⟨x,H,I1,ru,⟨rfl,fun ys hy=>by rw [I.list_inj hy hq];exact hx⟩,⟨by lia,by rw [<- e2];exact st'⟩,fun b hb=>(hf b hb).1⟩⟩
 done:=by
   intro X hP hw hK hc i pins s Z H E I hf st hg;subst hP hw hK;obtain ⟨xs,hq,hxn,hx⟩:=hg;obtain ⟨f0,f1,f2,f3,f4,f5⟩:=hf it (by simp);have st1:=st.2;rw [show (n:Int) - 1 - (i:Nat)=-1 by lia] at st1;exact wpAny_pyNext_rev_end (I.ok.hd hc) st1 fun h' eb=>⟨rfl,I.turned (t':=s.toks) (fun b o hb e=>eb b o hb e) f0 f1 f3 f4 f5⟩
 self:=fun _ _ _ _ _ st h=>wpAny_pyIter_revIter st.2 h
noncomputable def Zs7(K:PySem.W.Frag)(ta:TA):TI:=fun Z H R=>ta Z H fun vs H1=>∃ a xs,vs=[.ref a]/\((SqT K H1 a xs/\R (Itv K a xs.length) H1)\/(SqL K H1 a xs/\R (Zru K a xs.length) H1))
theorem ZnB {X:Cx}{tg l:Expr}{ta:TA}{p pos:Pos} (hg:Gl X "reversed") (hm:X.mg "reversed" = none) (ha:PA X [l] ta) (hs:starEach [l] X.env=[(false,eval l X.env)]:=by rfl) :
   PI X tg (.Call (.Name "reversed" p) [l] [] pos) (Zs7 X.K ta):=by
 intro pins s Z H R I h;refine Call_ (ZbD I hg hm boot_reversed (PyProof.Rows.callWith_type1 (thn (ha pos pins s Z H _ I h) fun us s1 ⟨vs,H1,I1,r1,q1⟩=>?_) hs rfl));obtain ⟨a,xs,rfl,q⟩:=q1;obtain ⟨u,rfl,ru⟩:=vals1 r1;obtain rfl:u=Value.ref a:=ru;rcases q with ⟨hq,q⟩|⟨hq,q⟩
 . obtain ⟨its,rv,pl,hz⟩:=I1.tuple hq;have hl:=rv.length;refine Rv.call pl (by simp;lia) ?_;have e1:((its.toArray.size:Nat):Int) - 1=(xs.length:Int) - 1 - ((0:Nat):Int):=by simp;lia
   have st:Rv.Is (s1.heap.push (Rv.obj a (((its.toArray.size:Nat):Int) - 1))) s1.heap.objs.size a ((xs.length:Int) - 1 - ((0:Nat):Int)):=⟨_,Oj _ rfl,rfl,by rw [<- e1];rfl⟩
   refine Rv.ZfB st ?_;refine ⟨s1.heap.objs.size,[s1.heap.objs.size],_,_,H1,rfl,I1.kept (t':=s1.toks+1+1) fun b o e=>Od _ e,ZkR a _ xs.length,⟨Nat.zero_le _,st⟩,fun b hb=>?_,q⟩;have e:b=s1.heap.objs.size:=by simpa using hb
   subst e;exact I1.fpOk (Oq _) (I1.hok.fresh (Oq _))
 . obtain ⟨its,rv,pl,hz⟩:=I1.list hq;have hl:=rv.length;refine call_reversed_list pl.isList ?_;have e1:((its.toArray.size:Nat):Int) - 1=(xs.length:Int) - 1 - ((0:Nat):Int):=by simp;lia
   have st:(s1.heap.push (revObj a (((its.toArray.size:Nat):Int) - 1))).IsRevIter s1.heap.objs.size a ((xs.length:Int) - 1 - ((0:Nat):Int)):=⟨_,Oj _ rfl,rfl,by rw [<- e1];rfl⟩
   refine wpAny_pyIter_revIter st ?_;refine ⟨s1.heap.objs.size,[s1.heap.objs.size],_,_,H1,rfl,I1.kept (t':=s1.toks) fun b o e=>Od _ e,ZjZ a _ xs.length,⟨Nat.zero_le _,st⟩,fun b hb=>?_,q⟩;have e:b=s1.heap.objs.size:=by simpa using hb
   subst e;exact I1.fpOk (Oq _) (I1.hok.fresh (Oq _))
end L2
end
section
namespace L2
open PySem PySem.Spec PyProof.Rows
namespace Tx
noncomputable def place(x:Str):List Str->Option Nat
 | []=>none
 | y::r=>if y=x then some 0 else (place x r).map (·+1)
theorem ZgR:∀ {ys:List Str}{j:Nat},place x ys=some j->ys[j]? = some x/\∀ m,m<j->∀ y,ys[m]? = some y->y≠x
 | [],j,h=>by cases h
 | y::r,j,h=>by
   unfold place at h;by_cases e:y=x
   . rw [if_pos e] at h;cases h;exact ⟨by simp [e],fun m hm=>absurd hm (Nat.not_lt_zero _)⟩
   . rw [if_neg e] at h;obtain ⟨k,hk,rfl⟩:=Oo.mp h;obtain ⟨h1,h2⟩:=ZgR hk;refine ⟨by simpa using h1,fun m hm z hz=>?_⟩;cases m with
     | zero=>simp at hz;rw [<- hz];exact e
     | succ m=>exact h2 m (by lia) z (by simpa using hz)
end Tx
end L2
namespace L2
open PySem PySem.Spec PyProof.Rows
noncomputable def Zen (K:PySem.W.Frag):Bool:=K.all fun p=>!decide (p.2.cls=.type "tuple") || p.2.dict.isNone
end L2
end
section
namespace L2
open PySem PySem.Spec PyProof.Rows
open PySem.AutoSeq1 (wpAny_loadPart')
namespace En1
section
variable {prog:Program}{w:World}{A:Around}{E:Value->Shared->Prop}{s:Shared}
theorem Zm3(st:s.heap.IsTupleIter J T k)(tt:s.heap.IsTuple T us)(hy:us[k]? = some y)
   (q:∀ h1,h1.IsTupleIter J T (k+1)->Heap.SameBut J s.heap h1->Q y {s with heap:=h1}):wpAny (model prog w) A (Builtin.SmallTypes.nextOf (.ref J)) Q E s:=by
 obtain ⟨ob,g1,g2,g3⟩:=id st;obtain ⟨ot,g4,_,m,g5⟩:=tt;unfold Builtin.SmallTypes.nextOf;refine wpAny_bind (wpAny_callSpecial?_slot (name:=O "__next__") st.typeIs F.slot_tuple_iterator_next (wpAny_call_entry F.slot_tuple_iterator_next st.typeIs F.entry_tuple_iterator_next ?g (F.args_tuple_iterator_next_1 _)))
 case g =>
   show wpAny _ _ (field (.ref J) 0 >>= _) _ _ s;refine wpAny_bind (wpAny_field g1 g3 (x:=.ref T) rfl ?_);show wpAny _ _ (if (Value.ref T==Value.none)=true then _ else _) _ _ s;rw [if_neg (show ¬ ((Value.ref T==Value.none)=true) from Ow)];show wpAny _ _ (field (.ref J) 1 >>= _) _ _ s;refine wpAny_bind (wpAny_field g1 g3 (x:=.int k 0) rfl ?_);show wpAny _ _ (seqItems? (.ref T) >>= _) _ _ s;refine wpAny_bind (wpAny_seqItems g4 g5 ?_);simp only [Int.toNat_natCast,hy];refine wpAny_bind (wpAny_setField g1 g3 (by simp) (wpAny_pure ⟨y,rfl,wpAny_pure (q _ ?_ (Heap.SameBut.update ..))⟩));exact ⟨_,Heap.get?_update_self _ g1 (Obj.isFreed_of_fields (Obj.data_mapFields g3 _)),(Obj.cls_mapFields ..).trans g2,by rw [Obj.data_mapFields g3];simp [rawInt]⟩
theorem ZpF(calm:A.handled=none)(st:s.heap.IsTupleIter J T k)(tt:s.heap.IsTuple T us)(hy:us[k]? = none)
   (q:∀ h1 x,Heap.ExtBut J s.heap h1->(∃ ob,h1.get? x=some ob/\ob.cls=.type "StopIteration")->E (.ref x) {s with heap:=h1}):wpAny (model prog w) A (Builtin.SmallTypes.nextOf (.ref J)) Q E s:=by
 obtain ⟨ob,g1,g2,g3⟩:=id st;obtain ⟨ot,g4,_,m,g5⟩:=tt;unfold Builtin.SmallTypes.nextOf;refine wpAny_bind (wpAny_callSpecial?_slot (name:=O "__next__") st.typeIs F.slot_tuple_iterator_next (wpAny_call_entry F.slot_tuple_iterator_next st.typeIs F.entry_tuple_iterator_next ?g (F.args_tuple_iterator_next_1 _)))
 case g =>
   show wpAny _ _ (field (.ref J) 0 >>= _) _ _ s;refine wpAny_bind (wpAny_field g1 g3 (x:=.ref T) rfl ?_);show wpAny _ _ (if (Value.ref T==Value.none)=true then _ else _) _ _ s;rw [if_neg (show ¬ ((Value.ref T==Value.none)=true) from Ow)];show wpAny _ _ (field (.ref J) 1 >>= _) _ _ s;refine wpAny_bind (wpAny_field g1 g3 (x:=.int k 0) rfl ?_);show wpAny _ _ (seqItems? (.ref T) >>= _) _ _ s;refine wpAny_bind (wpAny_seqItems g4 g5 ?_);simp only [Int.toNat_natCast,hy];refine wpAny_bind (wpAny_rule (wpAny_bind (wpAny_setField g1 g3 (by simp) ?_)));show wpAny _ _ (newExc (.type "StopIteration") [] >>= _) _ _ _;refine wpAny_bind ?_;simp only [newExc,newTuple];refine wpAny_bind (wpAny_newObj_type ?_ (by size_fits));refine wpAny_bind (m:=firstArgMember _ _) (wpAny_of_eq (a:=Value.none) (by first|rfl|(simp only [firstArgMember];rfl)) ?_);refine wpAny_newObj_type ?_ (by size_fits);simp only [raiseNew];refine wpAny_bind (wpAny_handled ?_)
   first|rw [show A.in1.handled=none from calm]|rw [calm]
   exact wpAny_bind (wpAny_pure (wpAny_throw (q _ _ (((Heap.SameBut.update ..).extBut.push _).push _) ⟨_,Oj _ rfl,rfl⟩)))
theorem dr(calm:A.handled=none)(J T:Addr)(ne:T≠J)(us:Array Value):Draws prog w A J [J,T] (us.size+1) (fun k y=>∃ j,k=j+1/\us[j]? = some y) (fun k h=>∃ j,k=j+1/\h.IsTupleIter J T j/\h.IsTuple T us) where
 live:=fun _ _ z=>let ⟨_,_,⟨ob,g,_⟩,_⟩:=z;⟨ob,g⟩
 frame:=fun _ _ _ z kp=>by
   obtain ⟨j,e,⟨o1,a1,b1⟩,o2,a2,b2⟩:=z;exact ⟨j,e,⟨o1,kp J (by simp) _ a1,b1⟩,o2,kp T (by simp) _ a2,b2⟩
 item:=fun k s Q E lt z q=>by
   obtain ⟨j,rfl,a,b⟩:=z;have lj:j<us.size:=by lia
   refine Zm3 a b (y:=us[j]) (by simp [lj]) fun h1 a1 sb=>?_;exact q _ h1 s.toks ⟨j,rfl,by simp [lj]⟩ ⟨j+1,rfl,a1,b.extBut sb.extBut ne⟩ sb
 done:=fun s Q E z q=>by
   obtain ⟨j,e,a,b⟩:=z;have:j=us.size:=by lia
   subst this;exact ZpF calm a b (by simp) q
end
end En1
end L2
end
section
namespace L2
open PySem PySem.Spec PyProof.Rows
open PySem.AutoSeq1 (wpAny_loadPart')
namespace En1
theorem ct (a v:Value):checkTypeCall "enumerate" ⟨[a],[("start",v)]⟩=pure ():=by kernel_rfl
theorem cb (a v:Value):checkBuiltinCall "enumerate.__new__" ⟨[.type "enumerate",a],[("start",v)]⟩=pure ():=by kernel_rfl
theorem ao (o a v:Value):argsOk "object.__init__" ⟨[o,a],[("start",v)]⟩:=by unfold argsOk;kernel_rfl
theorem ini:Meets (Builtin.«object.__init__» ⟨[o,a],[("start",v)]⟩) (fun _ R s=>s.TypeIs o "enumerate" /\ R (.ok (.ret .none)) s):=by
 refine Meets.of_wp fun prog w A R s z=>?_;obtain ⟨ty,q⟩:=z;have hl:=F.called_enumerate.init.lookup;have hm:=F.called_enumerate.made;have hne:(some "enumerate.__new__" != some "object.__new__")=true:=by decide
 repeat (any_goals (first|assumption|wp_step))
 exact ⟨_,rfl,q⟩
theorem nw(T:Addr)(us:Array Value)(n:Nat)(dc:Option Addr)(sl:Array (Option Value))(t:Tok) :
   Meets (Builtin.«enumerate.__new__» ⟨[.type "enumerate",.ref T],[("start",.int 1 t)]⟩) (fun _ R s=>s.heap.get? T=some {cls:=.type "tuple",dict:=dc,data:=.seq us n,slots:=sl} /\
     R (.ok (.ret (.ref (s.heap.push {cls:=.type "tuple_iterator",data:=.fields #[.ref T,.int 0 0]}).objs.size)))
       {s with heap:=(s.heap.push {cls:=.type "tuple_iterator",data:=.fields #[.ref T,.int 0 0]}).push {cls:=.type "enumerate",data:=.fields #[.none,.bool false,.ref s.heap.objs.size,rawInt 1,.none,.none]}}) :=
 .of_wp fun prog w A R s z=>by
   obtain ⟨hp,g,d,tk,os⟩:=s;obtain ⟨e,q⟩:=z;have hsub:=sub_enumerate;have tt:Heap.IsTuple (Shared.heap ⟨hp,g,d,tk,os⟩) T us:=⟨_,e,rfl,n,rfl⟩
   wp_walk using wpAny_loadPart' e
   refine wpAny_stack_any fun st=>wpAny_pure ?_;split
   . rename_i c _ _ _ _ _;cases (c==Value.type "enumerate")
     . wp_walk using wpAny_loadPart' e,wpAny_pyIter_tuple tt
       exact ⟨_,rfl,q⟩
     . wp_walk using wpAny_loadPart' e,wpAny_pyIter_tuple tt
       exact ⟨_,rfl,q⟩
   . wp_walk using wpAny_loadPart' e,wpAny_pyIter_tuple tt
     exact ⟨_,rfl,q⟩
end En1
end L2
end
section
namespace L2
open PySem PySem.Spec PyProof.Rows
namespace En1
section
variable {prog:Program}{w:World}{A:Around}{E:Value->Shared->Prop}{s:Shared}
theorem mk(tt:s.heap.IsTuple T us)
   (q:∀ h1,IsEnum h1 (s.heap.objs.size+1) s.heap.objs.size 1 .none->h1.IsTupleIter s.heap.objs.size T 0->(∀ b o,s.heap.get? b=some o->h1.get? b=some o)->Q (.ref (s.heap.objs.size+1)) {s with heap:=h1}) :
   wpAny (model prog w) A (call (.type "enumerate") [.ref T] [("start",.int 1 t)]) Q E s:=by
 obtain ⟨⟨c,dc,dt,sl⟩,e,hc,n,hd⟩:=tt;obtain rfl:c=.type "tuple" := hc;obtain rfl:dt=.seq us n:=hd;have ft:=F.called_enumerate;obtain ⟨c,tl,hmro⟩:=ft.mro;have hmade:=ft.made;have hsub:=ft.sub;have hct:=ct (.ref T) (.int 1 t);refine wpAny_call (codeAny_of_tree ?_);show wpAny _ _ (callAny (.type "enumerate") _) _ _ _;refine wpAny_pure ⟨Code.quiet_builtin _ (by decide +kernel),codeAny_builtin F.entry_type_call ?_⟩;rw [Around.under_plain (weight_type_call_type "enumerate" [.ref T] [("start",.int 1 t)]) (units_type_call_type "enumerate" [.ref T] [("start",.int 1 t)])];have h1:=ft.notType;have h2:=ft.canCreate
 repeat (any_goals (first|assumption|wp_step))
 refine codeAny_mono (codeAny_call_builtin ft.plain F.entry_enumerate_new (wpAny_of_eq (cb (.ref T) (.int 1 t)) (nw T us n dc sl t prog w A.in1 (wants (fun obj s1=>s1.TypeIs obj "enumerate" /\ Q obj s1) E) s ⟨e,?_⟩))) fun r s1 hr=>?_
 . have hz:(s.heap.push {cls:=.type "tuple_iterator",data:=.fields #[.ref T,.int 0 0]}).objs.size=s.heap.objs.size+1:=Heap.size_push ..;show _/\_;rw [hz];have he:IsEnum ((s.heap.push {cls:=.type "tuple_iterator",data:=.fields #[.ref T,.int 0 0]}).push {cls:=.type "enumerate",data:=.fields #[.none,.bool false,.ref s.heap.objs.size,rawInt 1,.none,.none]}) (s.heap.objs.size+1) s.heap.objs.size 1 .none:=by
     have:=Oj (s.heap.push {cls:=.type "tuple_iterator",data:=.fields #[.ref T,.int 0 0]}) (o:={cls:=.type "enumerate",data:=.fields #[.none,.bool false,.ref s.heap.objs.size,rawInt 1,.none,.none]}) rfl;rw [hz] at this;exact this
   exact ⟨⟨_,he,rfl⟩,q _ he ⟨_,Od _ (Oj _ rfl),rfl,rfl⟩ fun b o x=>Od _ (Od _ x)⟩
 cases r with
 | error e=>exact hr
 | ok fl =>
   cases fl with
   | ret obj =>
     obtain ⟨hT,hq⟩:=hr;have hli:=ft.init.lookup;have hbi:=ft.init.bind obj
     repeat (any_goals (first|assumption|wp_step))
     refine codeAny_mono (codeAny_call_builtin ft.init.plain F.entry_object_init (ft.init.check _ _ _ _ _ _ _ _ hT (ao obj (.ref T) (.int 1 t)) (ini prog w A.in1 (wants (fun r s2=>r=.none/\Q obj s2) E) s1 ⟨hT,rfl,hq⟩))) fun r2 s2 hr2=>?_;cases r2 with
     | error e=>exact hr2
     | ok fl2 =>
       cases fl2 with
       | ret r =>
         obtain ⟨rfl,hq⟩:=hr2
         repeat (any_goals (first|assumption|wp_step))
       | _=>exact hr2.elim
   | _=>exact hr.elim
end
end En1
end L2
end
section
namespace L2
open PySem PySem.Spec PyProof.Rows
noncomputable def It1(K:PySem.W.Frag)(a:Addr):It :=
 ⟨fun i H=>∃ xs x,SqT K H a xs/\xs[i]? = some x,fun i H v H'=>∃ p,v=.ref p/\H p=none/\∃ x,(∀ xs,SqT K H a xs->xs[i]? = some x)/\H'=upd H p (.tup [.int (i+1:Nat),x]),fun i H=>∃ xs,SqT K H a xs/\xs.length=i⟩
theorem ZkS{P:Program}{w:World}{K:PySem.W.Frag}{es:List Expr}{kk:Nat}{tp:Pos}(a it e:Addr)(hei:e≠it)(hae:a≠e)(hai:a≠it) :
   Turn P w K (.Tuple es kk tp) (It1 K a) [e,it] e (fun i h=>(∃ old,IsEnum h e it ((i+1:Nat):Int) old)/\h.IsTupleIter it a i) where
 mem:=by simp
 obj:=fun i h st b hb=>by
   obtain ⟨⟨old,he⟩,o,e1,c,d⟩:=st;rcases O2.mp hb with rfl|hb
   . exact ⟨_,he,fun v z=>by cases z⟩
   . have e2:b=it:=by simpa using hb
     subst e2;exact ⟨o,e1,fun v z=>by rw [d] at z;cases z⟩
 keep:=fun i h h' st k=>by
   obtain ⟨⟨old,he⟩,st⟩:=st;exact ⟨⟨old,k e (by simp) _ he⟩,st.at fun o z=>k it (by simp) o z⟩
 item:=by
   intro X hP hw hK hc i pins s Z H E I hf st hg;subst hP hw hK;obtain ⟨xs,x,hq,hx⟩:=hg;obtain ⟨its,rv,p,hz⟩:=I.tuple hq;have p:s.heap.IsTuple a its.toArray:=p;have hl:=rv.length;have hi:i<xs.length:=(Ob.mp hx).1;have D:=En1.dr (prog:=X.prog) (w:=X.w) (A:=X.A.in1) (I.ok.hd hc) it a hai its.toArray;have W:=WalksT.enumerateD (A:=X.A) D e hei (by simp [hei,Ne.symm hae]) (by simp);obtain ⟨⟨old,he⟩,hit⟩:=st;refine wpAny_pyNext_enum_itemD D he ⟨i,rfl,hit,p⟩ (by simp;lia) hei (by simp [hei,Ne.symm hae]) fun y h1 tk hy ho hst hT hsz hk=>?_;obtain ⟨j,ej,hy⟩:=hy;obtain rfl:i=j:=by lia
   have e1:e<s.heap.objs.size:=Heap.lt_size he;have e2:it<s.heap.objs.size:=by obtain ⟨_,z,_⟩:=hit;exact Heap.lt_size z
   have hT1:s.heap.objs.size≠e:=Nat.ne_of_gt e1;have hT2:s.heap.objs.size≠it:=Nat.ne_of_gt e2;refine ⟨_,rfl,W.go _ _ _ (i+1) s.heap.objs.size {s with heap:=h1,toks:=tk+1} _ _ ⟨⟨_,ho⟩,hst,hT1,hT2⟩ fun h2 st2 kk2=>?_⟩;have hy':its[i]? = some y:=by simpa using hy
   obtain ⟨u,hu,ru⟩:=rv.get hx;rw [hy'] at hu;cases hu;have hTw:s.heap.objs.size ∉ [e,it]:=by simp [hT1,hT2]
   have tup2:Zau h2 s.heap.objs.size #[.int ((i+1:Nat):Int) tk,y]:=⟨_,kk2 _ _ hTw hT,rfl,rfl,_,rfl⟩
   have I2:Inv X pins Z (upd H s.heap.objs.size (.tup [.int ((i+1:Nat):Int),x])) {s with heap:=h2,toks:=tk+1}:=I.turnT hf (fun b o hb q=>kk2 b o hb (hk b o (fun z=>hb (by simp [z])) (fun z=>hb (by simp [z])) q)) (Oq _) (us:=[.int ((i+1:Nat):Int) tk,y]) tup2 (.cons ⟨tk,rfl⟩ (.cons ru .nil)) (by show 2<=sizeLine;decide);obtain ⟨s3,j,ej2,s4,s5⟩:=st2;obtain rfl:j=i+1:=by lia
   refine ⟨.ref s.heap.objs.size,_,I2,rfl,⟨_,rfl,I.hok.fresh (Oq _),x,fun ys hy=>by rw [I.tuple_inj hy hq];exact hx,rfl⟩,⟨s3,s4⟩,fun b hb=>?_⟩;have neb:b≠s.heap.objs.size:=fun z=>hTw (by rw [<- z];exact hb);rw [Zh neb];exact (hf b hb).1
 done:=by
   intro X hP hw hK hc i pins s Z H E I hf st hg;subst hP hw hK;obtain ⟨xs,hq,hx⟩:=hg;obtain ⟨its,rv,p,hz⟩:=I.tuple hq;have p:s.heap.IsTuple a its.toArray:=p;have hl:=rv.length;have D:=En1.dr (prog:=X.prog) (w:=X.w) (A:=X.A.in1) (I.ok.hd hc) it a hai its.toArray;obtain ⟨⟨old,he⟩,hit⟩:=st;refine wpAny_pyNext_enum_endD D he ⟨i,by simp;lia,hit,p⟩ fun h1 ex=>⟨rfl,I.turnL (t':=s.toks) hf fun b o hb q=>ex b o (fun z=>hb (by simp [z])) q⟩
 self:=fun A i s Q E st h=>by
   obtain ⟨⟨old,he⟩,_⟩:=st;exact wpAny_pyIter_enum he h
section
variable {M:Model}{A:Around}{E:Value->Shared->Prop}{s:Shared}{env:Env}
theorem Zmy(he:starEach [e] env=[(false,eval e env)])
   (h:wpAny M A (spliced (backTo pos (starEach [e] env))) (fun vs s1=>wpAny M A (evalAll ((backToKw pos (keywordEach kws env)).map (·.2)))
     (fun kvs s2=>wpAny M A (call (.type T) vs (((backToKw pos (keywordEach kws env)).filterMap (·.1)).zip kvs)) Q E s2) E s1) E s)
   (hall:(backToKw pos (keywordEach kws env)).all (·.1.isSome)=true:=by rfl) (hkw:(backToKw pos (keywordEach kws env)).any (·.1.isNone)=false:=by rfl) :
   wpAny M A (callWith pos (.type T) [] (backTo pos (starEach [e] env)) (backToKw pos (keywordEach kws env))) Q E s:=by
 have hp:(backTo pos (starEach [e] env)).any (·.1)=false:=by rw [he];rfl
 have g:wpAny M A (evalArgs (.type T) true (backTo pos (starEach [e] env)) (backToKw pos (keywordEach kws env))) (fun a s1=>wpAny M A (call (.type T) ([]++a.pos) a.kw) Q E s1) E s:=by
   rw [he] at h ⊢;exact evalArgs_kwB hall h
 unfold callWith;refine wpAny_bind (wpAny_holding (wpAny_mono g (fun a s1 h1=>wpAny_bind (wpAny_standAt ?_)) fun _ _ z=>z));simp only [hp,hkw,Bool.or_false];exact wpAny_bind (wpAny_pure (wpAny_bind (wpAny_mono h1 (fun r s2 hr=>wpAny_bind (wpAny_holding (wpAny_point (wpAny_pure hr)))) fun _ _ z=>z)))
end
noncomputable def Zus(K:PySem.W.Frag)(tl tk:TE):TI:=fun Z H R=>tl Z H fun v H1=>tk Z H1 fun u H2=>∃ a,v=.ref a/\u=.int 1/\(∃ xs,SqT K H2 a xs)/\R (It1 K a) H2
theorem Zp7 {X:Cx}{es:List Expr}{kk:Nat}{tp:Pos}{l y:Expr}{tl tk:TE}{p kp pos:Pos} (hg:Gl X "enumerate") (hm:X.mg "enumerate" = none) (hl:PE X l tl) (hy:PE X y tk) (he:starEach [l] X.env=[(false,eval l X.env)]) :
   PI X (.Tuple es kk tp) (.Call (.Name "enumerate" p) [l] [⟨some "start",y,kp⟩] pos) (Zus X.K tl tk):=by
 intro pins s Z H R I h;refine wpAny_Call_Name_kw (ZbD I hg hm boot_enumerate ?_);refine Zmy he ?_;rw [he];refine Calls.spliced_cons (thn (hl pins s Z H _ I h) fun v s1 ⟨vv,H1,I1,r1,q1⟩=>Calls.spliced_nil ?_);refine kws_cons (thn (hy pins s1 Z H1 _ I1 q1) fun u s2 ⟨uu,H2,I2,r2,q2⟩=>kws_nil ?_);obtain ⟨a,rfl,rfl,⟨xs,hq⟩,q⟩:=q2;cases r1;obtain ⟨t,rfl⟩:=r2;obtain ⟨its,rv,pt,hz⟩:=I2.tuple hq;have pt:s2.heap.IsTuple a its.toArray:=pt;have hlt:a<s2.heap.objs.size:=by obtain ⟨_,z,_⟩:=pt;exact Heap.lt_size z
 refine En1.mk pt fun h1 he hi kk=>?_;refine wpAny_pyIter_enum he ?_;refine ⟨s2.heap.objs.size+1,[s2.heap.objs.size+1,s2.heap.objs.size],_,_,H2,rfl,I2.kept (t':=s2.toks) kk,ZkS a s2.heap.objs.size (s2.heap.objs.size+1) (Nat.succ_ne_self _) (Ou (Nat.lt_succ_of_lt hlt)) (Ou hlt),⟨⟨_,he⟩,hi⟩,fun b hb=>?_,q⟩;rcases O2.mp hb with rfl|hb
 . exact I2.fpOk (Nat.le_succ _) (I2.hok.fresh (Nat.le_succ _))
 . have e:b=s2.heap.objs.size:=by simpa using hb
   subst e;exact I2.fpOk (Oq _) (I2.hok.fresh (Oq _))
end L2
end
section
namespace L2
open PySem PySem.Spec PyProof.Rows
section
variable {X:Cx}{pins:List (Addr×Obj)}{Z:St}{H:Hp}{s:Shared}
theorem Inv.freeze(I:Inv X pins Z H s)(e:H a=some (.dK kvs))(ho:s.heap.get? a=some o):Inv X pins Z (upd H a (.frz o (.dK kvs))) s:=by
 have ne:∀ b,(∀ kvs,H b≠some (.dK kvs))->b≠a:=fun b q z=>q kvs (by rw [z];exact e);refine I.un (t':=s.toks) (h':=s.heap) ⟨fun b u q n _ _=>q,fun b u q n _ _=>⟨u.slots,q⟩,fun b u q n _=>?_,fun b u q _=>⟨u,q⟩,fun b xs q=>?_,fun b u v q=>?_,fun b ps q=>⟨#[],?_⟩⟩ ?_
 . rw [Zh (ne b fun k z=>by rw [n] at z;cases z)];exact n
 . rw [Zh (ne b fun k z=>by rw [q] at z;cases z)];exact q
 . rw [Zh (ne b fun k z=>by rw [q] at z;cases z)];exact q
 . rw [Zh (ne b fun k z=>by rw [q] at z;cases z),q];simp
 . have old:=I.hok a _ e;exact I.hok.write (x:=a) (e:=a) (by rw [e];trivial) (.inl rfl) (fun b u _ q=>q) ⟨o,ho⟩ ⟨ho,old⟩
end
theorem Zof(h:ZeI k u=true):RelV (kV k) u:=by
 rcases ZE h with ⟨i,t,rfl,rfl⟩|⟨x,t,rfl,rfl⟩
 . exact ⟨t,rfl⟩
 . exact ⟨t,rfl⟩
theorem Zjp:∀ {kvs:List (Key×V)}{vs:List (Key×Value)},KV kvs vs->kvs.map (·.1)=vs.map (·.1)
 | _,_,.nil=>rfl
 | _,_,.cons h t=>by rw [Op,Op,Zjp t,h.1]
noncomputable def Itd(a:Addr)(o:Obj)(kvs:List (Key×V)):It :=
 ⟨fun i H=>H a=some (.frz o (.dK kvs))/\i<kvs.length,fun i H x H'=>H'=H/\∃ k v,kvs[i]? = some (k,v)/\x=kV k,fun i H=>H a=some (.frz o (.dK kvs))/\kvs.length<=i⟩
theorem Zm0{P:Program}{w:World}{K:PySem.W.Frag}{tg:Expr}(a it:Addr)(o:Obj)(kvs:List (Key×V))(es:Array DictEntry)(ep:Nat)(hd:o.data=.dict es ep):Turn P w K tg (Itd a o kvs) [it] it (fun i h=>h.IsKeyIter it a i kvs.length ep) where
 mem:=by simp
 obj:=fun i h st b hb=>by
   have e:b=it:=by simpa using hb
   subst e;obtain ⟨o,e,c,d⟩:=st;exact ⟨o,e,fun v z=>by rw [d] at z;cases z⟩
 keep:=fun i h h' st k=>st.at fun o e=>k it (by simp) o e
 item:=by
   intro X hP hw hK hc i pins s Z H E I hf st hg;subst hP hw hK;obtain ⟨ea,hi⟩:=hg;obtain ⟨g1,hz,hsm,vs,rv,o2,es2,ep2,g2,x1,x2,x3,x4,x5⟩:=I.hok a _ ea;rw [g1] at g2;cases g2;rw [hd] at x2;cases x2;have hl:=rv.length;have hi2:i<vs.length:=by lia
   obtain ⟨f0,f1,f2,f3,f4,f5⟩:=hf it (by simp);have hkv:(kvs[i]'hi).1=(vs[i]'hi2).1:=by
     have q:=congrArg (fun l=>l[i]?) (Zjp rv);simp only [On,Og hi,Og hi2,Option.map_some] at q;exact Option.some.inj q
   refine wpAny_pyNext_dict_item (knd:=ZD X.prog X.w) (kvs:=vs) (k:=(vs[i]'hi2).1) (v:=(vs[i]'hi2).2) (by rw [<- hl];exact st) ⟨o,es,g1,x1,hd,x3,x4,x5⟩ (by simp [hi2]) fun key h' hkey hit' hs'=>?_;have I1:Inv X pins Z H {s with heap:=h'}:=I.turned (t':=s.toks) (fun b o hb e=>(hs'.2 b hb).trans e) f0 f1 f3 f4 f5;obtain ⟨oi,e,c,d⟩:=id hit';exact ⟨key,rfl,ZfC (s:={s with heap:=h'}) e c d (by decide) ⟨kV (kvs[i]'hi).1,H,I1,by rw [hkv];exact Zof hkey,⟨rfl,(kvs[i]'hi).1,(kvs[i]'hi).2,by simp [hi],rfl⟩,by rw [hl];exact hit',fun b hb=>(hf b hb).1⟩⟩
 done:=by
   intro X hP hw hK hc i pins s Z H E I hf st hg;subst hP hw hK;obtain ⟨ea,hi⟩:=hg;obtain ⟨g1,hz,hsm,vs,rv,o2,es2,ep2,g2,x1,x2,x3,x4,x5⟩:=I.hok a _ ea;rw [g1] at g2;cases g2;rw [hd] at x2;cases x2;have hl:=rv.length;obtain ⟨f0,f1,f2,f3,f4,f5⟩:=hf it (by simp);exact wpAny_pyNext_dict_end (knd:=ZD X.prog X.w) (kvs:=vs) (I.ok.hd hc) (by rw [<- hl];exact st) ⟨o,es,g1,x1,hd,x3,x4,x5⟩ (by simp;lia) fun h' eb=>⟨rfl,I.turned (t':=s.toks) (fun b o hb e=>eb b o hb e) f0 f1 f3 f4 f5⟩
 self:=fun _ _ _ _ _ st h=>wpAny_pyIter_keyiter st h
noncomputable def iDk(tl:TE):TI:=fun Z H R=>tl Z H fun x H1=>∃ a kvs,x=.ref a/\((H1 a=some (.dK kvs)/\∀ o,R (Itd a o kvs) (upd H1 a (.frz o (.dK kvs))))\/∃ o,H1 a=some (.frz o (.dK kvs))/\R (Itd a o kvs) H1)
theorem Zss{X:Cx}{tg l:Expr}{tl:TE}(hl:PE X l tl):PI X tg l (iDk tl):=by
 intro pins s Z H R I h;refine thn (hl pins s Z H _ I h) fun v s1 ⟨x,H1,I1,r1,q1⟩=>?_;obtain ⟨a,kvs,rfl,q⟩:=q1;cases r1;have main:∀ (o:Obj) (H2:Hp),Inv X pins Z H2 s1->H2 a=some (.frz o (.dK kvs))->R (Itd a o kvs) H2->wpAny (model X.prog X.w) X.A (pyIter (.ref a)) (PIE X pins Z tg R) X.xe s1:=by
   intro o H2 I2 ea hR;obtain ⟨g1,hz,hsm,vs,rv,o2,es,ep,g2,x1,x2,x3,x4,x5⟩:=I2.hok a _ ea;rw [g1] at g2;cases g2;refine wpAny_pyIter_dict (knd:=ZD X.prog X.w) hsm ⟨o,es,g1,x1,x2,x3,x4,x5⟩ ?_;refine ⟨s1.heap.objs.size,[s1.heap.objs.size],_,_,H2,rfl,I2.kept (t':=s1.toks) fun b o e=>Od _ e,Zm0 a _ o kvs es ep x2,⟨_,Oj _ rfl,rfl,by rw [rv.length];rfl⟩,fun b hb=>?_,hR⟩;have e:b=s1.heap.objs.size:=by simpa using hb
   subst e;exact I2.fpOk (Oq _) (I2.hok.fresh (Oq _))
 rcases q with ⟨ea,hR⟩|⟨o,ea,hR⟩
 . obtain ⟨hz,hsm,vs,rv,o,es,ep,g2,r⟩:=I1.hok a _ ea;exact main o _ (I1.freeze ea g2) Zg (hR o)
 . exact main o _ I1 ea hR
end L2
end
section
namespace L2
open PySem PySem.Spec PyProof.Rows
section
variable {prog:Program}{w:World}{A:Around}{E:Value->Shared->Prop}{s:Shared}
theorem Tx.call_lindex(hl:PlainL s.heap l items)(hn:items.size=ys.length)(hs:ys.length<=sizeLine)(hi:∀ (i:Nat) (y:Str),ys[i]? = some y->∃ t,items[i]? = some (Value.str y t))(hj:place x ys=some j)
   (hQ:∀ u tk,Q (.int (j:Int) u) {s with toks:=tk}):wpAny (model prog w) A (PySem.call (.builtin "list.index") [.ref l,.str x tx]) Q E s:=by
 obtain ⟨⟨cls,dd,data,sl⟩,n,ho,hc,hd0,hd⟩:=hl;simp only at hc hd hd0;subst hc hd;obtain ⟨p1,p2⟩:=ZgR hj;have hjl:j<ys.length:=(Ob.mp p1).1;rw [sizeLine_eq] at hs;let e:Value->Bool:=fun v=>match v with|.str y _=>y==x|_=>false
 have at':∀ (i:Nat) (h:i<items.size),∃ y t,ys[i]? = some y/\items[i]=Value.str y t:=fun i h=>by
   obtain ⟨y,hy⟩:∃ y,ys[i]? = some y:=⟨ys[i]'(by lia),Og (by lia)⟩
   obtain ⟨t,ht⟩:=hi i y hy;rw [Array.getElem?_eq_getElem h] at ht;exact ⟨y,t,hy,Option.some.inj ht⟩
 refine call_meets PySem.F.slot_list_index ⟨_,ho,rfl⟩ PySem.F.entry_list_index (PySem.F.args_list_index_2 _ _) (SeqAt.list_indexAt l items n dd sl (.str x tx) e j (by lia) (by lia) ?_ ?_) ⟨ho,fun y hy=>?_,hQ _ _⟩
 . obtain ⟨y,t,h1,h2⟩:=at' j (by lia);rw [p1] at h1;cases h1;rw [h2];show (x==x)=true;simp
 . intro m hm hlt;obtain ⟨y,t,h1,h2⟩:=at' m hm;rw [h2];show (y==x)=false;have:=p2 m hlt y h1;simpa using this
 . obtain ⟨i,h,rfl⟩:=Array.mem_iff_getElem.mp hy;obtain ⟨y,t,h1,h2⟩:=at' i h;rw [h2];exact fun prog w E Q hq=>eqBool_str hq
end
noncomputable def Zf0(K:PySem.W.Frag):V->List V->Hp->VK->Prop:=fun x vs H Q=>∃ a ys y j,x=.ref a/\vs=[.str y]/\SqL K H a (ys.map .str)/\Tx.place y ys=some j/\Q (.int (j:Int)) H
theorem Zkq:MtR X "list.index" (Zf0 X.K):=by
 intro pins s Z H x vs v us Q I rx rv h;obtain ⟨a,ys,y,j,rfl,rfl,hq,hp,q⟩:=h;cases rx;obtain ⟨u,rfl,ru⟩:=rv.one;obtain ⟨t,rfl⟩:=ru;obtain ⟨its,rs,pl,hz⟩:=I.list hq;have hl:=rs.length;refine Tx.call_lindex pl (by simpa using hl.symm) (by simpa using hz) (fun i z hi=>?_) hp fun u tk=>?_
 . obtain ⟨u,hu,ru⟩:=rs.get (i:=i) (x:=.str z) (by simp [hi]);obtain ⟨t2,rfl⟩:=ru;exact ⟨t2,by simpa using hu⟩
 . exact ⟨.int j,H,I.kept (h':=s.heap) (t':=tk) (fun b o e=>e),⟨u,rfl⟩,q⟩
noncomputable def ZtW(K:PySem.W.Frag)(to:TE)(t:TA):TE:=fun Z H Q=>to Z H fun x H1=>(∃ a ys,x=.ref a/\SqL K H1 a ys)/\t Z H1 fun xs H2=>Zf0 K x xs H2 Q
theorem Zqg(ho:PE X o to)(ha:PA X [e] t)
   (hbase:attributeBase o "index" X.env (eval o X.env)=eval o X.env)
   (hfew:((backTo cpos (starEach [e] X.env)).all (fun x=>!x.1)&&(backToKw cpos (keywordEach [] X.env)).all (fun x=>x.1.isSome)&&decide ([e].length+([]:List Keyword).length+(if ([]:List Keyword).isEmpty then 0 else 1)<30))=true)
   (hline:(apos.endLine==cpos.line)=true) (hs:starEach [e] X.env=[(false,eval e X.env)]) :
   PE X (.Call (.Attribute o "index" apos) [e] [] cpos) (ZtW X.K to t):=by
 intro pins s Z H Q I h;refine wpAny_Call_method_late hbase hfew hline rfl (thn (ho pins s Z H _ I h) fun v s1 ⟨x,H1,I1,r1,ty,q1⟩=>?_);obtain ⟨a,ys,rfl,hq⟩:=ty;cases r1;obtain ⟨its,rs,⟨ob,n,e1,e2,e3,_⟩,hz⟩:=I1.list hq;refine ⟨"list", "list.index",F.plainAttrs_list,F.slot_list_index,F.type_list_index,⟨ob,e1,e2⟩,fun b hb=>by cases hb;exact ⟨ob,e1,e3⟩,?_⟩;have hA:=ha cpos pins s1 Z H1 _ I1 q1;rw [hs] at hA ⊢;refine Calls.callWith_builtin rfl (Calls.evalArgs_plain ?_);exact thn hA fun us s2 ⟨vs,H2,I2,r2,q2⟩=>Zkq pins s2 Z H2 (.ref a) vs (.ref a) us Q I2 rfl r2 q2
end L2
end
section
namespace L2
open PySem PySem.Spec PyProof.Rows
noncomputable def Zt4(d:PyData):Bool:=isDisplay d&&(PyData.showable d&&(PyData.intsShort 13 d&&(decide (PyData.weight d<=2 ^ 20)&&decide (PyData.depth d<=1000))))
end L2
end
section
namespace L2
open PySem PySem.Spec PyProof.Rows
structure XAs(K:PySem.W.Frag)(a b:Addr):Prop extends ExcN K a where
 sub:PySem.W.subIn K (.ref b) (.ref a)=some true
 at':ExcA K b
 one:PySem.W.kitOne K (.ref b) (.ref b)=some true
end L2
end
section
namespace L2
open PySem PySem.Spec PyProof.Rows
theorem ZkJ{n a b:Nat}(ha:a<n)(hb:b<n):ZipApart (n+4) (n+2) (n+3) n (n+1) a b:=by constructor<;>lia
structure ZL(n a b i:Nat)(f0:Value)(h:Heap):Prop where
 zip:IsZip h (n+4) (n+2) (n+3) f0
 ti:IsPair h (n+2) (.ref n) (.ref (n+1))
 to:∃ c d,IsPair h (n+3) c d
 i1:h.IsListIter n a i
 i2:h.IsListIter (n+1) b i
noncomputable def Zrt(K:PySem.W.Frag)(a b:Addr):It :=
 ⟨fun i H=>∃ xs ys x y,SqL K H a xs/\SqL K H b ys/\xs[i]? = some x/\ys[i]? = some y,fun i H v H'=>∃ p x y,v=.ref p/\H p=none/\(∀ xs,SqL K H a xs->xs[i]? = some x)/\(∀ ys,SqL K H b ys->ys[i]? = some y)/\H'=upd H p (.tup [x,y]),fun i H=>∃ xs ys,SqL K H a xs/\SqL K H b ys/\xs.length=i⟩
theorem ZjY{P:Program}{w:World}{K:PySem.W.Frag}{es:List Expr}{kk:Nat}{tp:Pos}{n a b:Addr}(ha:a<n)(hb:b<n):Turn P w K (.Tuple es kk tp) (Zrt K a b) [n+4,n+3,n,n+1,n+2] (n+4) (fun i h=>ZL n a b i .none h) where
 mem:=by simp
 obj:=fun i h st c hc=>by
   obtain ⟨z0,z1,⟨_,_,z2⟩,⟨o3,z3,_,d3⟩,o4,z4,_,d4⟩:=st;simp only [O2,List.not_mem_nil,or_false] at hc;rcases hc with rfl|rfl|rfl|rfl|rfl
   . exact ⟨_,z0,nofun⟩
   . exact ⟨_,z2,nofun⟩
   . exact ⟨o3,z3,fun v z=>by rw [d3] at z;cases z⟩
   . exact ⟨o4,z4,fun v z=>by rw [d4] at z;cases z⟩
   . exact ⟨_,z1,nofun⟩
 keep:=fun i h h' st k=>by
   obtain ⟨z0,z1,⟨_,_,z2⟩,z3,z4⟩:=st;exact ⟨k _ (by simp) _ z0,k _ (by simp) _ z1,⟨_,_,k _ (by simp) _ z2⟩,z3.at fun o e=>k _ (by simp) o e,z4.at fun o e=>k _ (by simp) o e⟩
 item:=by
   intro X hP hw hK hc i pins s Z H E I hf st hg;subst hP hw hK;obtain ⟨xs,ys,x,y,hq,hr,hx,hy⟩:=hg;obtain ⟨its,rv,p,hz⟩:=I.list hq;obtain ⟨jts,rv',p',hz'⟩:=I.list hr;obtain ⟨u,hu,ru⟩:=rv.get hx;obtain ⟨v,hv,rw'⟩:=rv'.get hy;obtain ⟨z0,z1,⟨c0,d0,z2⟩,z3,z4⟩:=st;have l4:n+4<s.heap.objs.size:=Heap.lt_size z0;refine wpAny_pyNext_zip_item (ZkJ ha hb) z0 z1 z2 z3 z4 p.isList p'.isList (by simpa using hu) (by simpa using hv) fun h1 a1 a2 a3 a4 a5 a6 k1=>⟨_,rfl,wpAny_letOwnedTupleGo_zip a1 fun h2 y2 s2=>?_⟩
   have nT:s.heap.objs.size ∉ [n+4,n+3,n,n+1,n+2]:=by simp only [O2,List.not_mem_nil,or_false];lia
   have tup2:Zau h2 s.heap.objs.size #[u,v]:=⟨_,s2.extBut _ _ (by lia) a5,rfl,rfl,_,rfl⟩
   have I2:Inv X pins Z (upd H s.heap.objs.size (.tup [x,y])) {s with heap:=h2,toks:=s.toks}:=I.turnT hf (fun c o hc e=>by
     simp only [O2,List.not_mem_nil,or_false,not_or] at hc;exact s2.extBut _ _ hc.1 (k1 c o hc.1 hc.2.1 hc.2.2.1 hc.2.2.2.1 e)) (Oq _) (us:=[u,v]) tup2 (.cons ru (.cons rw' .nil)) (by show 2<=sizeLine;decide)
   refine ⟨.ref s.heap.objs.size,_,I2,rfl,⟨_,x,y,rfl,I.hok.fresh (Oq _),fun zs hz=>by rw [I.list_inj hz hq];exact hx,fun zs hz=>by rw [I.list_inj hz hr];exact hy,rfl⟩,⟨y2,s2.extBut _ _ (by lia) (k1 _ _ (by lia) (by lia) (by lia) (by lia) z1),⟨_,_,s2.extBut _ _ (by lia) a2⟩,a3.at fun o e=>s2.extBut _ _ (by lia) e,a4.at fun o e=>s2.extBut _ _ (by lia) e⟩,fun c hc=>?_⟩;rw [Zh (fun z=>nT (by rw [<- z];exact hc))];exact (hf c hc).1
 done:=by
   intro X hP hw hK hc i pins s Z H E I hf st hg;subst hP hw hK;obtain ⟨xs,ys,hq,hr,hx⟩:=hg;obtain ⟨its,rv,p,hz⟩:=I.list hq;obtain ⟨jts,rv',p',hz'⟩:=I.list hr;have hl:=rv.length;obtain ⟨z0,z1,⟨c0,d0,z2⟩,z3,z4⟩:=st;exact wpAny_pyNext_zip_end (I.ok.hd hc) (ZkJ ha hb) z0 z1 z2 z3 z4 p.isList p'.isList (.inl (by simp;lia)) fun h1 k1=>⟨rfl,I.turnL (t':=s.toks) hf fun c o hc e=>by
     simp only [O2,List.not_mem_nil,or_false,not_or] at hc;exact k1 c o hc.1 hc.2.1 hc.2.2.1 hc.2.2.2.1 e⟩
 self:=fun A i s Q E st h=>wpAny_pyIter_zip st.zip h
noncomputable def Zs5(K:PySem.W.Frag)(ta:TA):TI:=fun Z H R=>ta Z H fun vs H1=>∃ a b,vs=[.ref a,.ref b]/\(∃ xs,SqL K H1 a xs)/\(∃ ys,SqL K H1 b ys)/\R (Zrt K a b) H1
theorem ZnA {X:Cx}{es:List Expr}{kk:Nat}{tp:Pos}{l m:Expr}{ta:TA}{p pos:Pos} (hg:Gl X "zip") (hm:X.mg "zip" = none) (ha:PA X [l,m] ta) (hs:starEach [l,m] X.env=[(false,eval l X.env),(false,eval m X.env)]) (hs2:starEach [m] X.env=[(false,eval m X.env)]) :
   PI X (.Tuple es kk tp) (.Call (.Name "zip" p) [l,m] [] pos) (Zs5 X.K ta):=by
 intro pins s Z H R I h;refine Call_ (ZbD I hg hm boot_zip (PyProof.Rows.callWith_type1 (thn (ha pos pins s Z H _ I h) fun us s1 ⟨vs,H1,I1,r1,q1⟩=>?_) (by rw [hs,hs2]) (by rw [hs2];rfl)));obtain ⟨a,b,rfl,⟨xs,hq⟩,⟨ys,hr⟩,q⟩:=q1;obtain ⟨u,v,rfl,ru,rv⟩:=vals2 r1;obtain rfl:u=Value.ref a:=ru;obtain rfl:v=Value.ref b:=rv;obtain ⟨its,_,pt,_⟩:=I1.list hq;obtain ⟨jts,_,pt',_⟩:=I1.list hr;have la:a<s1.heap.objs.size:=by obtain ⟨_,_,e,_⟩:=pt;exact Heap.lt_size e
 have lb:b<s1.heap.objs.size:=by obtain ⟨_,_,e,_⟩:=pt';exact Heap.lt_size e
 refine call_zip_2 pt.isList pt'.isList fun h1 z0 z1 z2 z3 z4 _ kp=>wpAny_pyIter_zip z0 ⟨s1.heap.objs.size+4,_,_,_,H1,rfl,I1.kept (t':=s1.toks) kp,ZjY la lb,⟨z0,z1,⟨_,_,z2⟩,z3,z4⟩,fun c hc=>?_,q⟩;have le:s1.heap.objs.size<=c:=by simp only [O2,List.not_mem_nil,or_false] at hc;lia
 exact I1.fpOk le (I1.hok.fresh le)
end L2
end
section
set_option tactic.hygienic false
namespace IV
open PySem PySem.Spec PyProof.Rows L2
inductive D where
 | non|bl (b:Bool)|int (i:Int)|str (x:Str)|tup (xs:List D)|ref (i:Nat)|ty (n:String)
 | ro (xs:List D)|kd (x:Str)
inductive DO where
 | lst (xs:List D)|dic (kvs:List (Key×D))|ins (C:Str) (fs:List (Str×D))
 | fdic (kvs:List (Key×D))
noncomputable abbrev Hd:=List DO
inductive R(α:Type) where
 | bad|ok (a:α) (h:Hd)|exc (c:Str) (h:Hd)
noncomputable def R.bind(r:R α)(k:α->Hd->R β):R β:=match r with
 | .bad=>.bad
 | .ok a h=>k a h
 | .exc c h=>.exc c h
theorem R.bind_ok:(R.ok a h).bind k=k a h:=rfl
theorem R.bind_bad:(R.bad:R α).bind k=.bad:=rfl
noncomputable def R.ofO(o:Option α)(h:Hd):R α:=match o with
 | some a=>.ok a h
 | none=>.bad
theorem R.ofO_some:R.ofO (some a) h=.ok a h:=rfl
noncomputable abbrev Ev:=List (Option D)
inductive Bf where
 | len|isi|int|tup|lst|sum|all|srt|mx|sri|lnd|dct
 deriving DecidableEq
inductive Mf where
 | app|ext|pop|rev|clr
 deriving DecidableEq
mutual
inductive Ex where
 | var (i:Nat)|cst (d:D)|glo (x:Str)
 | bin (op:Operator) (a b:Ex)|cmp (op:CmpOp) (a b:Ex)|cmp2 (op op':CmpOp) (a b c:Ex)
 | neg (a:Ex)|nt (a:Ex)|ands (es:Exs)|ors (es:Exs)|ite (c:Tx) (a b:Ex)
 | tupl (es:Exs)|lstl (es:Exs)|ix (a i:Ex)|sl (a:Ex) (lo hi:Option Ex)
 | blt (f:Bf) (es:Exs)|call (f:Str) (es:Exs)|meth (m:Mf) (o:Ex) (es:Exs)
 | comp (NC:List Str) (js:List (Option Nat)) (it:Ix) (g:Tg) (c:Option Tx) (e:Ex)
 | sorts (e:Ex)|dictl (ps:Exs)|maxd (e d:Ex)
 | att (Cs:List Str) (o:Ex) (f:Str)|mk (C:Str) (es:Exs)|mcl (C m:Str) (o:Ex) (es:Exs)|any
 | trev (e:Ex)|tix (o e:Ex)|lrv (e:Ex)|lix (o e:Ex)|lin (a b:Ex)
 | rpn (a b:Ex)
inductive Exs where
 | nil|cons (e:Ex) (es:Exs)
inductive Ix where
 | pl (e:Ex)|rng (e:Ex)|rng2 (a b:Ex)|enu (e:Ex)|rev (e:Ex)
 | en1 (e:Ex)|en0 (e:Ex)|dk (e:Ex)
 | zp (a b:Ex)
 | zl (a b:Ex)
inductive Tg where
 | nm (i:Nat)|two (i j:Nat)|many (is:List Nat)
inductive Tx where
 | ex (e:Ex)|ands (ts:Txs)|ors (ts:Txs)|nt (a:Tx)
inductive Txs where
 | one (t:Tx)|cons (t:Tx) (ts:Txs)
end
mutual
inductive Sx where
 | ret (e:Ex)|set (g:Tg) (e:Ex)|put (o i e:Ex)|aug (i:Nat) (op:Operator) (e:Ex)|drp (e:Ex)
 | iff (c:Tx) (a b:Sxs)|whl (c:Tx) (b:Sxs)|forr (g:Tg) (it:Ix) (b:Sxs)|pas|brk|cnt
 | seta (Cs:List Str) (o:Ex) (f:Str) (e:Ex)|auga (Cs:List Str) (o:Ex) (f:Str) (e:Ex)|any
 | rai (C:Str) (e:Ex)|trs (i:Nat) (f:Str) (es:Exs) (C:Str)
 | unl (i j:Nat) (e:Ex)
 | trw (i n:Nat) (f:Str) (es:Exs) (C W w:Str)
inductive Sxs where
 | nil|cons (s:Sx) (r:Sxs)
end
noncomputable instance:DecidableEq D:=fun a b=>Classical.propDecidable (a=b)
noncomputable instance:DecidableEq DO:=fun a b=>Classical.propDecidable (a=b)
mutual
noncomputable def D.py(rd:Nat->Option PyData):D->Option PyData
 | .non=>some .none
 | .bl b=>some (.bool b)
 | .int i=>some (.int i)
 | .str x=>some (.str x)
 | .tup xs=>(D.pys rd xs).map .tuple
 | .ro xs=>(D.pys rd xs).map .list
 | .ref i=>rd i
 | _=>none
noncomputable def D.pys(rd:Nat->Option PyData):List D->Option (List PyData)
 | []=>some []
 | x::xs=>(D.py rd x).bind fun d=>(D.pys rd xs).map fun ds=>d::ds
end
noncomputable def ZfV(h:Hd):Nat->Nat->Option PyData
 | 0,_=>none
 | n+1,i=>match h[i]? with
   | some (.lst xs)=>(D.pys (ZfV h n) xs).map .list
   | _=>none
noncomputable def Zf1(h:Hd)(d:D):Option PyData:=D.py (ZfV h 4) d
noncomputable def Zbs(o:DO)(h:Hd):R D:=.ok (.ref h.length) (h++[o])
noncomputable def lstOf(d:D)(h:Hd):Option (List D):=match d with
 | .ref i=>match h[i]? with
   | some (.lst xs)=>some xs
   | _=>none
 | .ro xs=>some xs
 | _=>none
noncomputable def dicOf(GD:Str->Option (List (Key×D)))(d:D)(h:Hd):Option (List (Key×D)):=match d with
 | .ref i=>match h[i]? with
   | some (.dic kvs)=>some kvs
   | some (.fdic kvs)=>some kvs
   | _=>none
 | .kd x=>GD x
 | _=>none
noncomputable def keyOf:D->Option Key
 | .int i=>some (.inl i)
 | .str x=>some (.inr x)
 | _=>none
noncomputable def ZM(kvs:List (Key×D))(k:Key):Option D:=(kvs.find? fun p=>decide (p.1=k)).map (·.2)
noncomputable def putD(kvs:List (Key×D))(k:Key)(v:D):List (Key×D) :=
 if (kvs.any fun kv=>decide (kv.1=k))=true then kvs.map (fun kv=>if kv.1=k then (kv.1,v) else kv) else kvs++[(k,v)]
noncomputable def cutD(xs:List D)(lo hi:Option Int):List D:=(xs.drop (HT.sIx xs.length 0 lo)).take (HT.sIx xs.length xs.length hi - HT.sIx xs.length 0 lo)
noncomputable def D.flat:D->Bool
 | .int _|.str _|.bl _|.non=>true
 | _=>false
noncomputable def eqF:D->D->Bool
 | .int i,.int j=>i==j
 | .str i,.str j=>i==j
 | .non,.non=>true
 | .bl i,.bl j=>i==j
 | .int i,.bl j=>i==(if j then 1 else 0)
 | .bl i,.int j=>(if i then 1 else 0)==j
 | _,_=>false
noncomputable def ZcZ(GD:Str->Option (List (Key×D)))(d:D)(h:Hd):Option Bool:=match d with
 | .non=>some false
 | .bl b=>some b
 | .int i=>some (i != 0)
 | .str x=>if x.length<=sizeLine then some (!(x.length==0)) else none
 | .tup xs=>some (!xs.isEmpty)
 | .ref i=>match h[i]? with
   | some (.lst xs)=>some (!xs.isEmpty)
   | some (.dic xs)=>some (!xs.isEmpty)
   | _=>none
 | .ro xs=>some (!xs.isEmpty)
 | _=>none
noncomputable def int2(x y:D)(k:Int->Int->R D):R D:=match x with
 | .int i=>match y with
   | .int j=>k i j
   | _=>.bad
 | _=>.bad
noncomputable def ZmO(x y:D)(h:Hd):R D:=match x with
 | .int i=>match y with
   | .int j=>.ok (.int (i+j)) h
   | _=>.bad
 | .str i=>match y with
   | .str j=>if i.length+j.length<=sizeLine then .ok (.str (i++j)) h else .bad
   | _=>.bad
 | .tup xs=>match y with
   | .tup ys=>if xs.length+ys.length<=sizeLine then .ok (.tup (xs++ys)) h else .bad
   | _=>.bad
 | .ref i=>match y with
   | .ref j=>match h[i]? with
     | some (.lst xs)=>match h[j]? with
       | some (.lst ys)=>if xs.length+ys.length<=sizeLine then Zbs (.lst (xs++ys)) h else .bad
       | _=>.bad
     | _=>.bad
   | _=>.bad
 | _=>.bad
noncomputable def ZsO(x y:D)(h:Hd):R D:=match x with
 | .str z=>match y with
   | .int n=>if 0<=n/\n<=1000/\z.length<=1000 then .ok (.str (Zb5 z n.toNat)) h else .bad
   | _=>.bad
 | x=>int2 x y fun i j=>if i.natAbs<2 ^ 2000/\j.natAbs<2 ^ 2000 then .ok (.int (i * j)) h else .bad
noncomputable def opB(op:Operator)(x y:D)(h:Hd):R D:=match op with
 | .Add=>ZmO x y h
 | .Sub=>int2 x y fun i j=>.ok (.int (i - j)) h
 | .Mult=>ZsO x y h
 | .Mod=>int2 x y fun i j=>if 0<j then .ok (.int (i % j)) h else .bad
 | .FloorDiv=>int2 x y fun i j=>if 0<j/\j<1073741824 then .ok (.int (i / j)) h else .bad
 | .Pow=>int2 x y fun i j=>if 0<=j/\j<=1000000/\i.natAbs<2 ^ 64 then .ok (.int (i ^ j.toNat)) h else .bad
 | _=>.bad
noncomputable def Zbr(neg:Bool)(x y:D)(h:Hd):R D:=match Zf1 h x,Zf1 h y with
 | some a,some b=>if min a.depth b.depth<=1100 then .ok (.bl (if neg then !PyData.eqv a b else PyData.eqv a b)) h else .bad
 | _,_=>.bad
noncomputable def seqOf(d:D)(h:Hd):Option (List D):=match d with
 | .tup xs=>some xs
 | d=>lstOf d h
noncomputable def ZbR(GD:Str->Option (List (Key×D)))(neg:Bool)(x y:D)(h:Hd):R D:=match seqOf y h with
 | some xs=>if x.flat&&xs.all D.flat then .ok (.bl (if neg then !xs.any (fun z=>eqF z x) else xs.any fun z=>eqF z x)) h else .bad
 | none=>match dicOf GD y h,keyOf x with
   | some kvs,some k=>.ok (.bl (if neg then !(ZM kvs k).isSome else (ZM kvs k).isSome)) h
   | _,_=>.bad
noncomputable def Zf3(f:Int->Int->Bool)(x y:D)(h:Hd):R D:=match x,y with
 | .int i,.int j=>.ok (.bl (f i j)) h
 | _,_=>.bad
noncomputable def opN(neg:Bool)(x y:D)(h:Hd):R D:=match y with
 | .non=>.ok (.bl (if neg then !decide (x=.non) else decide (x=.non))) h
 | _=>.bad
noncomputable def opC(GD:Str->Option (List (Key×D)))(op:CmpOp)(x y:D)(h:Hd):R D:=match op with
 | .Eq=>Zbr false x y h
 | .NotEq=>Zbr true x y h
 | .Lt=>Zf3 (fun i j=>decide (i<j)) x y h
 | .LtE=>Zf3 (fun i j=>decide (i<=j)) x y h
 | .Gt=>Zf3 (fun i j=>decide (j<i)) x y h
 | .GtE=>Zf3 (fun i j=>decide (j<=i)) x y h
 | .In=>ZbR GD false x y h
 | .NotIn=>ZbR GD true x y h
 | .Is=>opN false x y h
 | .IsNot=>opN true x y h
noncomputable def Zag(GD:Str->Option (List (Key×D)))(x y:D)(h:Hd):R D:=match y with
 | .int i=>match seqOf x h with
   | some xs=>R.ofO (atI xs i) h
   | none=>match x with
     | .str z=>if z.length<=sizeLine then R.ofO ((atI z.cps.toList i).map fun c=>.str ⟨#[c]⟩) h else .bad
     | _=>match dicOf GD x h with
       | some kvs=>R.ofO (ZM kvs (.inl i)) h
       | none=>.bad
 | .str z=>match dicOf GD x h with
   | some kvs=>R.ofO (ZM kvs (.inr z)) h
   | none=>.bad
 | _=>.bad
noncomputable def Zfk(x:D)(l u:Option Int)(h:Hd):R D:=match x with
 | .tup xs=>.ok (.tup (cutD xs l u)) h
 | .str y=>if y.length<=sizeLine then .ok (.str (StrLaws.sliceText y l u)) h else .bad
 | d=>match lstOf d h with
   | some xs=>Zbs (.lst (cutD xs l u)) h
   | none=>.bad
noncomputable def ZrQ(d:D)(h:Hd):Option String:=match d with
 | .int _=>some "int"
 | .str _=>some "str"
 | .bl _=>some "bool"
 | .non=>some "NoneType"
 | .tup _=>some "tuple"
 | d=>(lstOf d h).map fun _ => "list"
noncomputable def Zh9 (t T:String):Option Bool:=if T∈["int", "str", "bool", "tuple", "list"]/\t∈["int", "str", "bool", "tuple", "list", "NoneType"] then some (t==T || (t == "bool" && T == "int")) else none
noncomputable def intsOf:List D->Option (List Int)
 | []=>some []
 | .int i::r=>(intsOf r).map fun z=>i::z
 | _=>none
noncomputable def ZfF:List D->Option (List Bool)
 | []=>some []
 | .bl i::r=>(ZfF r).map fun z=>i::z
 | _=>none
noncomputable def strsOf:List D->Option (List Str)
 | []=>some []
 | .str i::r=>(strsOf r).map fun z=>i::z
 | _=>none
noncomputable def ZcE:List (Key×D)->Option (List Str)
 | []=>some []
 | (.inr x,_)::r=>(ZcE r).map fun z=>x::z
 | _=>none
noncomputable def Zjr:List (Key×D)->Option (List Int)
 | []=>some []
 | (.inl x,_)::r=>(Zjr r).map fun z=>x::z
 | _=>none
noncomputable def Zsq(x:Int):List Int->List Int
 | []=>[x]
 | y::r=>if y<x then y::Zsq x r else x::y::r
noncomputable def Zo8:List Int->List Int
 | []=>[]
 | x::r=>Zsq x (Zo8 r)
noncomputable def Zkc(x:Str):List Str->List Str
 | []=>[x]
 | y::r=>if ltCps y.cps.toList x.cps.toList then y::Zkc x r else x::y::r
noncomputable def Zbo:List Str->List Str
 | []=>[]
 | x::r=>Zkc x (Zbo r)
noncomputable def ZhA(xs:List D)(h:Hd):R D:=match xs with
 | [.str y]=>if y.length<=sizeLine then .ok (.int y.length) h else .bad
 | [d]=>R.ofO ((seqOf d h).map fun xs=>.int xs.length) h
 | _=>.bad
noncomputable def Zrp(xs:List D)(h:Hd):R D:=match xs with
 | [d,.ty T]=>R.ofO ((ZrQ d h).bind fun t=>(Zh9 t T).map .bl) h
 | _=>.bad
noncomputable def ZuJ(xs:List D)(h:Hd):R D:=match xs with
 | [.int i]=>.ok (.int i) h
 | [.bl b]=>.ok (.int (if b then 1 else 0)) h
 | _=>.bad
noncomputable def ZiG(xs:List D)(h:Hd):R D:=match xs with
 | [.tup xs]=>.ok (.tup xs) h
 | [d]=>R.ofO ((lstOf d h).map .tup) h
 | _=>.bad
noncomputable def ZuF(xs:List D)(h:Hd):R D:=match xs with
 | [d]=>match seqOf d h with
   | some xs=>Zbs (.lst xs) h
   | none=>.bad
 | _=>.bad
noncomputable def ZmD(xs:List D)(h:Hd):R D:=match xs with
 | [d]=>R.ofO (((lstOf d h).bind intsOf).map fun ns=>.int ns.sum) h
 | _=>.bad
noncomputable def ZoR(xs:List D)(h:Hd):R D:=match xs with
 | [d]=>R.ofO (((lstOf d h).bind ZfF).map fun bs=>.bl (bs.all id)) h
 | _=>.bad
noncomputable def ZdB(GD:Str->Option (List (Key×D)))(xs:List D)(h:Hd):R D:=match xs with
 | [d]=>match (dicOf GD d h).bind ZcE with
   | some ss=>if ss.length<64/\ss.all PyData.strOk=true then Zbs (.lst ((Zbo ss).map .str)) h else .bad
   | none=>.bad
 | _=>.bad
noncomputable def ZuE(GD:Str->Option (List (Key×D)))(xs:List D)(h:Hd):R D:=match xs with
 | [d]=>match (dicOf GD d h).bind Zjr with
   | some ns=>if ns.length<64 then Zbs (.lst ((Zo8 ns).map .int)) h else .bad
   | none=>.bad
 | _=>.bad
noncomputable def ZuH(GD:Str->Option (List (Key×D)))(xs:List D)(h:Hd):R D:=match xs with
 | [d]=>R.ofO ((dicOf GD d h).map fun kvs=>.int kvs.length) h
 | _=>.bad
noncomputable def ZmF(xs:List D)(h:Hd):R D:=match xs with
 | [.ref i]=>match h[i]? with
   | some (.dic kvs)=>Zbs (.dic kvs) h
   | _=>.bad
 | _=>.bad
noncomputable def ZjT(x d:D)(h:Hd):R D:=match d with
 | .int d=>R.ofO (((lstOf x h).bind intsOf).map fun ns=>.int (Zb9 ns d)) h
 | _=>.bad
noncomputable def bMx(xs:List D)(h:Hd):R D:=match xs with
 | [.int i,.int j]=>.ok (.int (if j > i then j else i)) h
 | [d]=>match (lstOf d h).bind intsOf with
   | some ns=>if ns≠[] then .ok (.int (Zb9 ns 0)) h else .bad
   | none=>.bad
 | _=>.bad
noncomputable def Zao(GD:Str->Option (List (Key×D))):Bf->List D->Hd->R D
 | .len=>ZhA
 | .isi=>Zrp
 | .int=>ZuJ
 | .tup=>ZiG
 | .lst=>ZuF
 | .sum=>ZmD
 | .all=>ZoR
 | .srt=>ZdB GD
 | .mx=>bMx
 | .sri=>ZuE GD
 | .lnd=>ZuH GD
 | .dct=>ZmF
noncomputable def Zpt(x:D)(h:Hd):R D:=match x with
 | .tup (y::ys)=>.ok (.tup (y::ys).reverse) h
 | _=>.bad
noncomputable def ZuG(x:D)(h:Hd):R D:=match x with
 | .tup ys=>Zbs (.lst ys.reverse) h
 | _=>.bad
noncomputable def Zs3:D->Bool
 | .tup _=>true
 | _=>false
noncomputable def Ztt(x y:D)(h:Hd):R D:=match x,y with
 | .tup xs,.str z=>match strsOf xs with
   | some ss=>R.ofO ((Tx.place z ss).map fun (j:Nat)=>.int (j:Int)) h
   | none=>.bad
 | _,_=>.bad
noncomputable def ZmE(x y:D)(h:Hd):R D:=match lstOf x h,y with
 | some xs,.str z=>match strsOf xs with
   | some ss=>R.ofO ((Tx.place z ss).map fun (j:Nat)=>.int (j:Int)) h
   | none=>.bad
 | _,_=>.bad
noncomputable def ZuI(x y:D)(h:Hd):R D:=match Zf1 h x,Zf1 h y with
 | some a,some (.list bs)=>if min (PyData.depthAll bs) a.depth<=1000 then .ok (.bl (bs.any fun b=>PyData.eqv b a)) h else .bad
 | _,_=>.bad
noncomputable def Zb7:List D->Option (List (Key×D))
 | []=>some []
 | k::v::r=>match keyOf k,Zb7 r with
   | some k,some r=>some ((k,v)::r)
   | _,_=>none
 | _=>none
noncomputable def Zbj(kvs more:List (Key×D)):List (Key×D):=more.foldl (fun acc kv=>putD acc kv.1 kv.2) kvs
noncomputable def ZlU(i:Nat)(ys xs:List D)(h:Hd):R D:=match xs with
 | [d]=>if ys.length<sizeLine then .ok .non (h.set i (.lst (ys++[d]))) else .bad
 | _=>.bad
noncomputable def ZqA(i:Nat)(ys xs:List D)(h:Hd):R D:=match xs with
 | [.ref j]=>match h[j]? with
   | some (.lst zs)=>if ys.length+zs.length<=sizeLine then .ok .non (h.set i (.lst (ys++zs))) else .bad
   | _=>.bad
 | [.tup zs]=>if ys.length+zs.length<=sizeLine then .ok .non (h.set i (.lst (ys++zs))) else .bad
 | _=>.bad
noncomputable def Zn9(i:Nat)(ys xs:List D)(h:Hd):R D:=match xs with
 | []=>match ys[ys.length - 1]? with
   | some y=>.ok y (h.set i (.lst ys.dropLast))
   | none=>.bad
 | _=>.bad
noncomputable def ZsR(i:Nat)(ys xs:List D)(h:Hd):R D:=match xs with
 | []=>.ok .non (h.set i (.lst ys.reverse))
 | _=>.bad
noncomputable def ZsS(i:Nat)(ys xs:List D)(h:Hd):R D:=match xs with
 | []=>.ok .non (h.set i (.lst []))
 | _=>.bad
noncomputable def shD(x:D)(h:Hd):R Str:=match Zf1 h x with
 | some d=>if L2.Zt4 d=true then .ok d.shown h else .bad
 | none=>.bad
noncomputable def ZeD:Mf->Nat->List D->List D->Hd->R D
 | .app=>ZlU
 | .ext=>ZqA
 | .pop=>Zn9
 | .rev=>ZsR
 | .clr=>ZsS
noncomputable def ZaI(m:Mf)(o:D)(xs:List D)(h:Hd):R D:=match o with
 | .ref i=>match h[i]? with
   | some (.lst ys)=>ZeD m i ys xs h
   | _=>.bad
 | _=>.bad
noncomputable def ZbS(o:D)(h:Hd):Bool:=match o with
 | .ref i=>match h[i]? with
   | some (.lst _)=>true
   | _=>false
 | _=>false
noncomputable def Zaf(o i v:D)(h:Hd):R Unit:=match o with
 | .ref a=>match h[a]? with
   | some (.lst xs)=>match i with
     | .int k=>match ixN xs.length k with
       | some j=>.ok () (h.set a (.lst (xs.set j v)))
       | none=>.bad
     | _=>.bad
   | some (.dic kvs)=>match keyOf i with
     | some k=>if kvs.length<sizeLine then .ok () (h.set a (.dic (putD kvs k v))) else .bad
     | none=>.bad
   | _=>.bad
 | _=>.bad
structure Wk where
 src:List (Nat×List D)
 xs:List D
noncomputable def Wk.stays:List (Nat×List D)->Hd->Bool
 | [],_=>true
 | (i,xs)::r,h=>decide (h[i]? = some (.lst xs))&&Wk.stays r h
noncomputable def Zan(d:D)(h:Hd):Option Wk:=match d with
 | .tup xs=>some ⟨[],xs⟩
 | .ro xs=>some ⟨[],xs⟩
 | .ref i=>match h[i]? with
   | some (.lst xs)=>some ⟨[(i,xs)],xs⟩
   | _=>none
 | _=>none
noncomputable def Zfr(d:D)(h:Hd):Option Wk:=match d with
 | .ro xs=>some ⟨[],xs⟩
 | .ref i=>match h[i]? with
   | some (.lst xs)=>some ⟨[(i,xs)],xs⟩
   | _=>none
 | _=>none
noncomputable def Zfq(d:D)(h:Hd):Option Wk:=match d with
 | .tup xs=>some ⟨[],xs⟩
 | .ref i=>match h[i]? with
   | some (.lst xs)=>some ⟨[(i,xs)],xs⟩
   | _=>none
 | _=>none
noncomputable def Zac(lo:Int)(n:Nat):List D:=(List.range n).map fun (k:Nat)=>.int (lo+(k:Int))
noncomputable def Zch(xs:List D):List D:=xs.mapIdx fun k x=>.tup [.int (k:Int),x]
noncomputable def Zc2(xs:List D):List D:=xs.mapIdx fun k x=>.tup [.int ((k+1:Nat):Int),x]
noncomputable def ZdE(xs ys:List D):List D:=List.zipWith (fun x y=>.tup [x,y]) xs ys
noncomputable def Zl5:Key->D
 | .inl i=>.int i
 | .inr x=>.str x
noncomputable def zpD(x y:D)(h:Hd):R Wk:=match x with
 | .tup xs=>match y with
   | .tup ys=>if xs.length=ys.length then .ok ⟨[],ZdE xs ys⟩ h else .bad
   | _=>.bad
 | _=>.bad
noncomputable def zlD(x y:D)(h:Hd):R Wk:=match x with
 | .ref i=>match y with
   | .ref j=>match h[i]? with
     | some (.lst xs)=>match h[j]? with
       | some (.lst ys)=>if xs.length=ys.length then .ok ⟨[(i,xs),(j,ys)],ZdE xs ys⟩ h else .bad
       | _=>.bad
     | _=>.bad
   | _=>.bad
 | _=>.bad
noncomputable def Zoo(x:D)(h:Hd):R Wk:=match x with
 | .ref i=>match h[i]? with
   | some (.dic kvs)=>.ok ⟨[],kvs.map fun p=>Zl5 p.1⟩ (h.set i (.fdic kvs))
   | some (.fdic kvs)=>.ok ⟨[],kvs.map fun p=>Zl5 p.1⟩ h
   | _=>.bad
 | _=>.bad
noncomputable def ZaL(i:Int):Bool:=decide (-(2 ^ 62)<=i)&&decide (i<2 ^ 62)
noncomputable def ZhM:List Nat->List D->Ev->Ev
 | i::is,x::xs,S=>ZhM is xs (S.set i (some x))
 | _,_,S=>S
noncomputable def Za8(g:Tg)(d:D)(S:Ev):Option Ev:=match g with
 | .nm i=>some (S.set i (some d))
 | .two i j=>match d with
   | .tup [a,b]=>some ((S.set i (some a)).set j (some b))
   | _=>none
 | .many is=>match d with
   | .tup xs=>if xs.length=is.length then some (ZhM is xs S) else none
   | _=>none
noncomputable def ZaJ(js:List (Option Nat))(S:Ev):Ev:=js.map fun o=>o.bind fun j=>(S[j]?).join
inductive Fl where
 | nx|bk|ct|rt (d:D)
noncomputable def ZP(src:List (Nat×List D))(g:Tg)(body:Ev->Hd->R (Fl×Ev)):List D->Ev->Hd->R (Fl×Ev)
 | [],S,h=>if Wk.stays src h then .ok (.nx,S) h else .bad
 | d::ds,S,h=>if Wk.stays src h then match Za8 g d S with
     | none=>.bad
     | some ρ1=>(body ρ1 h).bind fun p h2=>match p with
       | (.nx,ρ2)=>ZP src g body ds ρ2 h2
       | (.ct,ρ2)=>ZP src g body ds ρ2 h2
       | (.bk,ρ2)=>.ok (.nx,ρ2) h2
       | (.rt d,ρ2)=>.ok (.rt d,ρ2) h2
   else .bad
noncomputable def ZI(test:Ev->Hd->R Bool)(body:Ev->Hd->R (Fl×Ev)):Nat->Ev->Hd->R (Fl×Ev)
 | 0,_,_=>.bad
 | n+1,S,h=>(test S h).bind fun b h1=>if b then (body S h1).bind fun p h2=>match p with
     | (.nx,ρ2)=>ZI test body n ρ2 h2
     | (.ct,ρ2)=>ZI test body n ρ2 h2
     | (.bk,ρ2)=>.ok (.nx,ρ2) h2
     | (.rt d,ρ2)=>.ok (.rt d,ρ2) h2
   else .ok (.nx,S) h1
@[reducible] def R.plain:R α->R α
 | .exc _ _=>.bad
 | r=>r
noncomputable def ZF(src:List (Nat×List D))(g:Tg)(test:Ev->Hd->R Bool)(elt:Ev->Hd->R D):List D->Ev->List D->Hd->R (List D)
 | [],_,acc,h=>if Wk.stays src h then .ok acc h else .bad
 | d::ds,S,acc,h=>if Wk.stays src h/\acc.length<sizeLine then match Za8 g d S with
     | none=>.bad
     | some ρ1=>(test ρ1 h).plain.bind fun b h1=>if b then (elt ρ1 h1).plain.bind fun x h2=>ZF src g test elt ds S (acc++[x]) h2 else ZF src g test elt ds S acc h1
   else .bad
noncomputable def Zrl(C:Str)(i:Nat)(S:Ev)(r:R D):R (Fl×Ev):=match r with
 | .bad=>.bad
 | .ok v h=>.ok (.nx,S.set i (some v)) h
 | .exc c h=>if c=C then .ok (.nx,S.set i (some .non)) h else .bad
noncomputable def Zrk(W w:Str)(i n:Nat)(S:Ev)(r:R D):R (Fl×Ev):=match r with
 | .bad=>.bad
 | .ok v h=>.ok (.nx,S.set i (some v)) h
 | .exc c h=>if c=W then .ok (.nx,((S.set n none).set i (some (.ref h.length))).set n none) (h++[.lst [.str w,.bl true]]) else .bad
noncomputable def mnm (C m:Str):Str:=C++(O "." ++ m)
noncomputable def ZW(d:D)(h:Hd):Option (Str×List (Str×D)):=match d with
 | .ref i=>match h[i]? with
   | some (.ins C fs)=>some (C,fs)
   | _=>none
 | _=>none
noncomputable def Zfl(Cs:List Str)(f:Str)(x:D)(h:Hd):R D:=match ZW x h with
 | some (C,fs)=>if C∈Cs then R.ofO (fs.lookup f) h else .bad
 | none=>.bad
noncomputable def Zkd(f:Str)(v:D):List (Str×D)->List (Str×D)
 | []=>[(f,v)]
 | (g,x)::r=>if g=f then (g,v)::r else (g,x)::Zkd f v r
noncomputable def ZfT(Cs:List Str)(f:Str)(x d:D)(h:Hd):R D:=match x with
 | .ref i=>match h[i]? with
   | some (.ins C fs)=>if C∈Cs/\fs.length<1000 then .ok .non (h.set i (.ins C (Zkd f d fs))) else .bad
   | _=>.bad
 | _=>.bad
noncomputable def ZlO (Cf:Str->List D->Hd->R D) (C:Str) (xs:List D) (h:Hd):R D:=(Cf (mnm C (O "__init__")) (.ref h.length::xs) (h++[.ins C []])).bind fun d h2=>match d with
 | .non=>.ok (.ref h.length) h2
 | _=>.bad
structure Tb where
 G:Str->Option D
 GD:Str->Option (List (Key×D))
 C:Str->List D->Hd->R D
 L:Nat
mutual
noncomputable def ev(T:Tb):Ex->Ev->Hd->R D
 | .var i,S,h=>R.ofO (S[i]?).join h
 | .cst d,_,h=>.ok d h
 | .glo x,_,h=>R.ofO (T.G x) h
 | .bin op a b,S,h=>(ev T a S h).bind fun x h1=>(ev T b S h1).bind fun y h2=>opB op x y h2
 | .cmp op a b,S,h=>(ev T a S h).bind fun x h1=>(ev T b S h1).bind fun y h2=>opC T.GD op x y h2
 | .cmp2 op op' a b c,S,h=>(ev T a S h).bind fun x h1=>(ev T b S h1).bind fun y h2=>(opC T.GD op x y h2).bind fun r h3=>match r with
   | .bl true=>(ev T c S h3).bind fun z h4=>opC T.GD op' y z h4
   | .bl false=>.ok (.bl false) h3
   | _=>.bad
 | .neg a,S,h=>(ev T a S h).bind fun x h1=>match x with
   | .int i=>.ok (.int (-i)) h1
   | _=>.bad
 | .nt a,S,h=>(ev T a S h).bind fun x h1=>match x with
   | .bl b=>.ok (.bl (!b)) h1
   | _=>.bad
 | .ands es,S,h=>evAnd T es S h
 | .ors es,S,h=>evOr T es S h
 | .ite c a b,S,h=>(tst T c S h).bind fun c h1=>if c then ev T a S h1 else ev T b S h1
 | .tupl es,S,h=>(evs T es S h).bind fun xs h1=>if xs.length<=sizeLine then .ok (.tup xs) h1 else .bad
 | .lstl es,S,h=>(evs T es S h).bind fun xs h1=>if xs.length<=sizeLine then Zbs (.lst xs) h1 else .bad
 | .ix a i,S,h=>(ev T a S h).bind fun x h1=>(ev T i S h1).bind fun y h2=>Zag T.GD x y h2
 | .sl a lo hi,S,h=>(ev T a S h).bind fun x h1=>(evo T lo S h1).bind fun l h2=>(evo T hi S h2).bind fun u h3=>Zfk x l u h3
 | .blt f es,S,h=>(evs T es S h).bind fun xs h1=>Zao T.GD f xs h1
 | .call f es,S,h=>(evs T es S h).bind fun xs h1=>T.C f xs h1
 | .meth m o es,S,h=>(ev T o S h).bind fun x h1=>if ZbS x h1 then (evs T es S h1).bind fun xs h2=>ZaI m x xs h2 else .bad
 | .comp _ js it g c e,S,h=>(evi T it S h).bind fun w h1=>(ZF w.src g (tsto T c) (ev T e) w.xs (ZaJ js S) [] h1).bind fun xs h2=>Zbs (.lst xs) h2
 | .sorts e,S,h=>(ev T e S h).bind fun x h1=>match (lstOf x h1).bind strsOf with
   | some ss=>if ss.length<64 then Zbs (.lst ((Zbo ss.eraseDups).map .str)) h1 else .bad
   | none=>.bad
 | .maxd e d,S,h=>(ev T e S h).bind fun x h1=>(ev T d S h1).bind fun y h2=>ZjT x y h2
 | .dictl ps,S,h=>(evs T ps S h).bind fun xs h1=>match Zb7 xs with
   | some kvs=>if kvs.length<=15 then Zbs (.dic (Zbj [] kvs)) h1 else .bad
   | none=>.bad
 | .att Cs o f,S,h=>(ev T o S h).bind fun x h1=>Zfl Cs f x h1
 | .mk C es,S,h=>(evs T es S h).bind fun xs h1=>ZlO T.C C xs h1
 | .mcl C m o es,S,h=>(ev T o S h).bind fun x h1=>match ZW x h1 with
   | some (C',fs)=>if C'=C/\fs.lookup m=none then (evs T es S h1).bind fun xs h2=>T.C (mnm C m) (x::xs) h2 else .bad
   | none=>.bad
 | .any,_,_=>.bad
 | .trev e,S,h=>(ev T e S h).bind fun x h1=>Zpt x h1
 | .lrv e,S,h=>(ev T e S h).bind fun x h1=>ZuG x h1
 | .tix o e,S,h=>(ev T o S h).bind fun x h1=>if Zs3 x then (ev T e S h1).bind fun y h2=>Ztt x y h2 else .bad
 | .lix o e,S,h=>(ev T o S h).bind fun x h1=>if ZbS x h1 then (ev T e S h1).bind fun y h2=>ZmE x y h2 else .bad
 | .lin a b,S,h=>(ev T a S h).bind fun x h1=>(ev T b S h1).bind fun y h2=>ZuI x y h2
 | .rpn a b,S,h=>(ev T a S h).bind fun x h1=>(shD x h1).bind fun p h1=>(ev T b S h1).bind fun y h2=>(shD y h2).bind fun q h3=>.ok (.bl (!decide (p=q))) h3
noncomputable def evs(T:Tb):Exs->Ev->Hd->R (List D)
 | .nil,_,h=>.ok [] h
 | .cons e es,S,h=>(ev T e S h).bind fun x h1=>(evs T es S h1).bind fun xs h2=>.ok (x::xs) h2
noncomputable def evAnd(T:Tb):Exs->Ev->Hd->R D
 | .nil,_,_=>.bad
 | .cons e es,S,h=>match es with
   | .nil=>ev T e S h
   | .cons _ _=>(ev T e S h).bind fun x h1=>match x with
     | .bl true=>evAnd T es S h1
     | .bl false=>.ok (.bl false) h1
     | _=>.bad
noncomputable def evOr(T:Tb):Exs->Ev->Hd->R D
 | .nil,_,_=>.bad
 | .cons e es,S,h=>match es with
   | .nil=>ev T e S h
   | .cons _ _=>(ev T e S h).bind fun x h1=>match x with
     | .bl true=>.ok (.bl true) h1
     | .bl false=>evOr T es S h1
     | _=>.bad
noncomputable def evo(T:Tb):Option Ex->Ev->Hd->R (Option Int)
 | none,_,h=>.ok none h
 | some e,S,h=>(ev T e S h).bind fun x h1=>match x with
   | .int i=>.ok (some i) h1
   | _=>.bad
noncomputable def tst(T:Tb):Tx->Ev->Hd->R Bool
 | .ex e,S,h=>(ev T e S h).bind fun x h1=>R.ofO (ZcZ T.GD x h1) h1
 | .ands ts,S,h=>tstAnd T ts S h
 | .ors ts,S,h=>tstOr T ts S h
 | .nt a,S,h=>(tst T a S h).bind fun c h1=>.ok (!c) h1
noncomputable def tstAnd(T:Tb):Txs->Ev->Hd->R Bool
 | .one t,S,h=>tst T t S h
 | .cons t ts,S,h=>(tst T t S h).bind fun c h1=>if c then tstAnd T ts S h1 else .ok false h1
noncomputable def tstOr(T:Tb):Txs->Ev->Hd->R Bool
 | .one t,S,h=>tst T t S h
 | .cons t ts,S,h=>(tst T t S h).bind fun c h1=>if c then .ok true h1 else tstOr T ts S h1
noncomputable def tsto(T:Tb):Option Tx->Ev->Hd->R Bool
 | none,_,h=>.ok true h
 | some e,S,h=>tst T e S h
noncomputable def evi(T:Tb):Ix->Ev->Hd->R Wk
 | .pl e,S,h=>(ev T e S h).bind fun x h1=>R.ofO (Zan x h1) h1
 | .rng e,S,h=>(ev T e S h).bind fun x h1=>match x with
   | .int j=>if ZaL j then .ok ⟨[],Zac 0 j.toNat⟩ h1 else .bad
   | _=>.bad
 | .rng2 a b,S,h=>(ev T a S h).bind fun x h1=>(ev T b S h1).bind fun y h2=>match x,y with
   | .int i,.int j=>if ZaL i&&ZaL j then .ok ⟨[],Zac i (j - i).toNat⟩ h2 else .bad
   | _,_=>.bad
 | .enu e,S,h=>(ev T e S h).bind fun x h1=>R.ofO ((Zfr x h1).map fun w=>⟨w.src,Zch w.xs⟩) h1
 | .rev e,S,h=>(ev T e S h).bind fun x h1=>R.ofO ((Zfq x h1).map fun w=>⟨w.src,w.xs.reverse⟩) h1
 | .en1 e,S,h=>(ev T e S h).bind fun x h1=>match x with
   | .tup xs=>.ok ⟨[],Zc2 xs⟩ h1
   | _=>.bad
 | .en0 e,S,h=>(ev T e S h).bind fun x h1=>match x with
   | .tup xs=>.ok ⟨[],Zch xs⟩ h1
   | _=>.bad
 | .dk e,S,h=>(ev T e S h).bind fun x h1=>Zoo x h1
 | .zp a b,S,h=>(ev T a S h).bind fun x h1=>(ev T b S h1).bind fun y h2=>zpD x y h2
 | .zl a b,S,h=>(ev T a S h).bind fun x h1=>(ev T b S h1).bind fun y h2=>zlD x y h2
end
noncomputable def ZtM(i j:Nat)(S:Ev)(x:D)(h:Hd):R (Fl×Ev):=match lstOf x h with
 | some [a,b]=>.ok (.nx,(S.set i (some a)).set j (some b)) h
 | _=>.bad
mutual
noncomputable def xs1(T:Tb):Sx->Ev->Hd->R (Fl×Ev)
 | .ret e,S,h=>(ev T e S h).bind fun x h1=>.ok (.rt x,S) h1
 | .set g e,S,h=>(ev T e S h).bind fun x h1=>(R.ofO (Za8 g x S) h1).bind fun ρ1 h2=>.ok (.nx,ρ1) h2
 | .put o i e,S,h=>(ev T e S h).bind fun x h1=>(ev T o S h1).bind fun y h2=>(ev T i S h2).bind fun z h3=>(Zaf y z x h3).bind fun _ h4=>.ok (.nx,S) h4
 | .aug i op e,S,h=>(R.ofO (S[i]?).join h).bind fun x h1=>(ev T e S h1).bind fun y h2=>match op,x,y with
   | .Add,.int a,.int b=>.ok (.nx,S.set i (some (.int (a+b)))) h2
   | _,_,_=>.bad
 | .drp e,S,h=>(ev T e S h).bind fun _ h1=>.ok (.nx,S) h1
 | .iff c a b,S,h=>(tst T c S h).bind fun t h1=>if t then xs2 T a S h1 else xs2 T b S h1
 | .whl c b,S,h=>ZI (tst T c) (xs2 T b) T.L S h
 | .forr g it b,S,h=>(evi T it S h).bind fun w h1=>ZP w.src g (xs2 T b) w.xs S h1
 | .pas,S,h=>.ok (.nx,S) h
 | .brk,S,h=>.ok (.bk,S) h
 | .cnt,S,h=>.ok (.ct,S) h
 | .seta Cs o f e,S,h=>(ev T e S h).bind fun d h1=>(ev T o S h1).bind fun x h2=>(ZfT Cs f x d h2).bind fun _ h3=>.ok (.nx,S) h3
 | .auga Cs o f e,S,h=>(ev T o S h).bind fun x h1=>(Zfl Cs f x h1).bind fun v h2=>(ev T e S h2).bind fun y h3=>match v,y with
   | .int a,.int b=>if (ZW x h1).map (·.1)=(ZW x h3).map (·.1) then (ZfT Cs f x (.int (a+b)) h3).bind fun _ h4=>.ok (.nx,S) h4 else .bad
   | _,_=>.bad
 | .any,_,_=>.bad
 | .rai C e,S,h=>(ev T e S h).bind fun _ h1=>.exc C h1
 | .trs i f es C,S,h=>(evs T es S h).plain.bind fun xs h1=>Zrl C i S (T.C f xs h1)
 | .unl i j e,S,h=>(ev T e S h).bind fun x h1=>ZtM i j S x h1
 | .trw i n f es _ W w,S,h=>(evs T es S h).plain.bind fun xs h1=>Zrk W w i n S (T.C f xs h1)
noncomputable def xs2(T:Tb):Sxs->Ev->Hd->R (Fl×Ev)
 | .nil,S,h=>.ok (.nx,S) h
 | .cons s r,S,h=>(xs1 T s S h).bind fun p h1=>match p with
   | (.nx,ρ1)=>xs2 T r ρ1 h1
   | p=>.ok p h1
end
structure Fd where
 ps:List Str
 N:List Str
 body:Sxs
structure Pg where
 tb:List (Str×Fd)
 G:Str->Option D
 GD:Str->Option (List (Key×D))
 L:Nat
 ms:List (Str×Fd):=[]
noncomputable def Pg.look(P:Pg)(f:Str):Option Fd:=match P.tb.lookup f with
 | some fd=>some fd
 | none=>P.ms.lookup f
noncomputable def Zs(N:List Str)(ds:List D):Ev:=ds.map some++List.replicate (N.length - ds.length) none
noncomputable def Zk:R (Fl×Ev)->R D
 | .ok (.rt d,_) h=>.ok d h
 | .ok (.nx,_) h=>.ok .non h
 | .exc c h=>.exc c h
 | _=>.bad
noncomputable def run(P:Pg):Nat->Str->List D->Hd->R D
 | 0,_,_,_=>.bad
 | n+1,f,ds,h=>match P.look f with
   | none=>.bad
   | some fd=>if ds.length=fd.ps.length then Zk (xs2 ⟨P.G,P.GD,run P n,P.L⟩ fd.body (Zs fd.N ds) h) else .bad
noncomputable def Pg.tbl(P:Pg)(n:Nat):Tb:=⟨P.G,P.GD,run P n,P.L⟩
end IV
end
section
set_option tactic.hygienic false
namespace IV
open PySem PySem.Spec PyProof.Rows L2
noncomputable def FzL(K:PySem.W.Frag)(H:Hp)(a:Addr)(xs:List V):Prop :=
 (∃ o,H a=some (.frz o (.lst xs)))\/∃ (o:Obj) (its:Array Value) (n:Nat),K.lookup a=some o/\o.cls=.type "list" /\ o.dict=none/\o.data=.seq its n/\its.size<=sizeLine/\Zj xs its.toList
theorem FzL.sq{K:PySem.W.Frag}(h:FzL K H a xs):SqL K H a xs:=h.elim (fun ⟨o,h⟩=>.inl (.inr ⟨o,h⟩)) .inr
structure Yx where
 K:PySem.W.Frag
 mg:Str->Option Value
mutual
inductive RD(Y:Yx)(H:Hp)(B:List Addr):D->V->Prop
 | non:RD Y H B .non .non
 | bl (b:Bool):RD Y H B (.bl b) (.bl b)
 | int (i:Int):RD Y H B (.int i) (.int i)
 | str (x:Str) (ok:PyData.strOk x=true):RD Y H B (.str x) (.str x)
 | tup {a:Addr}{vs:List V}{ds:List D}:SqT Y.K H a vs->RDs Y H B ds vs->RD Y H B (.tup ds) (.ref a)
 | ref {i:Nat}{a:Addr}:B[i]? = some a->RD Y H B (.ref i) (.ref a)
 | ty (n:String):RD Y H B (.ty n) (.ty n)
 | ro {a:Addr}{vs:List V}{ds:List D}:FzL Y.K H a vs->RDs Y H B ds vs->RD Y H B (.ro ds) (.ref a)
 | kd {x:Str}{a:Addr}:Y.mg x=some (.ref a)->RD Y H B (.kd x) (.ref a)
inductive RDs(Y:Yx)(H:Hp)(B:List Addr):List D->List V->Prop
 | nil:RDs Y H B [] []
 | cons {d:D}{v:V}{ds:List D}{vs:List V}:RD Y H B d v->RDs Y H B ds vs->RDs Y H B (d::ds) (v::vs)
end
inductive RKs(Y:Yx)(H:Hp)(B:List Addr){κ:Type}:List (κ×D)->List (κ×V)->Prop
 | nil:RKs Y H B [] []
 | cons {k:κ}{d:D}{v:V}{ds:List (κ×D)}{vs:List (κ×V)}:RD Y H B d v->RKs Y H B ds vs->RKs Y H B ((k,d)::ds) ((k,v)::vs)
noncomputable def RO(Y:Yx)(H:Hp)(B:List Addr)(a:Addr):DO->Prop
 | .lst ds=>∃ vs,H a=some (.lst vs)/\RDs Y H B ds vs
 | .dic kvs=>∃ kvs',H a=some (.dK kvs')/\RKs Y H B kvs kvs'
 | .ins C fs=>∃ Ca dx fs',H a=some (.ins Ca dx fs')/\Y.mg C=some (.ref Ca)/\RKs Y H B fs fs'
 | .fdic kvs=>∃ o kvs',H a=some (.frz o (.dK kvs'))/\RKs Y H B kvs kvs'
noncomputable def ZaH(kvs:List (Key×D)):Prop:=∀ p∈kvs,∀ x,p.1=.inr x->PyData.strOk x=true
noncomputable def DOk:DO->Prop
 | .dic kvs=>ZaH kvs
 | .fdic kvs=>ZaH kvs
 | _=>True
structure RH(Y:Yx)(H:Hp)(B:List Addr)(h:Hd):Prop where
 len:h.length=B.length
 nd:B.Nodup
 ob:∀ (i:Nat) (o:DO) (a:Addr),h[i]? = some o->B[i]? = some a->RO Y H B a o
 ks:∀ (i:Nat) (o:DO),h[i]? = some o->DOk o
structure Gr(H:Hp)(B:List Addr)(H':Hp)(μ':List Addr):Prop where
 pre:∀ (i:Nat) (a:Addr),B[i]? = some a->μ'[i]? = some a
 new:∀ a∈μ',a∈B\/H a=none
 keep:∀ b o,b ∉ B->H b=some o->H' b=some o
 fz:∀ b o u,H b=some (.frz o u)->H' b=some (.frz o u)
theorem Gr.refl:Gr H B H B:=⟨fun _ _ h=>h,fun _ h=>.inl h,fun _ _ _ h=>h,fun _ _ _ h=>h⟩
theorem Gr.trans(a:Gr H B H1 μ1)(b:Gr H1 μ1 H2 μ2):Gr H B H2 μ2:=by
 refine ⟨fun i x h=>b.pre i x (a.pre i x h),fun x hx=>?_,fun x o hx h=>?_,fun x o u h=>b.fz x o u (a.fz x o u h)⟩
 . rcases b.new x hx with h|h
   . exact a.new x h
   . by_cases hm:x∈B
     . exact .inl hm
     . cases q:H x with
       | none=>exact .inr rfl
       | some o=>rw [a.keep x o hm q] at h;cases h
 . refine b.keep x o (fun hm=>?_) (a.keep x o hx h);rcases a.new x hm with z|z
   . exact hx z
   . rw [h] at z;cases z
noncomputable def Mu:Option HO->Prop
 | some (.lst _)|some (.dK _)|some (.ins _ _ _)|some (.frz _ (.dK _))=>True
 | _=>False
theorem RO.mut(h:RO Y H B a o):Mu (H a):=by
 cases o with
 | lst ds=>obtain ⟨vs,e,_⟩:=h;rw [e];trivial
 | dic ds=>obtain ⟨vs,e,_⟩:=h;rw [e];trivial
 | ins C ds=>obtain ⟨_,_,_,e,_⟩:=h;rw [e];trivial
 | fdic ds=>obtain ⟨_,_,e,_⟩:=h;rw [e];trivial
theorem RH.mem(r:RH Y H B h)(ha:a∈B):∃ (i:Nat) (o:DO),B[i]? = some a/\h[i]? = some o/\RO Y H B a o:=by
 obtain ⟨i,hi⟩:=List.mem_iff_getElem?.mp ha;have hl:i<h.length:=by
   rw [r.len];exact (Ob.mp hi).1
 exact ⟨i,h[i],hi,Og hl,r.ob i _ a (Og hl) hi⟩
theorem RH.mut(r:RH Y H B h)(ha:a∈B):Mu (H a):=let ⟨_,_,_,_,q⟩:=r.mem ha;q.mut
theorem Gr.rdT(r:RH Y H B h)(g:Gr H B H' μ')(t:SqT Y.K H a xs):SqT Y.K H' a xs:=by
 rcases t with t|t
 . rcases t with t|⟨o,t⟩
   . exact .inl (.inl (g.keep a _ (fun hm=>by have:=r.mut hm;rw [t] at this;exact this) t))
   . exact .inl (.inr ⟨o,g.fz a _ _ t⟩)
 . exact .inr t
theorem Gr.rdF(r:RH Y H B h)(g:Gr H B H' μ')(t:FzL Y.K H a xs):FzL Y.K H' a xs:=by
 rcases t with ⟨o,t⟩|t
 . exact .inl ⟨o,g.fz a _ _ t⟩
 . exact .inr t
section
variable {Y:Yx}{H H':Hp}{B μ':List Addr}{h:Hd}
structure Tr(Y:Yx)(H:Hp)(B:List Addr)(H':Hp)(μ':List Addr):Prop where
 t:∀ {a xs},SqT Y.K H a xs->SqT Y.K H' a xs
 f:∀ {a xs},FzL Y.K H a xs->FzL Y.K H' a xs
 m:∀ {i:Nat}{a},B[i]? = some a->μ'[i]? = some a
mutual
theorem RD.tr(T:Tr Y H B H' μ'):∀ {d:D}{v:V},RD Y H B d v->RD Y H' μ' d v
 | _,_,.non=>.non
 | _,_,.bl b=>.bl b
 | _,_,.int i=>.int i
 | _,_,.str x ok=>.str x ok
 | _,_,.tup t s=>.tup (T.t t) (RDs.tr T s)
 | _,_,.ref e=>.ref (T.m e)
 | _,_,.ty n=>.ty n
 | _,_,.ro t s=>.ro (T.f t) (RDs.tr T s)
 | _,_,.kd e=>.kd e
theorem RDs.tr(T:Tr Y H B H' μ'):∀ {d:List D}{v:List V},RDs Y H B d v->RDs Y H' μ' d v
 | _,_,.nil=>.nil
 | _,_,.cons a s=>.cons (RD.tr T a) (RDs.tr T s)
end
theorem RKs.tr(T:Tr Y H B H' μ'):∀ {d:List (κ×D)}{v:List (κ×V)},RKs Y H B d v->RKs Y H' μ' d v
 | _,_,.nil=>.nil
 | _,_,.cons a s=>.cons (a.tr T) (RKs.tr T s)
theorem RO.tr(T:Tr Y H B H' μ')(q:RO Y H B a o)(e:H' a=H a):RO Y H' μ' a o:=by
 cases o with
 | lst ds=>obtain ⟨vs,z,s⟩:=q;exact ⟨vs,e.trans z,s.tr T⟩
 | dic ds=>obtain ⟨vs,z,s⟩:=q;exact ⟨vs,e.trans z,s.tr T⟩
 | ins C ds=>obtain ⟨a1,a2,a3,z,m,s⟩:=q;exact ⟨a1,a2,a3,e.trans z,m,s.tr T⟩
 | fdic ds=>obtain ⟨o,vs,z,s⟩:=q;exact ⟨o,vs,e.trans z,s.tr T⟩
theorem Gr.tr(r:RH Y H B h)(g:Gr H B H' μ'):Tr Y H B H' μ':=⟨g.rdT r,g.rdF r,g.pre _ _⟩
theorem RD.mono(r:RH Y H B h)(g:Gr H B H' μ')(q:RD Y H B d v):RD Y H' μ' d v:=q.tr (g.tr r)
theorem RDs.mono(r:RH Y H B h)(g:Gr H B H' μ')(q:RDs Y H B d v):RDs Y H' μ' d v:=q.tr (g.tr r)
theorem RKs.mono{d:List (κ×D)}(r:RH Y H B h)(g:Gr H B H' μ')(q:RKs Y H B d v):RKs Y H' μ' d v:=q.tr (g.tr r)
theorem RDs.length:∀ {d:List D}{v:List V},RDs Y H B d v->d.length=v.length
 | _,_,.nil=>rfl
 | _,_,.cons a s=>by rw [Os,Os,s.length]
theorem RKs.length:∀ {d:List (κ×D)}{v:List (κ×V)},RKs Y H B d v->d.length=v.length
 | _,_,.nil=>rfl
 | _,_,.cons a s=>by rw [Os,Os,s.length]
theorem RDs.get:∀ {ds:List D}{vs:List V},RDs Y H B ds vs->∀ {i:Nat}{d:D},ds[i]? = some d->∃ v,vs[i]? = some v/\RD Y H B d v
 | _,_,.nil,i,d,e=>by simp at e
 | _,_,.cons a s,0,d,e=>by cases e;exact ⟨_,rfl,a⟩
 | _,_,.cons a s,i+1,d,e=>by
   obtain ⟨v,h1,h2⟩:=RDs.get s (i:=i) (d:=d) (by simpa using e);exact ⟨v,by simpa using h1,h2⟩
theorem RDs.append:∀ {ds es:List D}{vs ws:List V},RDs Y H B ds vs->RDs Y H B es ws->RDs Y H B (ds++es) (vs++ws)
 | _,_,_,_,.nil,s=>s
 | _,_,_,_,.cons a r,s=>.cons a (r.append s)
theorem RDs.take:∀ {ds:List D}{vs:List V} (n:Nat),RDs Y H B ds vs->RDs Y H B (ds.take n) (vs.take n)
 | _,_,0,_=>.nil
 | _,_,_+1,.nil=>.nil
 | _,_,n+1,.cons a s=>.cons a (s.take n)
theorem RDs.drop:∀ {ds:List D}{vs:List V} (n:Nat),RDs Y H B ds vs->RDs Y H B (ds.drop n) (vs.drop n)
 | _,_,0,s=>s
 | _,_,_+1,.nil=>.nil
 | _,_,n+1,.cons a s=>s.drop n
theorem RDs.reverse(s:RDs Y H B ds vs):RDs Y H B ds.reverse vs.reverse:=by
 have gen:∀ {ds es:List D}{vs ws:List V},RDs Y H B ds vs->RDs Y H B es ws->RDs Y H B (ds.reverseAux es) (vs.reverseAux ws):=by
   intro ds;induction ds with
   | nil=>intro es vs ws a b;cases a;exact b
   | cons d ds ih =>
     intro es vs ws a b;cases a with
     | cons a s =>
       have z:=ih s (RDs.cons a b);exact z
 exact gen s .nil
theorem RDs.dropLast(s:RDs Y H B ds vs):RDs Y H B ds.dropLast vs.dropLast:=by
 rw [List.dropLast_eq_take,List.dropLast_eq_take,s.length];exact s.take _
theorem RDs.set(r:RD Y H B d v):∀ {ds:List D}{vs:List V} (i:Nat),RDs Y H B ds vs->RDs Y H B (ds.set i d) (vs.set i v)
 | _,_,_,.nil=>.nil
 | _,_,0,.cons _ s=>.cons r s
 | _,_,i+1,.cons a s=>.cons a (RDs.set r i s)
theorem RDs.cut(s:RDs Y H B ds vs)(lo hi:Option Int):RDs Y H B (cutD ds lo hi) (Zhk vs lo hi):=by
 unfold cutD Zhk;rw [s.length];exact (s.drop _).take _
theorem RDs.isEmpty(s:RDs Y H B ds vs):ds.isEmpty=vs.isEmpty:=by cases s<;>rfl
theorem RDs.atI(s:RDs Y H B ds vs)(e:L2.atI ds i=some d):∃ v,L2.atI vs i=some v/\RD Y H B d v:=by
 unfold L2.atI at e ⊢;rw [s.length] at e;cases q:ixN vs.length i with
 | none=>rw [q] at e;cases e
 | some j =>
   rw [q] at e;exact s.get (i:=j) e
theorem RKs.val[DecidableEq κ]:∀ {ds:List (κ×D)}{vs:List (κ×V)},RKs Y H B ds vs->∀ (k:κ),((ds.find? fun p=>decide (p.1=k))=none/\(vs.find? fun p=>decide (p.1=k))=none)\/∃ d v,(ds.find? fun p=>decide (p.1=k))=some (k,d)/\(vs.find? fun p=>decide (p.1=k))=some (k,v)/\RD Y H B d v
 | _,_,.nil,k=>.inl ⟨rfl,rfl⟩
 | _,_,.cons (k:=k') (d:=d) (v:=v) a s,k=>by
   by_cases e:k'=k
   . subst e;exact .inr ⟨d,v,by simp,by simp,a⟩
   . rcases s.val k with ⟨h1,h2⟩|⟨d,v,h1,h2,h3⟩
     . exact .inl ⟨by simp [e,h1],by simp [e,h2]⟩
     . exact .inr ⟨d,v,by simp [e,h1],by simp [e,h2],h3⟩
end
theorem ZqT{α:Type}{l:List α}(hl:l.Nodup){i j:Nat}{x:α}(a:l[i]? = some x)(b:l[j]? = some x):i=j:=by
 obtain ⟨h1,e1⟩:=Ob.mp a;obtain ⟨h2,e2⟩:=Ob.mp b;exact (List.getElem_inj hl).mp (e1.trans e2.symm)
section
variable {Y:Yx}{H:Hp}{B:List Addr}{h:Hd}
theorem Gr.add(g:Gr H0 μ0 H B)(hp:H0 p=none):Gr H0 μ0 H (B++[p]) :=
 ⟨fun i a e=>by have e:=g.pre i a e;rw [Oe (Ob.mp e).1];exact e,fun a ha=>(OD.mp ha).elim (g.new a) fun z=>by rw [Ox.mp z];exact .inr hp,g.keep,g.fz⟩
theorem ZkO{H0 H:Hp}(hp:H0 p=none)(e:H0 b=some u):upd H p o b=H b:=Zh fun z=>by rw [z,hp] at e;cases e
theorem Gr.put(g:Gr H0 μ0 H B)(hp:H0 p=none):Gr H0 μ0 (upd H p o) B:=⟨g.pre,g.new,fun b u hb e=>(ZkO hp e).trans (g.keep b u hb e),fun b u v e=>(ZkO hp e).trans (g.fz b u v e)⟩
theorem Gr.lay0(hp:H p=none):Gr H B (upd H p o) B:=Gr.refl.put hp
theorem Gr.lay(hp:H p=none):Gr H B (upd H p o) (B++[p]):=(Gr.lay0 hp).add hp
noncomputable def NF:Option HO->Prop
 | some (.frz _ _)=>False
 | _=>True
theorem Gr.write(hp:p∈B)(nf:NF (H p)):Gr H B (upd H p o) B :=
 ⟨fun _ _ e=>e,fun a ha=>.inl ha,fun b u hb e=>by rw [Zh (show b≠p from fun z=>hb (by rw [z];exact hp))];exact e,fun b u v e=>by rw [Zh (fun z=>by rw [z] at e;rw [e] at nf;exact nf)];exact e⟩
theorem RO.mono(r:RH Y H B h)(g:Gr H B H' μ')(q:RO Y H B a o)(e:H' a=H a):RO Y H' μ' a o:=q.tr (g.tr r) e
theorem RH.tr(r:RH Y H B h)(T:Tr Y H B H' B)(k:∀ a∈B,H' a=H a):RH Y H' B h :=
 ⟨r.len,r.nd,fun i o a e1 e2=>(r.ob i o a e1 e2).tr T (k a (O1 e2)),r.ks⟩
theorem RH.keep(r:RH Y H B h)(g:Gr H B H' B)(k:∀ a∈B,H' a=H a):RH Y H' B h:=r.tr (g.tr r) k
theorem Tr.more:Tr Y H B H (B++[p]):=⟨id,id,fun e=>by rw [Oe (Ob.mp e).1];exact e⟩
theorem ZqM(k:∀ (i:Nat) (o:DO),h[i]? = some o->DOk o)(dk:DOk o):∀ (i:Nat) (o':DO),(h++[o])[i]? = some o'->DOk o':=by
 intro i o' e1;by_cases hi:i<h.length
 . rw [Oe hi] at e1;exact k i o' e1
 . have hi':i=h.length:=by
     have:=(Ob.mp e1).1;simp at this
     lia
   subst hi';rw [Om (Oq _)] at e1;simp at e1;subst e1;exact dk
theorem RH.add(r:RH Y H B h)(np:p ∉ B)(n:RO Y H (B++[p]) p o)(dk:DOk o:=by trivial):RH Y H (B++[p]) (h++[o]):=by
 refine ⟨by simp [r.len],?_,fun i o' a e1 e2=>?_,ZqM r.ks dk⟩
 . rw [List.nodup_append];refine ⟨r.nd,by simp,fun a ha b hb=>?_⟩;rw [Ox.mp hb];intro z;exact np (z ▸ ha)
 . by_cases hi:i<h.length
   . rw [Oe hi] at e1;rw [Oe (by rw [<- r.len];exact hi)] at e2;exact (r.ob i o' a e1 e2).tr .more rfl
   . have hi':i=h.length:=by
       have:=(Ob.mp e1).1;simp at this
       lia
     subst hi';rw [Om (Oq _)] at e1;rw [Om (by rw [r.len];exact Oq _)] at e2;simp [r.len] at e1 e2;subst e1;subst e2;exact n
theorem RH.fr(r:RH Y H B h)(hp:H p=none):p ∉ B:=fun z=>by have:=r.mut z;rw [hp] at this;exact this
theorem RH.lay0(r:RH Y H B h)(hp:H p=none):RH Y (upd H p u) B h:=r.keep (Gr.lay0 hp) fun a ha=>Zh fun z=>r.fr hp (z ▸ ha)
theorem RH.lay(r:RH Y H B h)(hp:H p=none)(n:RO Y (upd H p u) (B++[p]) p o)(dk:DOk o:=by trivial):RH Y (upd H p u) (B++[p]) (h++[o]):=(r.lay0 hp).add (r.fr hp) n dk
theorem RH.write{p:Addr}{i:Nat}{u:HO}{o:DO}(r:RH Y H B h)(hp:B[i]? = some p)(n:RO Y (upd H p u) B p o)(nf:NF (H p))(dk:DOk o:=by trivial):RH Y (upd H p u) B (h.set i o):=by
 have hm:p∈B:=O1 hp;refine ⟨by simp [r.len],r.nd,fun j o' a e1 e2=>?_,fun j o' e1=>?_⟩
 rotate_right
 . by_cases hj:j=i
   . subst hj;have hl:j<h.length:=by rw [r.len];exact (Ob.mp hp).1
     rw [Ol hl] at e1;cases e1;exact dk
   . rw [Oc (Ne.symm hj)] at e1;exact r.ks j o' e1
 by_cases hj:j=i
 . subst hj;rw [hp] at e2;cases e2;have hl:j<h.length:=by rw [r.len];exact (Ob.mp hp).1
   rw [Ol hl] at e1;cases e1;exact n
 . rw [Oc (Ne.symm hj)] at e1;refine (r.ob j o' a e1 e2).mono r (Gr.write hm nf) (Zh fun z=>hj ?_);subst z;exact ZqT r.nd e2 hp
end
end IV
end
section
set_option tactic.hygienic false
namespace IV
open PySem PySem.Spec PyProof.Rows L2
noncomputable def Fin(Y:Yx)(rel:Hp->List Addr->α->β->Prop)(H:Hp)(B:List Addr)(r:R α)(Q:β->Hp->Prop)(E:XK):Prop:=match r with
 | .bad=>False
 | .ok a h'=>∀ b H' μ',Gr H B H' μ'->RH Y H' μ' h'->rel H' μ' a b->Q b H'
 | .exc c h'=>∀ H' μ' C,Gr H B H' μ'->RH Y H' μ' h'->Y.mg c=some (.ref C)->E (.ref C) none H'
section
variable {Y:Yx}{α β α' β':Type}{rel:Hp->List Addr->α->β->Prop}{rel':Hp->List Addr->α'->β'->Prop}{H H1:Hp}{B μ1:List Addr}{E:XK}
theorem Fin.mono(g:Gr H B H1 μ1)(f:Fin Y rel H B r Q E):Fin Y rel H1 μ1 r Q E:=by
 cases r with
 | bad=>exact f
 | ok a h=>exact fun b H' μ' g'=>f b H' μ' (g.trans g')
 | exc c h=>exact fun H' μ' C g'=>f H' μ' C (g.trans g')
theorem Fin.bind(f:Fin Y rel' H B (r.bind k) Q E)
   (hk:∀ a h1 b H1 μ1,r=.ok a h1->Gr H B H1 μ1->RH Y H1 μ1 h1->rel H1 μ1 a b->Fin Y rel' H1 μ1 (k a h1) Q E->Q1 b H1):Fin Y rel H B r Q1 E:=by
 cases r with
 | bad=>exact f
 | ok a h=>exact fun b H' μ' g' rh rl=>hk a h b H' μ' rfl g' rh rl (Fin.mono g' f)
 | exc c h=>exact f
theorem Fin.ok(f:Fin Y rel H B (.ok a h) Q E)(rh:RH Y H B h)(r:rel H B a b):Q b H:=f b H B Gr.refl rh r
theorem Fin.at(f:Fin Y rel H B (.ok a h) Q E)(g:Gr H B H1 μ1)(rh:RH Y H1 μ1 h)(r:rel H1 μ1 a b):Q b H1:=f b H1 μ1 g rh r
theorem Fin.ofO(f:Fin Y rel H B (R.ofO o h) Q E):∃ a,o=some a/\Fin Y rel H B (.ok a h) Q E:=by
 cases o with
 | none=>exact f.elim
 | some a=>exact ⟨a,rfl,f⟩
theorem Fin.iff[Decidable c](f:Fin Y rel H B (if c then r else .bad) Q E):c/\Fin Y rel H B r Q E:=by
 by_cases h:c
 . rw [if_pos h] at f;exact ⟨h,f⟩
 . rw [if_neg h] at f;exact f.elim
theorem Fin.new(f:Fin Y (RD Y) H B (Zbs o h) Q E)(rh:RH Y H B h)(hp:H p=none)(n:RO Y (upd H p u) (B++[p]) p o)(dk:DOk o:=by trivial):Q (.ref p) (upd H p u) :=
 f.at (Gr.lay hp) (rh.lay hp n dk) (.ref (by rw [rh.len];simp))
theorem Fin.tup(f:Fin Y (RD Y) H B (.ok (.tup ds) h) Q E)(rh:RH Y H B h)(hp:H p=none)(r:RDs Y H B ds vs):Q (.ref p) (upd H p (.tup vs)) :=
 f.at (Gr.lay0 hp) (rh.lay0 hp) (.tup (.inl (.inl Zg)) (r.mono rh (Gr.lay0 hp)))
theorem Fin.wrote(f:Fin Y rel H B (.ok a (h.set i o)) Q E)(rh:RH Y H B h)(hp:B[i]? = some p)(n:RO Y (upd H p u) B p o)(r:rel (upd H p u) B a b)(nf:NF (H p))(dk:DOk o:=by trivial):Q b (upd H p u) :=
 f.at (Gr.write (O1 hp) nf) (rh.write hp n nf dk) r
end
section
variable {Y:Yx}{H:Hp}{B:List Addr}{h:Hd}
theorem RD.lst(rh:RH Y H B h)(r:RD Y H B (.ref i) v)(e:h[i]? = some (.lst xs)):∃ a vs,v=.ref a/\B[i]? = some a/\H a=some (.lst vs)/\RDs Y H B xs vs:=by
 cases r with
 | ref q =>
   obtain ⟨vs,h1,h2⟩:=rh.ob i _ _ e q;exact ⟨_,vs,rfl,q,h1,h2⟩
theorem RD.dic(rh:RH Y H B h)(r:RD Y H B (.ref i) v)(e:h[i]? = some (.dic xs)):∃ a vs,v=.ref a/\B[i]? = some a/\H a=some (.dK vs)/\RKs Y H B xs vs:=by
 cases r with
 | ref q =>
   obtain ⟨vs,h1,h2⟩:=rh.ob i _ _ e q;exact ⟨_,vs,rfl,q,h1,h2⟩
theorem RD.lstOf(rh:RH Y H B h)(r:RD Y H B d v)(e:lstOf d h=some xs):∃ a vs,v=.ref a/\SqL Y.K H a vs/\RDs Y H B xs vs:=by
 cases d with
 | ref i =>
   unfold IV.lstOf at e;simp only at e;split at e
   . cases e;rename_i q;obtain ⟨a,vs,h1,h2,h3,h4⟩:=r.lst rh q;exact ⟨a,vs,h1,.of h3,h4⟩
   . cases e
 | ro ys =>
   cases e;cases r with
   | ro q s=>exact ⟨_,_,rfl,q.sq,s⟩
 | _=>cases e
theorem RD.seqOf(rh:RH Y H B h)(r:RD Y H B d v)(e:seqOf d h=some xs):∃ a vs,v=.ref a/\(SqL Y.K H a vs\/SqT Y.K H a vs)/\RDs Y H B xs vs:=by
 by_cases ht:∃ ys,d=.tup ys
 . obtain ⟨ys,rfl⟩:=ht;cases e;cases r with
   | tup q s=>exact ⟨_,_,rfl,.inr q,s⟩
 . have e':IV.lstOf d h=some xs:=by
     cases d with
     | tup ys=>exact absurd ⟨ys,rfl⟩ ht
     | _=>exact e
   obtain ⟨a,vs,h1,h2,h3⟩:=r.lstOf rh e';exact ⟨a,vs,h1,.inl h2,h3⟩
theorem RD.int_inv(r:RD Y H B (.int i) v):v=.int i:=by cases r;rfl
theorem RD.str_inv(r:RD Y H B (.str i) v):v=.str i/\PyData.strOk i=true:=by cases r with|str x ok=>exact ⟨rfl,ok⟩
theorem RD.tup_inv(r:RD Y H B (.tup ds) v):∃ a vs,v=.ref a/\SqT Y.K H a vs/\RDs Y H B ds vs:=by cases r with|tup q s=>exact ⟨_,_,rfl,q,s⟩
theorem Zfy(hx:PyData.strOk x=true)(hy:PyData.strOk y=true):PyData.strOk (x++y)=true:=by
 show (x.cps++y.cps).all _=true;rw [Array.all_append];unfold PyData.strOk at hx hy;rw [hx,hy];rfl
theorem ZhW(hx:PyData.strOk x=true)(n:Nat):PyData.strOk (Zb5 x n)=true:=by
 have gen:∀ (n:Nat) (a:Array Nat),a.all (·<0x110000)=true->((List.replicate n x.cps).foldl (·++·) a).all (·<0x110000)=true:=by
   intro n;induction n with
   | zero=>intro a h;exact h
   | succ n ih =>
     intro a h;rw [List.replicate_succ,List.foldl_cons];refine ih _ ?_;rw [Array.all_append,h];exact hx
 exact gen n #[] (by simp)
theorem ZlL(hx:PyData.strOk x=true)(h:c∈x.cps.toList):PyData.strOk ⟨#[c]⟩=true:=by
 unfold PyData.strOk at hx ⊢;rw [Array.all_eq_true'] at hx;have:=hx c (by simpa using h);simpa using this
theorem Zn7(h:atI xs i=some x):x∈xs:=by
 unfold atI at h;cases q:ixN xs.length i with
 | none=>rw [q] at h;cases h
 | some j =>
   rw [q] at h;exact O1 (i:=j) h
end
section
variable {X:Cx}{Y:Yx}{E:XK}
noncomputable def rB(Y:Yx)(E:XK)(f:D->D->Hd->R D):R2:=fun x y H Q=>∃ dx dy h B,RH Y H B h/\RD Y H B dx x/\RD Y H B dy y/\Fin Y (RD Y) H B (f dx dy h) Q E
theorem Fin.int2(f:Fin Y (RD Y) H B (int2 x y k) Q E):∃ i j,x=.int i/\y=.int j/\Fin Y (RD Y) H B (k i j) Q E:=by
 cases x with
 | int i =>
   cases y with
   | int j=>exact ⟨i,j,rfl,rfl,f⟩
   | _=>exact f.elim
 | _=>exact f.elim
theorem Zqt(hY:Y.K=X.K)(op:Operator):OpR X (binaryOp op) (rB Y E (opB op)):=by
 intro pins s Z H x y v u Q I rx ry hh;obtain ⟨dx,dy,h,B,rh,r1,r2,f⟩:=hh;cases op with
 | Add =>
   have f:Fin Y (RD Y) H B (ZmO dx dy h) Q E:=f;cases dx with
   | int i =>
     cases dy with
     | int j =>
       cases r1;cases r2;exact Zqr pins s Z H _ _ v u Q I rx ry ⟨_,_,rfl,rfl,f.ok rh (.int _)⟩
     | _=>exact f.elim
   | str i =>
     cases dy with
     | str j =>
       obtain ⟨hz,f⟩:=Fin.iff f;cases r1 with|str _ o1 =>
       cases r2 with|str _ o2 =>
       exact ZhT pins s Z H _ _ v u Q I rx ry ⟨_,_,rfl,rfl,hz,f.ok rh (.str _ (Zfy o1 o2))⟩
     | _=>exact f.elim
   | tup xs =>
     cases dy with
     | tup ys =>
       obtain ⟨hz,f⟩:=Fin.iff f;obtain ⟨a,vs,rfl,t1,s1⟩:=r1.tup_inv;obtain ⟨b,ws,rfl,t2,s2⟩:=r2.tup_inv;rw [s1.length,s2.length] at hz;by_cases h0:vs=[]
       . subst h0;cases s1;exact ZnR pins s Z H _ _ v u Q I rx ry ⟨a,b,ws,rfl,rfl,hY ▸ t1,hY ▸ t2,f.ok rh (.tup t2 s2)⟩
       . refine ZnQ pins s Z H _ _ v u Q I rx ry ⟨a,b,vs,ws,rfl,rfl,hY ▸ t1,hY ▸ t2,h0,hz,fun e=>?_,fun e p hp=>f.tup rh hp (s1.append s2)⟩;subst e;cases s2;rw [List.append_nil] at f;exact f.ok rh (.tup t1 s1)
     | _=>exact f.elim
   | ref i =>
     cases dy with
     | ref j =>
       unfold ZmO at f;simp only at f;split at f
       . rename_i e1;split at f
         . rename_i e2;obtain ⟨hz,f⟩:=f.iff;obtain ⟨a,vs,rfl,_,h1,s1⟩:=r1.lst rh e1;obtain ⟨b,ws,rfl,_,h2,s2⟩:=r2.lst rh e2;rw [s1.length,s2.length] at hz;exact Zqq pins s Z H _ _ v u Q I rx ry ⟨a,b,vs,ws,rfl,rfl,h1,h2,hz,fun p hp=>f.new rh hp ⟨_,Zg,(s1.append s2).mono rh (Gr.lay hp)⟩⟩
         . exact f.elim
       . exact f.elim
     | _=>exact f.elim
   | _=>exact f.elim
 | Sub =>
   obtain ⟨i,j,rfl,rfl,f⟩:=Fin.int2 f;cases r1;cases r2;exact Zql pins s Z H _ _ v u Q I rx ry ⟨_,_,rfl,rfl,f.ok rh (.int _)⟩
 | Mult =>
   have f:Fin Y (RD Y) H B (ZsO dx dy h) Q E:=f;cases dx with
   | str z =>
     cases dy with
     | int n =>
       obtain ⟨hz,f⟩:=Fin.iff f;cases r1 with|str _ o1 =>
       cases r2;exact ZnO pins s Z H _ _ v u Q I rx ry ⟨_,_,rfl,rfl,hz.1,hz.2.1,hz.2.2,f.ok rh (.str _ (ZhW o1 _))⟩
     | _=>exact f.elim
   | int i =>
     obtain ⟨i,j,e1,rfl,f⟩:=Fin.int2 (show Fin Y (RD Y) H B (IV.int2 (.int i) dy fun i j=>if i.natAbs<2 ^ 2000/\j.natAbs<2 ^ 2000 then .ok (.int (i * j)) h else .bad) Q E from f);cases e1;obtain ⟨hz,f⟩:=f.iff;cases r1;cases r2;exact Zkl pins s Z H _ _ v u Q I rx ry ⟨_,_,rfl,rfl,hz,f.ok rh (.int _)⟩
   | _=>exact f.elim
 | Mod =>
   obtain ⟨i,j,rfl,rfl,f⟩:=Fin.int2 f;obtain ⟨hz,f⟩:=f.iff;cases r1;cases r2;exact Zqn pins s Z H _ _ v u Q I rx ry ⟨_,_,rfl,rfl,hz,f.ok rh (.int _)⟩
 | FloorDiv =>
   obtain ⟨i,j,rfl,rfl,f⟩:=Fin.int2 f;obtain ⟨hz,f⟩:=f.iff;cases r1;cases r2;exact ZnP pins s Z H _ _ v u Q I rx ry ⟨_,_,rfl,rfl,hz,f.ok rh (.int _)⟩
 | Pow =>
   obtain ⟨i,j,rfl,rfl,f⟩:=Fin.int2 f;obtain ⟨hz,f⟩:=f.iff;cases r1;cases r2;exact Zqm pins s Z H _ _ v u Q I rx ry ⟨_,_,rfl,rfl,hz,f.ok rh (.int _)⟩
 | _=>exact f.elim
end
end IV
end
section
namespace IV
open PySem PySem.Spec PyProof.Rows L2
structure Gk(X:Cx)(Y:Yx)(T:Tb):Prop where
 K:Y.K=X.K
 mg:Y.mg=X.mg
 gd:∀ x kvs,T.GD x=some kvs->∃ a kvs',X.mg x=some (.ref a)/\DkK X.prog X.w X.K a kvs'/\∀ H B,RKs Y H B kvs kvs'
 g:∀ x d,T.G x=some d->∃ v u,X.mg x=some u/\RelV v u/\∀ H B,RD Y H B d v
 bare:Zen X.K=true
section
variable {X:Cx}{Y:Yx}{E:XK}{T:Tb}{H:Hp}{B:List Addr}{h:Hd}
theorem RD.dicOf(G:Gk X Y T)(rh:RH Y H B h)(r:RD Y H B d v)(e:dicOf T.GD d h=some kvs):∃ a kvs',v=.ref a/\Dk X.prog X.w X.K H a kvs'/\RKs Y H B kvs kvs':=by
 cases d with
 | ref i =>
   unfold IV.dicOf at e;simp only at e;split at e
   . cases e;rename_i q;obtain ⟨a,vs,h1,_,h3,h4⟩:=r.dic rh q;exact ⟨a,vs,h1,.inl (.inl h3),h4⟩
   . cases e;rename_i q;cases r with
     | ref qm =>
       obtain ⟨o,vs,h1,h2⟩:=rh.ob i _ _ q qm;exact ⟨_,vs,rfl,.inl (.inr ⟨o,h1⟩),h2⟩
   . cases e
 | kd x =>
   obtain ⟨a,kvs',h1,h2,h3⟩:=G.gd x kvs e;cases r with
   | kd q =>
     rw [G.mg,h1] at q;cases q;exact ⟨a,kvs',rfl,.inr h2,h3 H B⟩
 | _=>cases e
theorem Zl4(r:RD Y H B d v)(e:keyOf d=some k):∀ x,k=.inr x->PyData.strOk x=true:=by
 cases d with
 | int i=>cases e;intro x z;cases z
 | str i =>
   cases e;intro x z;cases z;cases r with
   | str _ ok=>exact ok
 | _=>cases e
theorem ZeH(h:ZaH kvs)(hk:∀ x,k=.inr x->PyData.strOk x=true):ZaH (putD kvs k c):=by
 intro p hp x e;unfold putD at hp;split at hp
 . obtain ⟨q,hq,rfl⟩:=List.mem_map.mp hp;refine h q hq x ?_;split at e<;>exact e
 . rcases OD.mp hp with hp|hp
   . exact h p hp x e
   . rw [Ox.mp hp] at e;exact hk x e
theorem ZcF(r:RD Y H B d v)(e:keyOf d=some k):v=kV k:=by
 cases d with
 | int i=>cases e;cases r;rfl
 | str i=>cases e;cases r;rfl
 | _=>cases e
theorem RKs.valV_rel(s:RKs Y H B ds vs)(k:Key):(ZM ds k=none/\Zc9 vs k=none)\/∃ d v,ZM ds k=some d/\Zc9 vs k=some v/\RD Y H B d v:=by
 unfold ZM Zc9;rcases s.val k with ⟨h1,h2⟩|⟨d,v,h1,h2,h3⟩
 . exact .inl ⟨by rw [h1];rfl,by rw [h2];rfl⟩
 . exact .inr ⟨d,v,by rw [h1];rfl,by rw [h2];rfl,h3⟩
theorem RKs.any_rel(k:Key):∀ {ds:List (Key×D)}{vs:List (Key×V)},RKs Y H B ds vs->(ds.any fun kv=>decide (kv.1=k))=(vs.any fun kv=>decide (kv.1=k))
 | _,_,.nil=>rfl
 | _,_,.cons a s=>by rw [List.any_cons,List.any_cons,s.any_rel k]
theorem RKs.map_rel(k:Key)(r:RD Y H B d v):∀ {ds:List (Key×D)}{vs:List (Key×V)},RKs Y H B ds vs->RKs Y H B (ds.map fun kv=>if kv.1=k then (kv.1,d) else kv) (vs.map fun kv=>if kv.1=k then (kv.1,v) else kv)
 | _,_,.nil=>.nil
 | _,_,.cons (k:=k') a s=>by
   rw [Op,Op];by_cases e:k'=k
   . rw [if_pos e,if_pos e];exact .cons r (s.map_rel k r)
   . rw [if_neg e,if_neg e];exact .cons a (s.map_rel k r)
theorem RKs.append:∀ {ds es:List (κ×D)}{vs ws:List (κ×V)},RKs Y H B ds vs->RKs Y H B es ws->RKs Y H B (ds++es) (vs++ws)
 | _,_,_,_,.nil,s=>s
 | _,_,_,_,.cons a r,s=>.cons a (r.append s)
theorem RKs.put(s:RKs Y H B ds vs)(k:Key)(r:RD Y H B d v):RKs Y H B (putD ds k d) (putK vs k v):=by
 unfold putD putK;rw [s.any_rel k];split
 . exact s.map_rel k r
 . exact s.append (.cons r .nil)
mutual
theorem RD.dp(rh:RH Y H B h)(rd:Nat->Option PyData)(hr:∀ i p a,rd i=some p->B[i]? = some a->Dp Y.K H (.ref a) p):∀ {d:D}{v:V}{p:PyData},RD Y H B d v->D.py rd d=some p->Dp Y.K H v p
 | _,_,_,.non,e=>by cases e;exact .non
 | _,_,_,.bl b,e=>by cases e;exact .bl b
 | _,_,_,.int i,e=>by cases e;exact .int i
 | _,_,_,.str x ok,e=>by cases e;exact .str x ok
 | _,_,_,.tup t s,e=>by
   rw [D.py] at e;obtain ⟨ps,e1,rfl⟩:=Oo.mp e;exact .tup t (RDs.dps rh rd hr s e1)
 | _,_,_,.ref q,e=>hr _ _ _ e q
 | _,_,_,.ty n,e=>by cases e
 | _,_,_,.ro t s,e=>by
   rw [D.py] at e;obtain ⟨ps,e1,rfl⟩:=Oo.mp e;exact .lst t.sq (RDs.dps rh rd hr s e1)
 | _,_,_,.kd q,e=>by cases e
theorem RDs.dps(rh:RH Y H B h)(rd:Nat->Option PyData)(hr:∀ i p a,rd i=some p->B[i]? = some a->Dp Y.K H (.ref a) p):∀ {d:List D}{v:List V}{p:List PyData},RDs Y H B d v->D.pys rd d=some p->Dps Y.K H v p
 | _,_,_,.nil,e=>by cases e;exact .nil
 | _,_,_,.cons a s,e=>by
   rw [D.pys] at e;obtain ⟨q,e1,e2⟩:=Option.bind_eq_some_iff.mp e;obtain ⟨qs,e3,rfl⟩:=Oo.mp e2;exact .cons (RD.dp rh rd hr a e1) (RDs.dps rh rd hr s e3)
end
theorem Zi3(rh:RH Y H B h):∀ (n i:Nat) (p:PyData) (a:Addr),ZfV h n i=some p->B[i]? = some a->Dp Y.K H (.ref a) p
 | 0,i,p,a,e,q=>by cases e
 | n+1,i,p,a,e,q=>by
   rw [ZfV] at e;split at e
   . rename_i xs he;obtain ⟨ps,e1,rfl⟩:=Oo.mp e;obtain ⟨vs,z,s⟩:=rh.ob i _ a he q;exact .lst (.of z) (RDs.dps rh _ (Zi3 rh n) s e1)
   . cases e
theorem Zeg(rh:RH Y H B h)(r:RD Y H B d v)(e:Zf1 h d=some p):Dp Y.K H v p:=r.dp rh _ (Zi3 rh 4) e
theorem ZeT(r:RD Y H B d v)(f:d.flat=true):ZcR v=true:=by cases r<;>first|rfl|cases f
theorem ZdN:∀ {ds:List D}{vs:List V},RDs Y H B ds vs->ds.all D.flat=true->vs.all ZcR=true
 | _,_,.nil,_=>rfl
 | _,_,.cons a s,f=>by
   rw [List.all_cons,Oa] at f;rw [List.all_cons,ZeT a f.1,ZdN s f.2];rfl
theorem Zrf(r:RD Y H B d v)(q:RD Y H B e w)(f:d.flat=true)(g:e.flat=true):eqF d e=eqV v w:=by
 cases r<;>cases q<;>first|rfl|exact absurd f (by simp [D.flat])|exact absurd g (by simp [D.flat])
theorem any_rel(q:RD Y H B e w)(g:e.flat=true):∀ {ds:List D}{vs:List V},RDs Y H B ds vs->ds.all D.flat=true->(ds.any fun z=>eqF z e)=vs.any fun y=>eqV y w
 | _,_,.nil,_=>rfl
 | _,_,.cons a s,f=>by
   rw [List.all_cons,Oa] at f;rw [List.any_cons,List.any_cons,Zrf a q f.1 g,any_rel q g s f.2]
theorem ZnY(hr:Room k X.A)(h60:60<=k)(hY:Y.K=X.K):OpR X (compareOp .Eq) (rB Y E (Zbr false)):=by
 intro pins s Z H x y v u Q I rx ry hh;obtain ⟨dx,dy,h,B,rh,r1,r2,f⟩:=hh;unfold Zbr at f;split at f
 . rename_i e1 e2;obtain ⟨hz,f⟩:=f.iff;have d1:=Zeg rh r1 e1;have d2:=Zeg rh r2 e2;rw [hY] at d1 d2;obtain ⟨as,q1⟩:=I.reads d1 rx;obtain ⟨bs,q2⟩:=I.reads d2 ry;have:=hr.un;exact SeqAt.compareEq_reads q1 q2 d1.lay d2.lay (by lia) ⟨.bl _,H,I,rfl,f.ok rh (.bl _)⟩
 . exact f.elim
theorem ZnT(hr:Room k X.A)(h60:60<=k)(hY:Y.K=X.K):OpR X (compareOp .NotEq) (rB Y E (Zbr true)):=by
 intro pins s Z H x y v u Q I rx ry hh;obtain ⟨dx,dy,h,B,rh,r1,r2,f⟩:=hh;unfold Zbr at f;split at f
 . rename_i e1 e2;obtain ⟨hz,f⟩:=f.iff;have d1:=Zeg rh r1 e1;have d2:=Zeg rh r2 e2;rw [hY] at d1 d2;obtain ⟨as,q1⟩:=I.reads d1 rx;obtain ⟨bs,q2⟩:=I.reads d2 ry;have:=hr.un;exact SeqAt.compareNe_reads q1 q2 d1.lay d2.lay (by lia) ⟨.bl _,H,I,rfl,f.ok rh (.bl _)⟩
 . exact f.elim
theorem Zeh(ho:OpR X (compareOp op) (rI0 fun i j=>.bl (g i j))):OpR X (compareOp op) (rB Y E (Zf3 g)):=by
 intro pins s Z H x y v u Q I rx ry hh;obtain ⟨dx,dy,h,B,rh,r1,r2,f⟩:=hh;unfold Zf3 at f;split at f
 . cases r1;cases r2;exact ho pins s Z H _ _ v u Q I rx ry ⟨_,_,rfl,rfl,f.ok rh (.bl _)⟩
 . exact f.elim
theorem Zjc(r:RD Y H B d v):decide (d=.non)=decide (v=.non):=by
 cases r<;>simp
theorem ZnW:OpR X (compareOp .Is) (rB Y E (opN false)):=by
 intro pins s Z H x y v u Q I rx ry hh;obtain ⟨dx,dy,h,B,rh,r1,r2,f⟩:=hh;unfold opN at f;split at f
 . cases r2;have z:=Zjc r1;simp only [OG,if_false,z] at f;exact Zqo pins s Z H _ _ v u Q I rx ry ⟨rfl,f.ok rh (.bl _)⟩
 . exact f.elim
theorem Zkn:OpR X (compareOp .IsNot) (rB Y E (opN true)):=by
 intro pins s Z H x y v u Q I rx ry hh;obtain ⟨dx,dy,h,B,rh,r1,r2,f⟩:=hh;unfold opN at f;split at f
 . cases r2;have z:=Zjc r1;simp only [if_true,z] at f;exact ZnN pins s Z H _ _ v u Q I rx ry ⟨rfl,f.ok rh (.bl _)⟩
 . exact f.elim
theorem ZnX(G:Gk X Y T):OpR X (compareOp .In) (rB Y E (ZbR T.GD false)):=by
 intro pins s Z H x y v u Q I rx ry hh;obtain ⟨dx,dy,h,B,rh,r1,r2,f⟩:=hh;unfold ZbR at f;split at f
 . rename_i xs e1;obtain ⟨hz,f⟩:=f.iff;rw [Oa] at hz;obtain ⟨a,vs,rfl,hs,rs⟩:=r2.seqOf rh e1;have q:=f.ok rh (.bl _);simp only [OG,if_false,any_rel r1 hz.1 rs hz.2] at q;exact Zkm pins s Z H _ _ v u Q I rx ry ⟨a,vs,rfl,G.K ▸ hs,ZeT r1 hz.1,ZdN rs hz.2,q⟩
 . split at f
   . rename_i kvs k e1 e2;obtain ⟨a,kvs',rfl,hd,rk⟩:=r2.dicOf G rh e1;have q:=f.ok rh (.bl _);have z:(ZM kvs k).isSome=(Zc9 kvs' k).isSome:=by
       rcases rk.valV_rel k with ⟨h1,h2⟩|⟨d,v,h1,h2,_⟩<;>rw [h1,h2]<;>rfl
     rw [z] at q;exact Zqp pins s Z H _ _ v u Q I rx ry ⟨a,kvs',k,rfl,ZcF r1 e2,hd,q⟩
   . exact f.elim
theorem ZhU(G:Gk X Y T):OpR X (compareOp .NotIn) (rB Y E (ZbR T.GD true)):=by
 intro pins s Z H x y v u Q I rx ry hh;obtain ⟨dx,dy,h,B,rh,r1,r2,f⟩:=hh;unfold ZbR at f;split at f
 . rename_i xs e1;obtain ⟨hz,f⟩:=f.iff;rw [Oa] at hz;obtain ⟨a,vs,rfl,hs,rs⟩:=r2.seqOf rh e1;have q:=f.ok rh (.bl _);simp only [if_true,any_rel r1 hz.1 rs hz.2] at q;exact Zf2 pins s Z H _ _ v u Q I rx ry ⟨a,vs,rfl,G.K ▸ hs,ZeT r1 hz.1,ZdN rs hz.2,q⟩
 . split at f
   . rename_i kvs k e1 e2;obtain ⟨a,kvs',rfl,hd,rk⟩:=r2.dicOf G rh e1;have q:=f.ok rh (.bl _);have z:(ZM kvs k).isSome=(Zc9 kvs' k).isSome:=by
       rcases rk.valV_rel k with ⟨h1,h2⟩|⟨d,v,h1,h2,_⟩<;>rw [h1,h2]<;>rfl
     rw [z] at q;exact Zkk pins s Z H _ _ v u Q I rx ry ⟨a,kvs',k,rfl,ZcF r1 e2,hd,q⟩
   . exact f.elim
theorem ZlG(hr:Room k X.A)(h60:60<=k)(G:Gk X Y T)(op:CmpOp):OpR X (compareOp op) (rB Y E (opC T.GD op)):=by
 cases op with
 | Eq=>exact ZnY hr h60 G.K
 | NotEq=>exact ZnT hr h60 G.K
 | Lt=>exact Zeh ZsB
 | LtE=>exact Zeh ZsC
 | Gt=>exact Zeh ZsD
 | GtE=>exact Zeh ZsE
 | Is=>exact ZnW
 | IsNot=>exact Zkn
 | In=>exact ZnX G
 | NotIn=>exact ZhU G
theorem ZnU(G:Gk X Y T):IxR X (rB Y E (Zag T.GD)):=by
 intro value slice pins s Z H x y v u Q I rx ry hh hs;obtain ⟨dx,dy,h,B,rh,r1,r2,f⟩:=hh;have dict:∀ (kvs:List (Key×D)) (k:Key),dicOf T.GD dx h=some kvs->y=kV k->Fin Y (RD Y) H B (R.ofO (ZM kvs k) h) Q E->wpAny (model X.prog X.w) X.A (subscriptTail value slice v u) (EP X pins Z Q) X.xe s:=by
   intro kvs k e1 ey f;obtain ⟨d,e2,f⟩:=f.ofO;obtain ⟨a,kvs',rfl,hd,rk⟩:=r1.dicOf G rh e1;rcases rk.valV_rel k with ⟨h1,h2⟩|⟨d',w,h1,h2,h3⟩
   . rw [h1] at e2;cases e2
   . rw [h1] at e2;cases e2;exact Zoh value slice pins s Z H _ _ v u Q I rx ry ⟨a,kvs',k,w,rfl,ey,hd,h2,f.ok rh h3⟩ hs
 unfold Zag at f;split at f
 . rename_i i;cases r2;split at f
   . rename_i xs e1;obtain ⟨d,e2,f⟩:=f.ofO;obtain ⟨a,vs,rfl,hq,rs⟩:=r1.seqOf rh e1;obtain ⟨w,e3,rw'⟩:=rs.atI e2;rcases hq with hq|hq
     . exact Zog value slice pins s Z H _ _ v u Q I rx ry ⟨a,vs,i,w,rfl,rfl,G.K ▸ hq,e3,f.ok rh rw'⟩ hs
     . exact ZqR value slice pins s Z H _ _ v u Q I rx ry ⟨a,vs,i,w,rfl,rfl,G.K ▸ hq,e3,f.ok rh rw'⟩ hs
   . split at f
     . obtain ⟨hz,f⟩:=f.iff;obtain ⟨d,e2,f⟩:=f.ofO;obtain ⟨c,e3,rfl⟩:=Oo.mp e2;obtain ⟨rfl,ok⟩:=r1.str_inv;exact ZqS value slice pins s Z H _ _ v u Q I rx ry ⟨_,i,c,rfl,rfl,hz,e3,f.ok rh (.str _ (ZlL ok (Zn7 e3)))⟩ hs
     . split at f
       . rename_i kvs e1;exact dict kvs (.inl i) e1 rfl f
       . exact f.elim
 . rename_i z;obtain ⟨rfl,ok⟩:=r2.str_inv;split at f
   . rename_i kvs e1;exact dict kvs (.inr z) e1 rfl f
   . exact f.elim
 . exact f.elim
theorem ZlK(hx:PyData.strOk x=true)(h:∀ c∈y.cps.toList,c∈x.cps.toList):PyData.strOk y=true:=by
 unfold PyData.strOk at hx ⊢;rw [Array.all_eq_true'] at hx ⊢;intro c hc;exact hx c (by simpa using h c (by simpa using hc))
theorem Zm2(hY:Y.K=X.K)(rh:RH Y H B h)(r:RD Y H B d v)(e:ZcZ T.GD d h=some b):Zrs X.K v H b:=by
 cases d with
 | non=>cases r;cases e;rfl
 | bl c=>cases r;cases e;rfl
 | int c=>cases r;cases e;rfl
 | str c =>
   cases r;unfold ZcZ at e;simp only at e;split at e
   . rename_i hz;cases e;refine ⟨hz,?_⟩;by_cases h0:c.length=0
     . simp [h0]
     . have h1:((c.length:Int) != 0)=true:=by
         simp
         lia
       rw [h1];simp [h0]
   . cases e
 | tup xs =>
   obtain ⟨a,vs,rfl,t,s⟩:=r.tup_inv;cases e;exact .inr (.inl ⟨vs,hY ▸ t,by rw [s.isEmpty]⟩)
 | ref i =>
   unfold ZcZ at e;simp only at e;split at e
   . rename_i q;cases e;obtain ⟨a,vs,rfl,_,h3,s⟩:=r.lst rh q;exact .inl ⟨vs,.of h3,by rw [s.isEmpty]⟩
   . rename_i q;cases e;obtain ⟨a,vs,rfl,_,h3,s⟩:=r.dic rh q;exact .inr (.inr ⟨vs,h3,by cases s<;>rfl⟩)
   . cases e
 | ro xs =>
   cases e;cases r with
   | ro q s=>exact .inl ⟨_,hY ▸ q.sq,by rw [s.isEmpty]⟩
 | ty n=>cases e
 | kd x=>cases e
end
end IV
end
section
namespace IV
open PySem PySem.Spec PyProof.Rows L2
section
variable {X:Cx}{Y:Yx}{E:XK}{T:Tb}{H:Hp}{B:List Addr}{h:Hd}
noncomputable def rS(Y:Yx)(E:XK):V->Option Int->Option Int->Hp->VK->Prop:=fun x l u H Q=>∃ d h B,RH Y H B h/\RD Y H B d x/\Fin Y (RD Y) H B (Zfk d l u h) Q E
theorem Zet(y:Str)(l u:Option Int):∀ c∈(StrLaws.sliceText y l u).cps.toList,c∈y.cps.toList:=by
 intro c hc;unfold StrLaws.sliceText at hc;split at hc
 . exact hc
 . simp only [List.mem_filterMap] at hc;obtain ⟨i,_,hi⟩:=hc;have:=Array.mem_of_getElem? hi;simpa using this
theorem ZkC{xs:List D}{lo hi:Option Int}(h:HT.sIx xs.length 0 lo=0/\HT.sIx xs.length xs.length hi=xs.length):cutD xs lo hi=xs:=by
 unfold cutD;rw [h.1,h.2];simp
theorem ZnS(hY:Y.K=X.K):SlR X (rS Y E):=by
 intro pins s Z H x v vl vu lo hi sl Q I rx hs pl pu hh;obtain ⟨d,h,B,rh,r,f⟩:=hh;unfold Zfk at f;split at f
 . rename_i xs;obtain ⟨a,vs,rfl,t,rs⟩:=r.tup_inv;by_cases hw:HT.sIx vs.length 0 lo=0/\HT.sIx vs.length vs.length hi=vs.length
   . rw [ZkC (by rw [rs.length];exact hw)] at f;exact Zk2 pins s Z H _ v vl vu lo hi sl Q I rx hs pl pu ⟨a,vs,rfl,hY ▸ t,hw,f.ok rh (.tup t rs)⟩
   . exact ZpL pins s Z H _ v vl vu lo hi sl Q I rx hs pl pu ⟨a,vs,rfl,hY ▸ t,hw,fun p hp=>f.tup rh hp (rs.cut lo hi)⟩
 . obtain ⟨hz,f⟩:=f.iff;obtain ⟨rfl,ok⟩:=r.str_inv;exact ZpM pins s Z H _ v vl vu lo hi sl Q I rx hs pl pu ⟨_,rfl,hz,f.ok rh (.str _ (ZlK ok (Zet _ _ _)))⟩
 . split at f
   . rename_i xs e1;obtain ⟨a,vs,rfl,hl,rs⟩:=r.lstOf rh e1;exact Zna pins s Z H _ v vl vu lo hi sl Q I rx hs pl pu ⟨a,vs,rfl,hY ▸ hl,fun p hp=>f.new rh hp ⟨_,Zg,(rs.cut lo hi).mono rh (Gr.lay hp)⟩⟩
   . exact f.elim
noncomputable def rF(Y:Yx)(E:XK)(f:List D->Hd->R D):List V->Hp->VK->Prop:=fun xs H Q=>∃ ds h B,RH Y H B h/\RDs Y H B ds xs/\Fin Y (RD Y) H B (f ds h) Q E
theorem RDs.one(r:RDs Y H B [d] xs):∃ x,xs=[x]/\RD Y H B d x:=by
 cases r with
 | cons a s=>cases s;exact ⟨_,rfl,a⟩
theorem RDs.two(r:RDs Y H B [d,e] xs):∃ x y,xs=[x,y]/\RD Y H B d x/\RD Y H B e y:=by
 cases r with
 | cons a s=>obtain ⟨y,rfl,b⟩:=s.one;exact ⟨_,_,rfl,a,b⟩
theorem ZoL (hY:Y.K=X.K):ZaK X (.builtin "len") (rF Y E ZhA):=by
 intro pins s Z H xs us Q I r hh;obtain ⟨ds,h,B,rh,rs,f⟩:=hh;unfold ZhA at f;split at f
 . obtain ⟨hz,f⟩:=f.iff;obtain ⟨x,rfl,rd⟩:=rs.one;obtain ⟨rfl,ok⟩:=rd.str_inv;exact Zgu pins s Z H _ us Q I r ⟨_,rfl,hz,f.ok rh (.int _)⟩
 . obtain ⟨e,e1,f⟩:=f.ofO;obtain ⟨zs,e2,rfl⟩:=Oo.mp e1;obtain ⟨x,rfl,rd⟩:=rs.one;obtain ⟨a,vs,rfl,hq,rv⟩:=rd.seqOf rh e2;refine Zgv pins s Z H _ us Q I r ⟨a,vs,rfl,hY ▸ hq,?_⟩;rw [<- rv.length];exact f.ok rh (.int _)
 . exact f.elim
theorem Zoe{K:PySem.W.Frag}{t T:String}{b:Bool}(e:Zh9 t T=some b):PySem.W.kitOne K (.type t) (.type T)=some b:=by
 have all:(["int", "str", "bool", "tuple", "list"].all fun T=>["int", "str", "bool", "tuple", "list", "NoneType"].all fun t=>decide (PySem.W.kitOne [] (.type t) (.type T)=some (t==T || (t == "bool" && T == "int"))))=true:=by decide +kernel
 unfold Zh9 at e;split at e
 . rename_i hm;cases e;rw [OC] at all;have h1:=all T hm.1;rw [OC] at h1;exact Zkv (of_decide_eq_true (h1 t hm.2))
 . cases e
theorem ZrP(hY:Y.K=X.K)(rh:RH Y H B h)(r:RD Y H B d v)(e:ZrQ d h=some t):TyN X.K v H t:=by
 have lst:(IV.lstOf d h).map (fun _ => "list")=some t->TyN X.K v H t:=fun e=>by
   obtain ⟨xs,e1,rfl⟩:=Oo.mp e;obtain ⟨a,vs,rfl,hl,rs⟩:=r.lstOf rh e1;exact .inl ⟨rfl,vs,hY ▸ hl⟩
 cases d with
 | int i=>cases e;cases r;rfl
 | str i=>cases e;cases r;rfl
 | bl i=>cases e;cases r;rfl
 | non=>cases e;cases r;rfl
 | tup xs =>
   cases e;obtain ⟨a,vs,rfl,t,rs⟩:=r.tup_inv;exact .inr ⟨rfl,vs,hY ▸ t⟩
 | ref i=>exact lst e
 | ro xs=>exact lst e
 | ty n=>exact lst e
 | kd x=>exact lst e
theorem ZoM (hY:Y.K=X.K):ZaK X (.builtin "isinstance") (rF Y E Zrp):=by
 intro pins s Z H xs us Q I r hh;obtain ⟨ds,h,B,rh,rs,f⟩:=hh;unfold Zrp at f;split at f
 . obtain ⟨e,e1,f⟩:=f.ofO;obtain ⟨t,e2,e3⟩:=Option.bind_eq_some_iff.mp e1;obtain ⟨b,e4,rfl⟩:=Oo.mp e3;obtain ⟨x,y,rfl,r1,r2⟩:=rs.two;cases r2;exact Zmw pins s Z H _ us Q I r ⟨x,t,_,b,rfl,ZrP hY rh r1 e2,Zoe e4,f.ok rh (.bl _)⟩
 . exact f.elim
theorem ZoI (hY:Y.K=X.K):ZaK X (.type "tuple") (rF Y E ZiG):=by
 intro pins s Z H xs us Q I r hh;obtain ⟨ds,h,B,rh,rs,f⟩:=hh;unfold ZiG at f;split at f
 . obtain ⟨x,rfl,r1⟩:=rs.one;obtain ⟨a,vs,rfl,t,rv⟩:=r1.tup_inv;exact ZcX pins s Z H _ us Q I r ⟨a,vs,rfl,.inr ⟨hY ▸ t,f.ok rh (.tup t rv)⟩⟩
 . obtain ⟨e,e1,f⟩:=f.ofO;obtain ⟨zs,e2,rfl⟩:=Oo.mp e1;obtain ⟨x,rfl,r1⟩:=rs.one;obtain ⟨a,vs,rfl,hl,rv⟩:=r1.lstOf rh e2;exact ZcX pins s Z H _ us Q I r ⟨a,vs,rfl,.inl ⟨hY ▸ hl,fun p hp=>f.tup rh hp rv⟩⟩
 . exact f.elim
theorem ZoN:ZaK X (.type "dict") (rF Y E ZmF):=by
 intro pins s Z H xs us Q I r hh;obtain ⟨ds,h,B,rh,rs,f⟩:=hh;unfold ZmF at f;split at f
 . split at f
   . rename_i i kvs e2;obtain ⟨x,rfl,r1⟩:=rs.one;obtain ⟨a,vs,rfl,_,h3,h4⟩:=r1.dic rh e2;obtain ⟨u,rfl,ru⟩:=vals1 r;cases ru;exact Zmt I (.inl h3) fun p s' hp I'=>⟨.ref p,_,I',rfl,f.new rh hp ⟨_,Zg,h4.mono rh (Gr.lay hp)⟩ (rh.ks _ _ e2)⟩
   . exact f.elim
 . exact f.elim
theorem ZeM:∀ {ds:List D}{vs:List V}{ns:List Int},RDs Y H B ds vs->intsOf ds=some ns->vs=ns.map V.int
 | _,_,_,.nil,e=>by cases e;rfl
 | _,_,_,.cons (d:=d) a s,e=>by
   cases d with
   | int i =>
     rw [intsOf] at e;obtain ⟨z,e1,rfl⟩:=Oo.mp e;cases a;rw [ZeM s e1];rfl
   | _=>cases e
theorem ZjK:∀ {ds:List D}{vs:List V}{ns:List Bool},RDs Y H B ds vs->ZfF ds=some ns->vs=ns.map V.bl
 | _,_,_,.nil,e=>by cases e;rfl
 | _,_,_,.cons (d:=d) a s,e=>by
   cases d with
   | bl i =>
     rw [ZfF] at e;obtain ⟨z,e1,rfl⟩:=Oo.mp e;cases a;rw [ZjK s e1];rfl
   | _=>cases e
theorem ZoJ (hc:X.A.handled=none) (hY:Y.K=X.K):ZaK X (.builtin "sum") (rF Y E ZmD):=by
 intro pins s Z H xs us Q I r hh;obtain ⟨ds,h,B,rh,rs,f⟩:=hh;unfold ZmD at f;split at f
 . obtain ⟨e,e1,f⟩:=f.ofO;obtain ⟨ns,e2,rfl⟩:=Oo.mp e1;obtain ⟨zs,e3,e4⟩:=Option.bind_eq_some_iff.mp e2;obtain ⟨x,rfl,r1⟩:=rs.one;obtain ⟨a,vs,rfl,hl,rv⟩:=r1.lstOf rh e3;rw [ZeM rv e4] at hl;exact ZkF hc pins s Z H _ us Q I r ⟨a,ns,rfl,hY ▸ hl,f.ok rh (.int _)⟩
 . exact f.elim
theorem ZoO (hc:X.calm=true) (hY:Y.K=X.K):ZaK X (.builtin "all") (rF Y E ZoR):=by
 intro pins s Z H xs us Q I r hh;obtain ⟨ds,h,B,rh,rs,f⟩:=hh;unfold ZoR at f;split at f
 . obtain ⟨e,e1,f⟩:=f.ofO;obtain ⟨ns,e2,rfl⟩:=Oo.mp e1;obtain ⟨zs,e3,e4⟩:=Option.bind_eq_some_iff.mp e2;obtain ⟨x,rfl,r1⟩:=rs.one;obtain ⟨a,vs,rfl,hl,rv⟩:=r1.lstOf rh e3;rw [ZjK rv e4] at hl;exact Zmx hc pins s Z H _ us Q I r ⟨a,ns,rfl,hY ▸ hl,f.ok rh (.bl _)⟩
 . exact f.elim
noncomputable def rM(Y:Yx)(E:XK)(m:Mf):V->List V->Hp->VK->Prop:=fun x xs H Q=>∃ d ds h B,RH Y H B h/\RD Y H B d x/\RDs Y H B ds xs/\Fin Y (RD Y) H B (ZaI m d ds h) Q E
noncomputable def mid:Mf->String
 | .app => "list.append"
 | .ext => "list.extend"
 | .pop => "list.pop"
 | .rev => "list.reverse"
 | .clr => "list.clear"
theorem Zjh(hY:Y.K=X.K)(m:Mf):MtM X (mid m) (rM Y E m):=by
 intro pins s Z H x xs v us Q I rx rs hh;obtain ⟨d,ds,h,B,rh,r1,r2,f⟩:=hh;unfold ZaI at f;split at f
 . split at f
   . rename_i i ys e;obtain ⟨a,vs,rfl,hi,hl,rv⟩:=r1.lst rh e;cases m with
     | app =>
       unfold ZeD ZlU at f;simp only at f;split at f
       . obtain ⟨hz,f⟩:=f.iff;obtain ⟨y,rfl,ry⟩:=r2.one;have g:Gr H B (upd H a (.lst (vs++[y]))) B:=Gr.write (O1 hi) (by rw [hl];trivial);exact Zfz pins s Z H _ _ v us Q I rx rs ⟨a,vs,y,rfl,rfl,hl,by rw [<- rv.length];exact hz,f.wrote rh hi ⟨_,Zg,(rv.append (.cons ry .nil)).mono rh g⟩ .non (by rw [hl];trivial)⟩
       . exact f.elim
     | ext =>
       unfold ZeD ZqA at f;simp only at f;split at f
       . split at f
         . rename_i zs e2;obtain ⟨hz,f⟩:=f.iff;obtain ⟨y,rfl,ry⟩:=r2.one;obtain ⟨b,ws,rfl,hj,hl2,rw'⟩:=ry.lst rh e2;have g:Gr H B (upd H a (.lst (vs++ws))) B:=Gr.write (O1 hi) (by rw [hl];trivial);exact Zkr pins s Z H _ _ v us Q I rx rs ⟨a,b,vs,ws,rfl,rfl,hl,hl2,by rw [<- rv.length,<- rw'.length];exact hz,f.wrote rh hi ⟨_,Zg,(rv.append rw').mono rh g⟩ .non (by rw [hl];trivial)⟩
         . exact f.elim
       . obtain ⟨hz,f⟩:=f.iff;obtain ⟨y,rfl,ry⟩:=r2.one;obtain ⟨b,ws,rfl,t,rw'⟩:=ry.tup_inv;have g:Gr H B (upd H a (.lst (vs++ws))) B:=Gr.write (O1 hi) (by rw [hl];trivial);exact ZhZ pins s Z H _ _ v us Q I rx rs ⟨a,b,vs,ws,rfl,rfl,hl,hY ▸ t,by rw [<- rv.length,<- rw'.length];exact hz,f.wrote rh hi ⟨_,Zg,(rv.append rw').mono rh g⟩ .non (by rw [hl];trivial)⟩
       . exact f.elim
     | pop =>
       unfold ZeD Zn9 at f;simp only at f;split at f
       . split at f
         . rename_i y e2;cases r2;rw [rv.length] at e2;obtain ⟨w,e3,rw'⟩:=rv.get e2;have g:Gr H B (upd H a (.lst vs.dropLast)) B:=Gr.write (O1 hi) (by rw [hl];trivial);exact Zqx pins s Z H _ _ v us Q I rx rs ⟨a,vs,w,rfl,rfl,hl,e3,f.wrote rh hi ⟨_,Zg,rv.dropLast.mono rh g⟩ (rw'.mono rh g) (by rw [hl];trivial)⟩
         . exact f.elim
       . exact f.elim
     | rev =>
       unfold ZeD ZsR at f;simp only at f;split at f
       . cases r2;have g:Gr H B (upd H a (.lst vs.reverse)) B:=Gr.write (O1 hi) (by rw [hl];trivial);exact ZhY pins s Z H _ _ v us Q I rx rs ⟨a,vs,rfl,rfl,hl,f.wrote rh hi ⟨_,Zg,rv.reverse.mono rh g⟩ .non (by rw [hl];trivial)⟩
       . exact f.elim
     | clr =>
       unfold ZeD ZsS at f;simp only at f;split at f
       . cases r2;exact ZlQ pins s Z H _ _ v us Q I rx rs ⟨a,vs,rfl,rfl,hl,f.wrote rh hi ⟨_,Zg,.nil⟩ .non (by rw [hl];trivial)⟩
       . exact f.elim
   . exact f.elim
 . exact f.elim
noncomputable def rP(Y:Yx)(E:XK):ZoV:=fun o i v H Q=>∃ a b c h B,RH Y H B h/\RD Y H B a o/\RD Y H B b i/\RD Y H B c v/\Fin Y (fun _ _ (_:Unit) (_:Unit)=>True) H B (Zaf a b c h) (fun _ H'=>Q H') E
theorem ZpZ:ZoW X (rP Y E):=by
 intro pins s Z H o i v ov iv u Q I ro ri rv hh;obtain ⟨a,b,c,h,B,rh,ra,rb,rc,f⟩:=hh;unfold Zaf at f;split at f
 . split at f
   . rename_i j xs e;split at f
     . split at f
       . rename_i j' e2;obtain ⟨p,vs,rfl,hi,hl,rs⟩:=ra.lst rh e;have hb:=rb.int_inv;subst hb;rw [rs.length] at e2;have g:Gr H B (upd H p (.lst (vs.set j' v))) B:=Gr.write (O1 hi) (by rw [hl];trivial);exact set_list pins s Z H _ _ v ov iv u Q I ro ri rv ⟨p,vs,_,j',rfl,rfl,hl,e2,f.wrote (b:=()) rh hi ⟨_,Zg,(RDs.set rc j' rs).mono rh g⟩ trivial (by rw [hl];trivial)⟩
       . exact f.elim
     . exact f.elim
   . rename_i j kvs e;split at f
     . rename_i k e2;obtain ⟨hz,f⟩:=f.iff;obtain ⟨p,vs,rfl,hi,hl,rs⟩:=ra.dic rh e;have g:Gr H B (upd H p (.dK (putK vs k v))) B:=Gr.write (O1 hi) (by rw [hl];trivial);exact set_dict pins s Z H _ _ v ov iv u Q I ro ri rv ⟨p,vs,k,rfl,ZcF rb e2,hl,by rw [<- rs.length];exact hz,f.wrote (b:=()) rh hi ⟨_,Zg,(rs.put k rc).mono rh g⟩ trivial (by rw [hl];trivial) (ZeH (rh.ks _ _ e) (Zl4 rb e2))⟩
     . exact f.elim
   . exact f.elim
 . exact f.elim
end
end IV
end
section
namespace IV
open PySem PySem.Spec PyProof.Rows L2
noncomputable def rW(K:PySem.W.Frag)(x:V)(H1:Hp)(R:It->Hp->Prop):Prop :=
 (∃ a,x=.ref a/\(∃ xs,SqL K H1 a xs)/\R (Itl K a) H1)\/(∃ a,x=.ref a/\(∃ xs,SqT K H1 a xs)/\R (Itt K a) H1)
theorem Zp8(hl:PE X l tl):PI X tg l (fun Z H R=>tl Z H fun x H1=>rW X.K x H1 R):=by
 intro pins s Z H R I h;refine thn (hl pins s Z H _ I h) fun v s1 ⟨x,H1,I1,r1,q1⟩=>?_;have fp1:∀ b∈[s1.heap.objs.size],Zcz X pins H1 b:=fun b hb=>by
   have e:b=s1.heap.objs.size:=by simpa using hb
   subst e;exact I1.fpOk (Oq _) (I1.hok.fresh (Oq _))
 rcases q1 with ⟨a,rfl,⟨xs,hq⟩,q⟩|⟨a,rfl,⟨xs,hq⟩,q⟩
 . cases r1;obtain ⟨its,rv,p,hz⟩:=I1.list hq;exact wpAny_pyIter_list p.isList ⟨s1.heap.objs.size,[s1.heap.objs.size],_,_,H1,rfl,I1.kept (t':=s1.toks) fun b o e=>Od _ e,Zj0 a _,⟨_,Oj _ rfl,rfl,rfl⟩,fp1,q⟩
 . cases r1;obtain ⟨its,rv,p,hz⟩:=I1.tuple hq;exact wpAny_pyIter_tuple (show s1.heap.IsTuple a its.toArray from p) ⟨s1.heap.objs.size,[s1.heap.objs.size],_,_,H1,rfl,I1.kept (t':=s1.toks) fun b o e=>Od _ e,ZhG a _,⟨_,Oj _ rfl,rfl,rfl⟩,fp1,q⟩
noncomputable def WJ(Y:Yx)(H0:Hp)(μ0:List Addr)(w:Wk)(J:It):Prop:=∀ H B h,Gr H0 μ0 H B->RH Y H B h->Wk.stays w.src h=true ->
 (∀ i d,w.xs[i]? = some d->J.go i H/\∀ x H',J.yld i H x H'->Gr H B H' B/\RH Y H' B h/\RD Y H' B d x)/\J.stop w.xs.length H
section
variable {X:Cx}{Y:Yx}{E:XK}{T:Tb}{H:Hp}{B:List Addr}{h:Hd}
theorem Zpw(hY:Y.K=X.K)(rh:RH Y H B h)(t:SqT Y.K H a vs)(s:RDs Y H B xs vs):WJ Y H B ⟨[],xs⟩ (Itt X.K a):=by
 intro H1 μ1 h1 g rh1 st;have t1:=g.rdT rh t;have s1:=s.mono rh g;rw [hY] at t1;refine ⟨fun i d e=>?_,⟨vs,t1,by rw [s.length];exact Oq _⟩⟩;obtain ⟨v,e1,r1⟩:=s1.get e;refine ⟨⟨vs,v,t1,e1⟩,fun x H' ⟨eH,q⟩=>?_⟩;subst eH;have:=q vs t1;rw [e1] at this;cases this;exact ⟨Gr.refl,rh1,r1⟩
theorem ZoZ(hY:Y.K=X.K)(rh:RH Y H B h)(t:FzL Y.K H a vs)(s:RDs Y H B xs vs):WJ Y H B ⟨[],xs⟩ (Itl X.K a):=by
 intro H1 μ1 h1 g rh1 st;have t1:=(g.rdF rh t).sq;have s1:=s.mono rh g;rw [hY] at t1;refine ⟨fun i d e=>?_,⟨vs,t1,by rw [s.length];exact Oq _⟩⟩;obtain ⟨v,e1,r1⟩:=s1.get e;refine ⟨⟨vs,v,t1,e1⟩,fun x H' ⟨eH,q⟩=>?_⟩;subst eH;have:=q vs t1;rw [e1] at this;cases this;exact ⟨Gr.refl,rh1,r1⟩
theorem Zb2(st:Wk.stays ((i,xs)::r) h=true):h[i]? = some (.lst xs):=of_decide_eq_true (Bool.and_eq_true_iff.mp st).1
theorem ZkL(hi:B[i]? = some a):WJ Y H B ⟨[(i,xs)],xs⟩ (Itl X.K a):=by
 intro H1 μ1 h1 g rh1 st;obtain ⟨vs,hl,s1⟩:=rh1.ob i _ a (Zb2 st) (g.pre i a hi);have t1:SqL X.K H1 a vs:=.of hl;refine ⟨fun i d e=>?_,⟨vs,t1,by rw [s1.length];exact Oq _⟩⟩;obtain ⟨v,e1,r1⟩:=s1.get e;refine ⟨⟨vs,v,t1,e1⟩,fun x H' ⟨eH,q⟩=>?_⟩;subst eH;have:=q vs t1;rw [e1] at this;cases this;exact ⟨Gr.refl,rh1,r1⟩
theorem Zpx{lo:Int}:WJ Y H B ⟨[],Zac lo n⟩ (Itr lo n):=by
 intro H1 μ1 h1 g rh1 st;have hl:(Zac lo n).length=n:=by simp [Zac]
 refine ⟨fun i d e=>?_,by show n<=(Zac lo n).length;rw [hl];exact Oq _⟩;have hi:i<n:=by
   have:=(Ob.mp e).1;rw [hl] at this;exact this
 refine ⟨hi,fun x H' ⟨eH,q⟩=>?_⟩;subst eH q;have:d=.int (lo+i):=by
   unfold Zac at e;rw [On,List.getElem?_range hi] at e;exact (Option.some.inj e).symm
 subst this;exact ⟨Gr.refl,rh1,.int _⟩
theorem Zmp{xs:List D}{i:Nat}{d:D}(e:(Zch xs)[i]? = some d):∃ x,xs[i]? = some x/\d=.tup [.int i,x]:=by
 unfold Zch at e;rw [List.getElem?_mapIdx] at e;obtain ⟨x,e1,e2⟩:=Oo.mp e;exact ⟨x,e1,e2.symm⟩
theorem ZiM{a:Addr}{src:List (Nat×List D)}{xs:List D}(hw:WJ Y H B ⟨src,xs⟩ (Itl X.K a))(sq:∀ H1 μ1 h1,Gr H B H1 μ1->RH Y H1 μ1 h1->Wk.stays src h1=true->∃ vs,SqL X.K H1 a vs/\RDs Y H1 μ1 xs vs):WJ Y H B ⟨src,Zch xs⟩ (Ite X.K a):=by
 intro H1 μ1 h1 g rh1 st;obtain ⟨vs,t1,s1⟩:=sq H1 μ1 h1 g rh1 st;have hl:(Zch xs).length=xs.length:=by simp [Zch]
 refine ⟨fun i d e=>?_,⟨vs,t1,by rw [hl,s1.length]⟩⟩;obtain ⟨x0,e0,rfl⟩:=Zmp e;obtain ⟨v,e1,r1⟩:=s1.get e0;refine ⟨⟨vs,v,t1,e1⟩,fun x H' ⟨p,ex,hp,y,q,eH⟩=>?_⟩;subst ex eH;have:=q vs t1;rw [e1] at this;cases this;exact ⟨Gr.lay0 hp,rh1.lay0 hp,.tup (.inl (.inl Zg)) (.cons (.int _) (.cons (r1.mono rh1 (Gr.lay0 hp)) .nil))⟩
theorem Zpy(hY:Y.K=X.K)(rh:RH Y H B h)(t:SqT Y.K H a vs)(s:RDs Y H B xs vs):WJ Y H B ⟨[],xs.reverse⟩ (Itv X.K a vs.length):=by
 intro H1 μ1 h1 g rh1 st;have t1:=g.rdT rh t;have s1:=(s.mono rh g).reverse;rw [hY] at t1;refine ⟨fun i d e=>?_,⟨vs,t1,rfl,by simp [s.length]⟩⟩;obtain ⟨v,e1,r1⟩:=s1.get e;refine ⟨⟨vs,v,t1,rfl,e1⟩,fun x H' ⟨eH,q⟩=>?_⟩;subst eH;have:=q vs t1;rw [e1] at this;cases this;exact ⟨Gr.refl,rh1,r1⟩
theorem ZmT(hi:B[i]? = some a):WJ Y H B ⟨[(i,xs)],xs.reverse⟩ (Zru X.K a xs.length):=by
 intro H1 μ1 h1 g rh1 st;obtain ⟨vs,hl,s0⟩:=rh1.ob i _ a (Zb2 st) (g.pre i a hi);have t1:SqL X.K H1 a vs:=.of hl;have s1:=s0.reverse;refine ⟨fun i d e=>?_,⟨vs,t1,s0.length.symm,by simp⟩⟩;obtain ⟨v,e1,r1⟩:=s1.get e;refine ⟨⟨vs,v,t1,s0.length.symm,e1⟩,fun x H' ⟨eH,q⟩=>?_⟩;subst eH;have:=q vs t1;rw [e1] at this;cases this;exact ⟨Gr.refl,rh1,r1⟩
theorem Zpz(hY:Y.K=X.K)(rh:RH Y H B h)(t:SqT Y.K H a vs)(s:RDs Y H B xs vs):WJ Y H B ⟨[],Zc2 xs⟩ (It1 X.K a):=by
 intro H1 μ1 h1 g rh1 st;have t1:=g.rdT rh t;have s1:=s.mono rh g;rw [hY] at t1;have hl:(Zc2 xs).length=xs.length:=by simp [Zc2]
 refine ⟨fun i d e=>?_,⟨vs,t1,by rw [hl,s1.length]⟩⟩;have:∃ x0,xs[i]? = some x0/\d=.tup [.int ((i+1:Nat):Int),x0]:=by
   unfold Zc2 at e;rw [List.getElem?_mapIdx] at e;obtain ⟨x,e1,e2⟩:=Oo.mp e;exact ⟨x,e1,e2.symm⟩
 obtain ⟨x0,e0,rfl⟩:=this;obtain ⟨v,e1,r1⟩:=s1.get e0;refine ⟨⟨vs,v,t1,e1⟩,fun x H' ⟨p,ex,hp,y,q,eH⟩=>?_⟩;subst ex eH;have:=q vs t1;rw [e1] at this;cases this;exact ⟨Gr.lay0 hp,rh1.lay0 hp,.tup (.inl (.inl Zg)) (.cons (.int _) (.cons (r1.mono rh1 (Gr.lay0 hp)) .nil))⟩
theorem ZmS{X:Cx}(hi:B[i]? = some a)(hj:B[j]? = some b)(hl:xs.length=ys.length):WJ Y H B ⟨[(i,xs),(j,ys)],ZdE xs ys⟩ (Zrt X.K a b):=by
 intro H1 μ1 h1 g rh1 st;have e1:=Zb2 st;have e2:h1[j]? = some (.lst ys):=Zb2 (Bool.and_eq_true_iff.mp st).2;obtain ⟨vs,t1,s1⟩:=rh1.ob i _ _ e1 (g.pre i _ hi);obtain ⟨vs',t2,s2⟩:=rh1.ob j _ _ e2 (g.pre j _ hj);have hz:(ZdE xs ys).length=xs.length:=by simp [ZdE,hl]
 refine ⟨fun k d e=>?_,⟨vs,vs',.inl (.inl t1),.inl (.inl t2),by rw [hz,s1.length]⟩⟩;obtain ⟨x0,y0,e0,e1,rfl⟩:∃ x0 y0,xs[k]? = some x0/\ys[k]? = some y0/\d=.tup [x0,y0]:=by
   unfold ZdE at e;rw [List.getElem?_zipWith] at e;split at e
   . rename_i x y q1 q2;exact ⟨x,y,q1,q2,(Option.some.inj e).symm⟩
   . cases e
 obtain ⟨v,e2,r2⟩:=s1.get e0;obtain ⟨u,e3,r3⟩:=s2.get e1;refine ⟨⟨vs,vs',v,u,.inl (.inl t1),.inl (.inl t2),e2,e3⟩,fun x H' ⟨p,x1,y1,ex,hp,q1,q2,eH⟩=>?_⟩;subst ex eH;have:=q1 vs (.inl (.inl t1));rw [e2] at this;cases this;have:=q2 vs' (.inl (.inl t2));rw [e3] at this;cases this;exact ⟨Gr.lay0 hp,rh1.lay0 hp,.tup (.inl (.inl Zg)) (.cons (r2.mono rh1 (Gr.lay0 hp)) (.cons (r3.mono rh1 (Gr.lay0 hp)) .nil))⟩
theorem RKs.keys:∀ {kvs:List (Key×D)}{kvs':List (Key×V)},RKs Y H B kvs kvs'->kvs.map (·.1)=kvs'.map (·.1)
 | _,_,.nil=>rfl
 | _,_,.cons a s=>by rw [Op,Op,s.keys]
theorem Zo0(ea:H a=some (.frz o (.dK kvs')))(s:RKs Y H B kvs kvs')(ok:ZaH kvs):WJ Y H B ⟨[],kvs.map fun p=>Zl5 p.1⟩ (Itd a o kvs'):=by
 intro H1 μ1 h1 g rh1 st;have e1:=g.fz a _ _ ea;have hl:=s.length;refine ⟨fun i d e=>?_,⟨e1,by simp [hl]⟩⟩;simp only [On] at e;obtain ⟨p,ep,rfl⟩:=Oo.mp e;have hi:i<kvs.length:=(Ob.mp ep).1;refine ⟨⟨e1,by lia⟩,fun x H' ⟨eH,k,v,ek,ex⟩=>?_⟩;subst eH ex;have hk:p.1=k:=by
   have q:=congrArg (fun l=>l[i]?) s.keys;simp only [On,ep,ek,Option.map_some] at q;exact Option.some.inj q
 refine ⟨Gr.refl,rh1,?_⟩;have okp:=ok p (O1 ep);rw [hk] at okp ⊢;cases k with
 | inl i=>exact .int _
 | inr x=>exact .str _ (okp x rfl)
theorem Zq1{d:D}{x:V}{R:It->Hp->Prop}{E:XK}(rh:RH Y H B h)(r:RD Y H B d x)(f:Fin Y (WJ Y) H B (Zoo d h) R E) :
   ∃ a kvs,x=.ref a/\((H a=some (.dK kvs)/\∀ o,R (Itd a o kvs) (upd H a (.frz o (.dK kvs))))\/∃ o,H a=some (.frz o (.dK kvs))/\R (Itd a o kvs) H):=by
 cases d with
 | ref i =>
   unfold Zoo at f;simp only at f;split at f
   . rename_i kvs e;obtain ⟨a,vs,rfl,hi,hl,s⟩:=r.dic rh e;have nf:NF (H a):=by rw [hl];trivial
     refine ⟨a,vs,rfl,.inl ⟨hl,fun o=>?_⟩⟩;have g:Gr H B (upd H a (.frz o (.dK vs))) B:=Gr.write (O1 hi) nf;exact f.at g (rh.write hi ⟨o,vs,Zg,s.mono rh g⟩ nf (show ZaH kvs from rh.ks _ _ e)) (Zo0 Zg (s.mono rh g) (show ZaH kvs from rh.ks _ _ e))
   . rename_i kvs e;cases r with
     | ref q =>
       obtain ⟨o,vs,h1,s⟩:=rh.ob i _ _ e q;exact ⟨_,vs,rfl,.inr ⟨o,h1,f.ok rh (Zo0 h1 s (rh.ks _ _ e))⟩⟩
   . exact f.elim
 | _=>exact f.elim
theorem ZmX{d:D}{R:It->Hp->Prop}(hY:Y.K=X.K)(rh:RH Y H B h)(r:RD Y H B d x)(e:Zan d h=some w)(q:∀ J,WJ Y H B w J->R J H):rW X.K x H R:=by
 cases d with
 | tup xs =>
   cases e;obtain ⟨a,vs,rfl,t,s⟩:=r.tup_inv;exact .inr ⟨a,rfl,⟨vs,hY ▸ t⟩,q _ (Zpw hY rh t s)⟩
 | ro xs =>
   cases e;cases r with
   | ro t s=>exact .inl ⟨_,rfl,⟨_,hY ▸ t.sq⟩,q _ (ZoZ hY rh t s)⟩
 | ref i =>
   unfold Zan at e;simp only at e;split at e
   . rename_i xs he;cases e;obtain ⟨a,vs,rfl,hi,hl,s⟩:=r.lst rh he;exact .inl ⟨a,rfl,⟨vs,.of hl⟩,q _ (ZkL hi)⟩
   . cases e
 | _=>cases e
end
end IV
end
section
namespace IV
open PySem PySem.Spec PyProof.Rows L2
structure Kl where
 cs:List Str
 ats:List Str
 ms:List (Str×Str)
 is:List Str
 xs:List Str:=[]
 xa:List (Str×Str):=[]
structure Gm where
 N:List Str
 sc:Scope
 fs:List Str
 top:Bool
 kl:Kl
noncomputable def glb (Γ:Gm) (x:Str):Bool:=decide (Γ.sc.names.lookup x=some .globalImplicit)&&!(x==("__debug__" : Str))
noncomputable def ZmZ(sc:Scope)(x:Str):Bool:=decide (sc.names.lookup x=some .local) || decide (sc.names.lookup x=some .cell) || decide (sc.names.lookup x=some .free)
noncomputable def ZjH:Bf->Str
 | .len => "len" | .isi => "isinstance" | .int => "int" | .tup => "tuple" | .lst => "list" | .sum => "sum" | .all => "all" | .srt => "sorted" | .mx => "max" | .sri => "sorted" | .lnd => "len" | .dct => "dict"
noncomputable def bok:Bf->Bool
 | .mx=>false
 | .lst=>false
 | .int=>false
 | .sri=>false
 | .lnd=>false
 | _=>true
noncomputable def ZlR:Mf->Str
 | .app => "append" | .ext => "extend" | .pop => "pop" | .rev => "reverse" | .clr => "clear"
noncomputable def ZjI:List Str:=["len", "isinstance", "int", "tuple", "list", "sum", "all", "sorted", "range", "enumerate", "reversed", "str", "bool", "max", "repr", "zip", "set", "dict", "any"]
noncomputable def ZiQ:List String:=["int", "str", "bool", "tuple", "list"]
structure Pt where
 a:Expr:=default
 b:Expr:=default
 c:Expr:=default
 xs:List Expr:=[]
 s:Str:=⟨#[]⟩
 op:Operator:=.Add
 cs:List CmpOp:=[]
 u:UnaryOp:=.Not
 bo:BoolOp:=.And
 p:Pos:=default
 kw:List Keyword:=[]
 l:Option Expr:=none
 h:Option Expr:=none
 st:Option Expr:=none
 ks:List (Option Expr):=[]
 gs:List Comprehension:=[]
 sc:Scope:=default
 k:Nat:=0
 v:Const:=.none
noncomputable def tgE:Expr->Nat
 | .Starred _ _=>0|.BoolOp _ _ _=>1|.UnaryOp _ _ _=>2|.IfExp _ _ _ _=>3|.Compare _ _ _ _=>4|.Slice _ _ _ _=>5|.Name _ _=>6|.BinOp _ _ _ _=>7|.Tuple _ _ _=>8|.List _ _=>9
 | .Subscript _ _ _=>10|.Call _ _ _ _=>11|.Attribute _ _ _=>12|.ListComp _ _ _ _=>13|.Dict _ _ _=>14|.Constant _ _ _=>15|.NamedExpr _ _ _=>17|.Set _ _ _=>18|.SetComp _ _ _ _=>19|.DictComp _ _ _ _ _=>19|_=>16
noncomputable def prt(e:Expr):Pt:=match e with
 | .BoolOp o xs p=>{bo:=o,xs:=xs,p:=p}
 | .UnaryOp o x p=>{a:=x,u:=o,p:=p}
 | .IfExp t x y p=>{a:=t,b:=x,c:=y,p:=p}
 | .Compare l os rs p=>{a:=l,cs:=os,xs:=rs,p:=p}
 | .Slice l u s p=>{l:=l,h:=u,st:=s,p:=p}
 | .Name x p=>{s:=x,p:=p}
 | .BinOp l o r p=>{a:=l,b:=r,op:=o,p:=p}
 | .Tuple xs k p=>{xs:=xs,k:=k,p:=p}
 | .List xs p=>{xs:=xs,p:=p}
 | .Subscript x y p=>{a:=x,b:=y,p:=p}
 | .Call f xs kw p=>{a:=f,xs:=xs,kw:=kw,p:=p}
 | .Attribute x n p=>{a:=x,s:=n,p:=p}
 | .ListComp x gs sc p=>{a:=x,gs:=gs,p:=p,sc:=sc}
 | .Dict ks vs p=>{ks:=ks,xs:=vs,p:=p}
 | .Constant c k p=>{v:=c,k:=k,p:=p}
 | _=>{a:=e}
noncomputable def mkE(n:Nat)(p:Pt):Expr:=match n with
 | 1=>.BoolOp p.bo p.xs p.p|2=>.UnaryOp p.u p.a p.p|3=>.IfExp p.a p.b p.c p.p|4=>.Compare p.a p.cs p.xs p.p|5=>.Slice p.l p.h p.st p.p|6=>.Name p.s p.p|7=>.BinOp p.a p.op p.b p.p
 | 8=>.Tuple p.xs p.k p.p|9=>.List p.xs p.p|10=>.Subscript p.a p.b p.p|11=>.Call p.a p.xs p.kw p.p|12=>.Attribute p.a p.s p.p
 | 13=>.ListComp p.a p.gs p.sc p.p|14=>.Dict p.ks p.xs p.p|15=>.Constant p.v p.k p.p|_=>p.a
theorem rb(e:Expr):mkE (tgE e) (prt e)=e:=by cases e<;>rfl
theorem bL{a b:Bool}(h:(a&&b)=true):a=true:=by cases a with|true=>rfl|false=>cases h
theorem bR{a b:Bool}(h:(a&&b)=true):b=true:=by cases a with|true=>exact h|false=>cases h
theorem bO{a b:Bool}{P:Prop}(h:(a || b)=true)(l:a=true->P)(r:b=true->P):P:=by cases a with|true=>exact l rfl|false=>exact r h
theorem ff{P:Prop}(h:false=true):P:=by cases h
theorem dS{α:Type}{P:α->Prop}{a b:α}[Decidable (a=b)](h:decide (a=b)=true)(k:P b):P a:=of_decide_eq_true h ▸ k
noncomputable def an(n:Nat)(e:Expr)(f:Pt->Bool):Bool:=decide (tgE e=n)&&f (prt e)
section
variable {P:Expr->Prop}{e:Expr}
theorem Zam(h:an n e f=true)(k:∀ p,f p=true->P (mkE n p)):P e:=rb e ▸ dS (P:=fun m=>P (mkE m (prt e))) (bL h) (k _ (bR h))
noncomputable def l1{α:Type}(xs:List α)(f:α->Bool):Bool:=match xs with
 | [y]=>f y
 | _=>false
@[elab_as_elim] theorem Zbt{α:Type}{P:List α->Prop}{xs:List α}{f:α->Bool}(h:l1 xs f=true)(k:∀ y,f y=true->P [y]):P xs:=by
 cases xs with
 | nil=>cases h
 | cons y r =>
   cases r with
   | nil=>exact k y h
   | cons _ _=>cases h
noncomputable def l2{α:Type}(xs:List α)(f:α->α->Bool):Bool:=match xs with
 | [x,y]=>f x y
 | _=>false
@[elab_as_elim] theorem Zpi{α:Type}{P:List α->Prop}{xs:List α}{f:α->α->Bool}(h:l2 xs f=true)(k:∀ x y,f x y=true->P [x,y]):P xs:=by
 cases xs with
 | nil=>cases h
 | cons x r =>
   cases r with
   | nil=>cases h
   | cons y r =>
     cases r with
     | nil=>exact k x y h
     | cons _ _=>cases h
noncomputable def l0{α:Type}(xs:List α)(b:Bool):Bool:=xs.isEmpty&&b
theorem Zjn{α:Type}{P:List α->Prop}{xs:List α}(h:l0 xs b=true)(k:b=true->P []):P xs:=by
 cases xs with
 | nil=>exact k h
 | cons _ _=>cases h
@[irreducible] noncomputable def aN(e:Expr)(f:Str->Bool):Bool:=an 6 e fun p=>f p.s
@[elab_as_elim] theorem ZsN(h:aN e f=true)(k:∀ x q,f x=true->P (.Name x q)):P e:=by
 unfold aN at h;exact Zam h fun _ h=>k _ _ h
@[irreducible] noncomputable def aX(x:Str)(e:Expr)(b:Bool):Bool:=an 6 e fun p=>decide (p.s=x)&&b
@[elab_as_elim] theorem ZmR(h:aX x e b=true)(k:∀ q,b=true->P (.Name x q)):P e:=by
 unfold aX at h;exact Zam h fun p h=>dS (P:=fun s=>P (.Name s p.p)) (bL h) (k _ (bR h))
@[irreducible] noncomputable def aB2(o:Operator)(e:Expr)(f:Expr->Expr->Bool):Bool:=an 7 e fun p=>decide (p.op=o)&&f p.a p.b
@[elab_as_elim] theorem Ztu(h:aB2 o e f=true)(k:∀ l r q,f l r=true->P (.BinOp l o r q)):P e:=by
 unfold aB2 at h;exact Zam h fun p h=>dS (P:=fun s=>P (.BinOp p.a s p.b p.p)) (bL h) (k _ _ _ (bR h))
@[irreducible] noncomputable def aC1(o:CmpOp)(e:Expr)(f:Expr->Expr->Bool):Bool:=an 4 e fun p=>decide (p.cs=[o])&&l1 p.xs fun r=>f p.a r
@[elab_as_elim] theorem Zps(h:aC1 o e f=true)(k:∀ l r q,f l r=true->P (.Compare l [o] [r] q)):P e:=by
 unfold aC1 at h;exact Zam h fun p h=>dS (P:=fun s=>P (.Compare p.a s p.xs p.p)) (bL h) (Zbt (P:=fun s=>P (.Compare p.a [o] s p.p)) (bR h) fun _ h=>k _ _ _ h)
@[irreducible] noncomputable def aU(u:UnaryOp)(e:Expr)(f:Expr->Bool):Bool:=an 2 e fun p=>decide (p.u=u)&&f p.a
@[elab_as_elim] theorem ZpC(h:aU u e f=true)(k:∀ x q,f x=true->P (.UnaryOp u x q)):P e:=by
 unfold aU at h;exact Zam h fun p h=>dS (P:=fun s=>P (.UnaryOp s p.a p.p)) (bL h) (k _ _ (bR h))
@[irreducible] noncomputable def aO(o:BoolOp)(e:Expr)(f:List Expr->Bool):Bool:=an 1 e fun p=>decide (p.bo=o)&&f p.xs
@[elab_as_elim] theorem Zn3(h:aO o e f=true)(k:∀ xs q,f xs=true->P (.BoolOp o xs q)):P e:=by
 unfold aO at h;exact Zam h fun p h=>dS (P:=fun s=>P (.BoolOp s p.xs p.p)) (bL h) (k _ _ (bR h))
@[irreducible] noncomputable def aI(e:Expr)(f:Expr->Expr->Expr->Bool):Bool:=an 3 e fun p=>f p.a p.b p.c
@[elab_as_elim] theorem Zur(h:aI e f=true)(k:∀ t x y q,f t x y=true->P (.IfExp t x y q)):P e:=by
 unfold aI at h;exact Zam h fun _ h=>k _ _ _ _ h
@[irreducible] noncomputable def aT(e:Expr)(f:List Expr->Bool):Bool:=an 8 e fun p=>f p.xs
@[elab_as_elim] theorem ZgK(h:aT e f=true)(k:∀ xs j q,f xs=true->P (.Tuple xs j q)):P e:=by
 unfold aT at h;exact Zam h fun _ h=>k _ _ _ h
@[irreducible] noncomputable def aLs(e:Expr)(f:List Expr->Bool):Bool:=an 9 e fun p=>f p.xs
@[elab_as_elim] theorem ZsU(h:aLs e f=true)(k:∀ xs q,f xs=true->P (.List xs q)):P e:=by
 unfold aLs at h;exact Zam h fun _ h=>k _ _ h
@[irreducible] noncomputable def aS(e:Expr)(f:Expr->Expr->Bool):Bool:=an 10 e fun p=>f p.a p.b
@[elab_as_elim] theorem ZpO(h:aS e f=true)(k:∀ x y q,f x y=true->P (.Subscript x y q)):P e:=by
 unfold aS at h;exact Zam h fun _ h=>k _ _ _ h
@[irreducible] noncomputable def aSl(e:Expr)(f:Expr->Option Expr->Option Expr->Bool):Bool:=aS e fun x y=>an 5 y fun p=>p.st.isNone&&f x p.l p.h
@[elab_as_elim] theorem Zr9(h:aSl e f=true)(k:∀ x l u q r,f x l u=true->P (.Subscript x (.Slice l u none q) r)):P e:=by
 unfold aSl at h;exact ZpO h fun x _ r h=>Zam (P:=fun y=>P (.Subscript x y r)) h fun p h=>by
   show P (.Subscript x (.Slice p.l p.h p.st p.p) r);rw [Option.isNone_iff_eq_none.mp (bL h)];exact k _ _ _ _ _ (bR h)
@[irreducible] noncomputable def aCN(n:Str)(e:Expr)(f:List Expr->Bool):Bool:=an 11 e fun p=>aX n p.a (l0 p.kw (f p.xs))
@[elab_as_elim] theorem Zfb(h:aCN n e f=true)(k:∀ p ys q,f ys=true->P (.Call (.Name n p) ys [] q)):P e:=by
 unfold aCN at h;exact Zam h fun p h=>ZmR (P:=fun a=>P (.Call a p.xs p.kw p.p)) h fun q h=>Zjn (P:=fun w=>P (.Call (.Name n q) p.xs w p.p)) h fun h=>k _ _ _ h
@[irreducible] noncomputable def aCk(n w:Str)(e:Expr)(f:List Expr->Expr->Bool):Bool:=an 11 e fun p=>aX n p.a (l1 p.kw fun y=>match y with|⟨a,z,_⟩=>decide (a=some w)&&f p.xs z)
@[elab_as_elim] theorem Zpp(h:aCk n w e f=true)(k:∀ p ys z r q,f ys z=true->P (.Call (.Name n p) ys [⟨some w,z,r⟩] q)):P e:=by
 unfold aCk at h;exact Zam h fun p h=>ZmR (P:=fun a=>P (.Call a p.xs p.kw p.p)) h fun q h=>Zbt (P:=fun w=>P (.Call (.Name n q) p.xs w p.p)) h fun y h=>match y,h with
   | ⟨_,z,r⟩,h=>dS (P:=fun s=>P (.Call (.Name n q) p.xs [⟨s,z,r⟩] p.p)) (bL h) (k _ _ _ _ _ (bR h))
@[irreducible] noncomputable def aA(n:Str)(e:Expr)(f:Expr->Pos->Bool):Bool:=an 12 e fun p=>decide (p.s=n)&&f p.a p.p
@[elab_as_elim] theorem ZoU(h:aA n e f=true)(k:∀ x q,f x q=true->P (.Attribute x n q)):P e:=by
 unfold aA at h;exact Zam h fun p h=>dS (P:=fun s=>P (.Attribute p.a s p.p)) (bL h) (k _ _ (bR h))
@[irreducible] noncomputable def aCA(n:Str)(e:Expr)(f:Expr->Pos->List Expr->Pos->Bool):Bool:=an 11 e fun p=>aA n p.a fun x ap=>l0 p.kw (f x ap p.xs p.p)
@[elab_as_elim] theorem Zmz(h:aCA n e f=true)(k:∀ x ap ys cp,f x ap ys cp=true->P (.Call (.Attribute x n ap) ys [] cp)):P e:=by
 unfold aCA at h;exact Zam h fun p h=>ZoU (P:=fun a=>P (.Call a p.xs p.kw p.p)) h fun x q h=>Zjn (P:=fun w=>P (.Call (.Attribute x n q) p.xs w p.p)) h fun h=>k _ _ _ _ h
@[irreducible] noncomputable def aLC(e:Expr)(f:Expr->Expr->Expr->List Expr->Scope->Bool):Bool:=an 13 e fun p=>l1 p.gs fun g=>match g with|⟨t,i,c,n⟩=>decide (n=0)&&f p.a t i c p.sc
@[elab_as_elim] theorem Zpe(h:aLC e f=true)(k:∀ x t i c sc q,f x t i c sc=true->P (.ListComp x [⟨t,i,c,0⟩] sc q)):P e:=by
 unfold aLC at h;exact Zam h fun p h=>Zbt (P:=fun g=>P (.ListComp p.a g p.sc p.p)) h fun g h=>match g,h with
   | ⟨t,i,c,_⟩,h=>dS (P:=fun s=>P (.ListComp p.a [⟨t,i,c,s⟩] p.sc p.p)) (bL h) (k _ _ _ _ _ _ (bR h))
@[irreducible] noncomputable def aD(e:Expr)(f:List (Option Expr)->List Expr->Bool):Bool:=an 14 e fun p=>f p.ks p.xs
@[elab_as_elim] theorem ZuB(h:aD e f=true)(k:∀ ks vs q,f ks vs=true->P (.Dict ks vs q)):P e:=by
 unfold aD at h;exact Zam h fun _ h=>k _ _ _ h
@[irreducible] noncomputable def aK(e:Expr)(f:Const->Bool):Bool:=an 15 e fun p=>f p.v
@[elab_as_elim] theorem Zs0(h:aK e f=true)(k:∀ c j q,f c=true->P (.Constant c j q)):P e:=by
 unfold aK at h;exact Zam h fun _ h=>k _ _ _ h
end
noncomputable def ZuD:D->Const->Bool
 | .int i,.int j=>decide (i=j)
 | .str x,.str y=>decide (x=y)&&PyData.strOk y
 | .bl b,.bool c=>decide (b=c)
 | .non,.none=>true
 | _,_=>false
noncomputable def Ztp(Γ:Gm)(d:D)(e:Expr):Bool:=(aK e fun c=>ZuD d c) || match d with
 | .ty n=>aX (Str.ofString n) e (decide (n∈ZiQ)&&glb Γ (Str.ofString n))
 | _=>false
noncomputable def Zmv(NC N:List Str)(js:List (Option Nat))(sc scope:Scope):Bool :=
 decide (scope.kind=.function)&&decide (sc.kind=.function)&&(scope.names.all fun y=>decide (y.2≠.cell))&&(scope.names.all fun y=>!decide (y.2=.local) || decide (scope.names.lookup y.1=some .local)) &&
   (scope.names.all fun y=>!decide (y.2=.free) || decide (sc.names.lookup y.1=some .cell))&&decide NC.Nodup&&decide (js.length=NC.length) &&
   ((NC.zip js).all fun p=>p.2.all fun j=>decide (N[j]? = some p.1)&&decide (scope.names.lookup p.1=some .free))
theorem Zhl(h:Zmv NC N js sc scope=true):CompSc NC N js sc scope:=by
 unfold Zmv at h;rw [Oa,Oa,Oa,Oa,Oa,Oa,Oa] at h;obtain ⟨⟨⟨⟨⟨⟨⟨a,b⟩,c⟩,d⟩,e⟩,f⟩,g⟩,i⟩:=h;rw [OC] at c d e;refine ⟨of_decide_eq_true a,of_decide_eq_true b,fun y hy=>of_decide_eq_true (c y hy),fun y hy e1=>?_,fun y hy e1=>?_,of_decide_eq_true f,of_decide_eq_true g,i⟩
 . have:=d y hy;rw [decide_eq_true e1] at this;simpa using this
 . have:=e y hy;rw [decide_eq_true e1] at this;simpa using this
noncomputable def Zkp(N:List Str)(own:Str->Bool)(i:Nat)(e:Expr):Bool:=aN e fun x=>decide (N[i]? = some x)&&own x
noncomputable def ZjD(N:List Str)(own:Str->Bool):List Nat->List Expr->Bool
 | [],es=>es.isEmpty
 | i::is,es=>match es with
   | e::es=>Zkp N own i e&&ZjD N own is es
   | []=>false
noncomputable def ZjF(N:List Str)(own:Str->Bool)(i j:Nat)(e:Expr):Bool:=aT e fun es=>l2 es fun a b=>Zkp N own i a&&Zkp N own j b
noncomputable def ZjE(N:List Str)(own:Str->Bool)(is:List Nat)(e:Expr):Bool:=aT e fun es=>ZjD N own is es
noncomputable def ZoD(N:List Str)(own:Str->Bool)(g:Tg)(e:Expr):Bool:=match g with
 | .nm i=>Zkp N own i e
 | .two i j=>ZjF N own i j e
 | .many is=>ZjE N own is e
@[elab_as_elim] theorem Za4{P:Expr->Prop}(h:Zkp N own i e=true)(k:∀ x p,N[i]? = some x->own x=true->P (.Name x p)):P e:=ZsN h fun _ _ h=>k _ _ (of_decide_eq_true (bL h)) (bR h)
noncomputable def isTup(e:Expr):Bool:=decide (tgE e=8)
@[elab_as_elim] theorem Zjt{P:Expr->Prop}(h:isTup e=true)(k:∀ xs j q,P (.Tuple xs j q)):P e:=ZgK (P:=P) (f:=fun _=>true) (by unfold aT an;rw [show decide (tgE e=8)=true from h];rfl) fun _ _ _ _=>k _ _ _
noncomputable def tgk:Tg->Nat
 | .nm i=>i+1
 | .two i j=>max i j+1
 | .many is=>is.foldr max 0+1
noncomputable def Zsz(sc:Scope)(x:Str):Bool:=decide (sc.names.lookup x=some .local)
noncomputable def ownD(sc:Scope)(x:Str):Bool:=decide (sc.names.lookup x=some .local) || decide (sc.names.lookup x=some .cell)
noncomputable def Zc0(e:Expr):Bool:=decide (tgE e≠18)
noncomputable def ZeC(e:Expr):Bool:=decide (tgE e≠5)
noncomputable def Zav(e:Expr):Bool:=decide (tgE e≠0)
noncomputable def ZaT(e:Expr):Bool:=!(decide (tgE e=11)&&(prt e).xs.isEmpty)
noncomputable def ZhQ(e:Expr):Bool:=decide (6<=tgE e)&&decide (tgE e<=16)
mutual
noncomputable def chk(Γ:Gm):Ex->Expr->Bool
 | .var i,e=>aN e fun x=>decide (Γ.N[i]? = some x)&&(ZmZ Γ.sc x&&(!(x==("__debug__" : Str))&&!(x==("__classdict__" : Str))))
 | .cst d,e=>Ztp Γ d e
 | .glo x,e=>aX x e (glb Γ x)
 | .bin op a b,e=>aB2 op e fun l r=>chk Γ a l&&chk Γ b r
 | .cmp op a b,e=>aC1 op e fun l r=>chk Γ a l&&(chk Γ b r&&Zc0 r)
 | .cmp2 _ _ _ _ _,_=>false
 | .neg a,e=>aU .USub e fun x=>chk Γ a x
 | .nt a,e=>aU .Not e fun x=>chk Γ a x
 | .ands es,e=>aO .And e fun xs=>chks Γ es xs
 | .ors es,e=>aO .Or e fun xs=>chks Γ es xs
 | .ite c a b,e=>aI e fun t x y=>chkt Γ c t&&(chk Γ a x&&chk Γ b y)
 | .tupl es,e=>aT e fun xs=>chks Γ es xs
 | .lstl es,e=>aLs e fun xs=>chks Γ es xs
 | .ix a i,e=>aS e fun x y=>chk Γ a x&&(chk Γ i y&&ZeC y)
 | .sl a lo hi,e=>aSl e fun x l u=>chk Γ a x&&(chko Γ lo l&&chko Γ hi u)
 | .blt f es,e=>aCN (ZjH f) e fun ys=>(bok f&&glb Γ (ZjH f))&&(chks Γ es ys&&!ys.isEmpty)
 | .call f es,e=>aCN f e fun ys=>decide (f∈Γ.fs)&&(glb Γ f&&(chks Γ es ys&&!ys.isEmpty))
 | .meth m o es,e=>aCA (ZlR m) e fun x ap ys cp=>chk Γ o x&&(ZaT x&&(chks Γ es ys&&(decide (ys.length<29)&&(ap.endLine==cp.line))))
 | .trev _,_=>false
 | .lrv _,_=>false
 | .tix _ _,_=>false
 | .lix o e,x=>aCA "index" x fun x ap ys cp=>l1 ys fun y=>chk Γ o x&&(ZaT x&&(chk Γ e y&&(Zav y&&(ap.endLine==cp.line))))
 | .lin _ _,_=>false
 | .rpn _ _,_=>false
 | .comp NC js it g c e,x=>aLC x fun elt tg iter ifs scope=>Γ.top&&(Zmv NC Γ.N js Γ.sc scope&&(chki Γ it tg iter&&(Zc0 iter&&(ZoD NC (Zsz scope) g tg&&(((List.range (tgk g)).all fun j=>decide (js[j]? = some none)) &&
       (chkf ⟨NC,scope,Γ.fs,false,Γ.kl⟩ c ifs&&chk ⟨NC,scope,Γ.fs,false,Γ.kl⟩ e elt))))))
 | .sorts _,_=>false
 | .maxd a d,e=>aCk "max" "default" e fun ys z=>l1 ys fun y=>glb Γ "max" && (chk Γ a y&&(Zav y&&chk Γ d z))
 | .dictl ps,e=>aD e fun keys values=>decide (keys.length<=15)&&chkp Γ ps keys values
 | .att Cs o f,e=>aA f e fun x _=>chk Γ o x&&(ZaT x&&((Cs.all fun C=>decide (C∈Γ.kl.cs))&&decide (f∈Γ.kl.ats)))
 | .mk C es,e=>aCN C e fun ys=>decide (C∈Γ.kl.is)&&(glb Γ C&&chks Γ es ys)
 | .mcl C m o es,e=>aCA m e fun x ap ys cp=>chk Γ o x&&(ZaT x&&(chks Γ es ys&&(decide ((C,m)∈Γ.kl.ms)&&(decide (ys.length<29)&&(ap.endLine==cp.line)))))
 | .any,_=>true
noncomputable def chks(Γ:Gm):Exs->List Expr->Bool
 | .nil,es=>es.isEmpty
 | .cons e r,es=>match es with
   | x::xs=>chk Γ e x&&(Zav x&&chks Γ r xs)
   | []=>false
noncomputable def chkp(Γ:Gm):Exs->List (Option Expr)->List Expr->Bool
 | .nil,ks,vs=>ks.isEmpty&&vs.isEmpty
 | .cons k r,ks,vs=>match r with
   | .cons v r'=>match ks,vs with
     | some kx::ks,vx::vs=>chk Γ k kx&&(chk Γ v vx&&chkp Γ r' ks vs)
     | _,_=>false
   | .nil=>false
noncomputable def chko(Γ:Gm):Option Ex->Option Expr->Bool
 | none,x=>x.isNone
 | some a,x=>match x with
   | some x=>chk Γ a x
   | none=>false
noncomputable def chkf(Γ:Gm):Option Tx->List Expr->Bool
 | none,x=>x.isEmpty
 | some a,x=>l1 x fun x=>chkt Γ a x
noncomputable def ZuC(Γ:Gm):Ex->Expr->Bool
 | .cmp op a b,e=>aC1 op e fun l r=>chk Γ a l&&(chk Γ b r&&Zc0 r)
 | _,_=>false
noncomputable def chkt(Γ:Gm):Tx->Expr->Bool
 | .ex e,x=>(ZhQ x&&chk Γ e x) || ZuC Γ e x
 | .ands ts,x=>aO .And x fun xs=>chkts Γ ts xs
 | .ors ts,x=>aO .Or x fun xs=>chkts Γ ts xs
 | .nt t,x=>aU .Not x fun y=>chkt Γ t y
noncomputable def chkts(Γ:Gm):Txs->List Expr->Bool
 | .one t,xs=>l1 xs fun x=>chkt Γ t x
 | .cons t ts,xs=>match xs with
   | x::r=>chkt Γ t x&&(!r.isEmpty&&chkts Γ ts r)
   | _=>false
noncomputable def chki(Γ:Gm):Ix->Expr->Expr->Bool
 | .pl e,_,x=>chk Γ e x
 | .rng e,_,x=>aCN "range" x fun ys=>l1 ys fun y=>glb Γ "range" && (chk Γ e y&&Zav y)
 | .rng2 _ _,_,_=>false
 | .enu e,tg,x=>aCN "enumerate" x fun ys=>l1 ys fun y=>glb Γ "enumerate" && (chk Γ e y&&(Zav y&&isTup tg))
 | .rev e,_,x=>aCN "reversed" x fun ys=>l1 ys fun y=>glb Γ "reversed" && (chk Γ e y&&Zav y)
 | .en1 e,tg,x=>aCk "enumerate" "start" x fun ys z=>l1 ys fun y=>glb Γ "enumerate" && (chk Γ e y&&(Zav y&&(isTup tg&&aK z fun c=>decide (c=.int 1))))
 | .zl a b,tg,x=>aCN "zip" x fun ys=>l2 ys fun y z=>glb Γ "zip" && (chk Γ a y&&(chk Γ b z&&(Zav y&&(Zav z&&isTup tg))))
 | .zp _ _,_,_=>false
 | .en0 _,_,_=>false
 | .dk e,_,x=>chk Γ e x
end
end IV
end
section
namespace IV
open PySem PySem.Spec PyProof.Rows L2
noncomputable def leS(a b:Str):Prop:=¬ b.cps.toList<a.cps.toList
theorem ZfA(h:leS a b)(q:leS b c):leS a c:=by
 unfold leS at *;rw [List.not_lt] at *;exact List.le_trans h q
theorem ZlZ(h:leS a b)(q:leS b a):a=b:=by
 unfold leS at *;rw [List.not_lt] at *;have e:=List.le_antisymm h q;obtain ⟨⟨a⟩⟩:=a;obtain ⟨⟨b⟩⟩:=b;simp at e;subst e;rfl
theorem ZgL:∀ {ss:List Str},sortedS ss=true->ss.Pairwise leS:=by
 have gen:∀ (r:List Str) (p:Str),risingS p r=true->(∀ x∈r,leS p x)/\r.Pairwise leS:=by
   intro r;induction r with
   | nil=>intro p _;exact ⟨by simp,.nil⟩
   | cons x r ih =>
     intro p h;rw [risingS,Oa] at h;obtain ⟨h1,h2⟩:=ih x h.2;have hx:leS p x:=by
       have:=h.1;rw [ltCps_eq] at this;unfold leS;simpa using this
     refine ⟨fun y hy=>?_,.cons h1 h2⟩;rcases O2.mp hy with rfl|hy
     . exact hx
     . exact ZfA hx (h1 y hy)
 intro ss h;cases ss with
 | nil=>exact .nil
 | cons x r=>obtain ⟨h1,h2⟩:=gen r x h;exact .cons h1 h2
theorem Zex(x:Str):∀ r:List Str,(Zkc x r).Perm (x::r)
 | []=>.refl _
 | y::r=>by
   unfold Zkc;split
   . exact ((Zex x r).cons y).trans (.swap x y r)
   . exact .refl _
theorem ZcA:∀ r:List Str,(Zbo r).Perm r
 | []=>.refl _
 | x::r=>(Zex x _).trans ((ZcA r).cons x)
theorem ZgO(x:Str):∀ r:List Str,r.Pairwise leS->(Zkc x r).Pairwise leS
 | [],_=>.cons (by simp) .nil
 | y::r,h=>by
   cases h with
   | cons h1 h2 =>
     unfold Zkc;split
     . rename_i hlt;rw [ltCps_eq] at hlt;have hlt:=of_decide_eq_true hlt;refine .cons (fun z hz=>?_) (ZgO x r h2);rcases O2.mp ((Zex x r).mem_iff.mp hz) with rfl|hz
       . unfold leS;rw [List.not_lt];exact List.le_of_lt hlt
       . exact h1 z hz
     . rename_i hlt;have hxy:leS x y:=by
         unfold leS;rw [ltCps_eq] at hlt;simpa using hlt
       refine .cons (fun z hz=>?_) (.cons h1 h2);rcases O2.mp hz with rfl|hz
       . exact hxy
       . exact ZfA hxy (h1 z hz)
theorem Zfv:∀ r:List Str,(Zbo r).Pairwise leS
 | []=>.nil
 | x::r=>ZgO x _ (Zfv r)
theorem Zj7(hp:ss'.Perm ss)(hs:sortedS ss'=true):ss'=Zbo ss :=
 (hp.trans (ZcA ss).symm).eq_of_pairwise (fun _ _ _ _ h q=>ZlZ h q) (ZgL hs) (Zfv ss)
section
variable {X:Cx}{Y:Yx}{E:XK}{T:Tb}{H:Hp}{B:List Addr}{h:Hd}
theorem Zd1:∀ {ds:List (Key×D)}{vs:List (Key×V)}{ss:List Str},RKs Y H B ds vs->ZcE ds=some ss->vs.map (·.1)=ss.map Sum.inr
 | _,_,_,.nil,e=>by cases e;rfl
 | _,_,_,.cons (k:=k) a s,e=>by
   cases k with
   | inl i=>cases e
   | inr x =>
     rw [ZcE] at e;obtain ⟨z,e1,rfl⟩:=Oo.mp e;rw [Op,Op,Zd1 s e1]
theorem ZiW:∀ (ss:List Str),(∀ x∈ss,PyData.strOk x=true)->RDs Y H B (ss.map D.str) (ss.map V.str)
 | [],_=>.nil
 | x::r,h=>.cons (.str x (h x (by simp))) (ZiW r fun y hy=>h y (by simp [hy]))
theorem ZoK (hc:X.A.handled=none) (G:Gk X Y T):ZaK X (.builtin "sorted") (rF Y E (ZdB T.GD)):=by
 intro pins s Z H xs us Q I r hh;obtain ⟨ds,h,B,rh,rs,f⟩:=hh;unfold ZdB at f;split at f
 . split at f
   . rename_i ss e2;obtain ⟨hz,f⟩:=f.iff;obtain ⟨kvs,e3,e4⟩:=Option.bind_eq_some_iff.mp e2;obtain ⟨x,rfl,r1⟩:=rs.one;obtain ⟨a,kvs',rfl,hd,rk⟩:=r1.dicOf G rh e3;obtain ⟨hz,hok⟩:=hz;refine Zgt hc pins s Z H _ us Q I r ⟨a,kvs',ss,rfl,hd,Zd1 rk e4,hz,fun p ss' hp h1 h2=>?_⟩;rw [Zj7 h1 h2];refine f.new rh hp ⟨_,Zg,ZiW _ fun y hy=>?_⟩;rw [OC] at hok;exact hok y ((ZcA ss).mem_iff.mp hy)
   . exact f.elim
 . exact f.elim
end
end IV
end
section
set_option tactic.hygienic false
namespace IV
open PySem PySem.Spec PyProof.Rows L2
noncomputable def RS(Y:Yx)(H:Hp)(B:List Addr)(S:Ev)(Z:L2.St):Prop:=Z.length=S.length/\∀ (i:Nat) (d:D),S[i]? = some (some d)->∃ v,Z[i]? = some (some v)/\RD Y H B d v
section
variable {Y:Yx}{H H':Hp}{B μ':List Addr}{h:Hd}{S:Ev}{Z:L2.St}
theorem RS.mono(rh:RH Y H B h)(g:Gr H B H' μ')(r:RS Y H B S Z):RS Y H' μ' S Z:=⟨r.1,fun i d e=>let ⟨v,h1,h2⟩:=r.2 i d e;⟨v,h1,h2.mono rh g⟩⟩
theorem RS.var(r:RS Y H B S Z){i:Nat}{d:D}(e:(S[i]?).join=some d):∃ v,Z[i]? = some (some v)/\RD Y H B d v:=by
 refine r.2 i d ?_;cases q:S[i]? with
 | none=>rw [q] at e;cases e
 | some o=>rw [q] at e;cases o with
   | none=>cases e
   | some d'=>cases e;rfl
theorem RS.set(r:RS Y H B S Z){i:Nat}{d:D}{v:V}(q:RD Y H B d v):RS Y H B (S.set i (some d)) (Z.set i (some v)):=by
 refine ⟨by simp [r.1],fun j e he=>?_⟩;by_cases hj:i=j
 . subst hj;have hl:i<S.length:=by
     have:=(Ob.mp he).1;simpa using this
   rw [Ol hl] at he;cases he;exact ⟨v,by rw [Ol (by rw [r.1];exact hl)],q⟩
 . rw [Oc hj] at he;obtain ⟨w,h1,h2⟩:=r.2 j e he;exact ⟨w,by rw [Oc hj];exact h1,h2⟩
theorem RS.capt(r:RS Y H B S Z)(js:List (Option Nat)):RS Y H B (ZaJ js S) (capt js Z):=by
 refine ⟨by simp [ZaJ,L2.capt],fun i d e=>?_⟩;unfold ZaJ at e;unfold L2.capt;rw [On] at e ⊢;cases q:js[i]? with
 | none=>rw [q] at e;cases e
 | some o =>
   rw [q] at e;cases o with
   | none=>cases e
   | some j =>
     have e':(S[j]?).join=some d:=by simpa using e
     obtain ⟨v,h1,h2⟩:=r.var e';exact ⟨v,by simp [h1],h2⟩
end
inductive Sm(Y:Yx)(E:XK){α β:Type}(rel:Hp->List Addr->α->β->Prop)(m:Ev->Hd->R α)(Z:L2.St)(H:Hp)(Q:β->Hp->Prop):Prop
 | mk (S:Ev) (h:Hd) (B:List Addr) (rh:RH Y H B h) (rs:RS Y H B S Z) (f:Fin Y rel H B (m S h) Q E):Sm Y E rel m Z H Q
noncomputable def eqR{α:Type}:Hp->List Addr->α->α->Prop:=fun _ _ a b=>a=b
theorem Sm.bind{α β γ δ:Type}{Q:β->Hp->Prop}{rel:Hp->List Addr->γ->δ->Prop}{rel':Hp->List Addr->α->β->Prop}{m:Ev->Hd->R γ}{k:Ev->γ->Hd->R α}(s:Sm Y E rel' (fun S h=>(m S h).bind (k S)) Z H Q)
   {Q1:δ->Hp->Prop}
   (hk:∀ S d h1 v H1 μ1,RH Y H1 μ1 h1->RS Y H1 μ1 S Z->rel H1 μ1 d v->Fin Y rel' H1 μ1 (k S d h1) Q E->Q1 v H1):Sm Y E rel m Z H Q1:=by
 cases s with
 | mk S h B rh rs f=>exact ⟨S,h,B,rh,rs,f.bind fun d h1 x H1 μ1 _ g rh1 rd f1=>hk S d h1 x H1 μ1 rh1 (rs.mono rh g) rd f1⟩
section
variable (T:Tb) (Y:Yx) (E:XK)
noncomputable def Zad(e:Ex):TE:=Sm Y E (RD Y) (ev T e)
noncomputable def Zk5(e:Exs):TA:=Sm Y E (RDs Y) (evs T e)
noncomputable def Zj9(e:Tx):TT:=Sm Y E eqR (tst T e)
noncomputable def Zt5(e:Option Ex):TO:=Sm Y E eqR (evo T e)
noncomputable def Zt6(e:Ix):TI:=Sm Y E (WJ Y) (evi T e)
noncomputable def Zd7(f:Str):Sp:=fun vs H Q E=>∃ ds h B,RH Y H B h/\RDs Y H B ds vs/\Fin Y (RD Y) H B (T.C f ds h) Q E
end
structure Gd(T:Tb)(Γ:Gm)(X:Cx)(Y:Yx)(E:XK)(k:Nat):Prop where
 gk:Gk X Y T
 N:X.N=Γ.N
 sc:Γ.top=true->X.env.scope=Γ.sc
 vis:∀ x,ZmZ Γ.sc x=true->Vis X.env.scope x
 glo:∀ x,Γ.sc.names.lookup x=some .globalImplicit->Gl X x
 nd:X.N.Nodup
 calm:X.calm=true
 room:Room k X.A
 h60:60<=k
 pass:Za1 (CXF X.prog X.w) X E
 defs:∀ f∈Γ.fs,∃ ps,Def X.prog X.w X.K X.mg X.base k f ps (Zd7 T Y f)
 blt:∀ x∈ZjI,X.mg x=none
 room1:Room (k+1) X.A
 cls:∀ C∈Γ.kl.cs,∃ a,X.mg C=some (.ref a)/\Cls X.K a/\∀ f∈Γ.kl.ats,Zat X.K a f
 mts:∀ p∈Γ.kl.ms,∃ a f fd ps,X.mg p.1=some (.ref a)/\Cls X.K a/\Meth X.K a p.2 f/\FnOk X.prog X.w X.K X.mg X.base (CXF X.prog X.w) k f fd ps (Zd7 T Y (mnm p.1 p.2))/\Binds X.K fd ps []
 mks:∀ C∈Γ.kl.is,∃ a f fd ps,X.mg C=some (.ref a)/\Mk X.K a f/\FnOk X.prog X.w X.K X.mg X.base (CXF X.prog X.w) k f fd ps (Zd7 T Y (mnm C (O "__init__")))/\Binds X.K fd ps []
theorem _root_.L2.PE.imp(h:PE X e t)(i:∀ Z H Q,t' Z H Q->t Z H Q):PE X e t':=fun pins s Z H Q I q=>h pins s Z H Q I (i Z H Q q)
theorem _root_.L2.PT.imp(h:PT X e t)(i:∀ Z H Q,t' Z H Q->t Z H Q):PT X e t':=fun pins s Z H Q I q=>h pins s Z H Q I (i Z H Q q)
theorem _root_.L2.PW.imp(h:PW X e t)(i:∀ Z H Q,t' Z H Q->t Z H Q):PW X e t':=fun w pins s Z H Q I q=>h w pins s Z H Q I (i Z H Q q)
theorem _root_.L2.PA.imp(h:PA X e t)(i:∀ Z H Q,t' Z H Q->t Z H Q):PA X e t':=fun p pins s Z H Q I q=>h p pins s Z H Q I (i Z H Q q)
theorem _root_.L2.PO.imp(h:PO X e t)(i:∀ Z H Q,t' Z H Q->t Z H Q):PO X e t':=fun pins s Z H Q I q=>h pins s Z H Q I (i Z H Q q)
theorem _root_.L2.PI.imp(h:PI X tg e t)(i:∀ Z H Q,t' Z H Q->t Z H Q):PI X tg e t':=fun pins s Z H Q I q=>h pins s Z H Q I (i Z H Q q)
structure Kd(x:Expr):Prop where
 star:tgE x≠0->∀ xs env,starEach (x::xs) env=(false,eval x env)::starEach xs env
 set:tgE x≠18->∀ env v,foldedSetIterable x env v=pure v
 mark:tgE x≠18->∀ op,behindInMarks op x=false
 ix:tgE x≠5->ZgE x
 put:tgE x≠5->∀ o pos env v,assign (.Subscript o x pos) env v=(do
     let ov <- holding [v] (eval o env);let iv <- holding [v,ov] (eval x env)
     standAt pos
     holding [v,ov,iv] (setItem ov iv v)
     release [v,ov,iv] [])
 tr:ZhQ x=true->∀ env whole,isTrue x env whole=(do let v <- whole;standAt x.pos;holding [v] (truthy v))
 sw:tgE x≠13->tgE x≠19->∀ t n env,swapsWith x t n env=pure false
 st:tgE x≠8->∀ es j q env,swappedStores [.Tuple es j q] x env=pure none
theorem kdE(x:Expr):Kd x:=by
 cases x<;>exact ⟨by first|exact fun _ _ _=>rfl|exact fun h=>absurd rfl h,by first|exact fun _ _ _=>rfl|exact fun h=>absurd rfl h,by first|exact fun _ _=>rfl|exact fun h=>absurd rfl h,by first|exact fun _ _ _=>rfl|exact fun h=>absurd rfl h,
   by first|exact fun _ _ _ _ _=>rfl|exact fun h=>absurd rfl h,
   by first|exact fun _ _ _=>rfl|exact fun h=>ff h,by first|exact fun _ _ _ _ _=>rfl|exact fun h=>absurd rfl h|exact fun _ h=>absurd rfl h,by first|exact fun _ _ _ _ _=>rfl|exact fun h=>absurd rfl h⟩
theorem Zn(env:Env)(h:Zav x=true):starEach (x::xs) env=(false,eval x env)::starEach xs env:=(kdE x).star (of_decide_eq_true h) _ _
theorem ZhL(env:Env)(h:Zc0 x=true):∀ v,foldedSetIterable x env v=pure v:=(kdE x).set (of_decide_eq_true h) _
theorem Zji(h:Zc0 x=true):behindInMarks op x=false:=(kdE x).mark (of_decide_eq_true h) _
theorem Zk1(h:ZeC x=true):ZgE x:=(kdE x).ix (of_decide_eq_true h)
theorem Zdw(h:ZaT x=true):attributeBase x n env (eval x env)=eval x env:=by
 cases x with
 | Call f as ks p =>
   cases as with
   | nil=>cases h
   | cons a as=>cases f<;>rfl
 | _=>rfl
theorem Zdb(Γ:Gm)(env:Env):∀ (es:Exs) (xs:List Expr),chks Γ es xs=true->∀ pos,(backTo pos (starEach xs env)).any (·.1)=false/\(backTo pos (starEach xs env)).all (fun x=>!x.1)=true
 | .nil,[],_,_=>⟨rfl,rfl⟩
 | .nil,_::_,h,_=>ff h
 | .cons _ _,[],h,_=>ff h
 | .cons _ r,x::xs,h,pos=>by
   rw [Zn env (bL (bR h))];exact Zdb Γ env r xs (bR (bR h)) pos
theorem ZcW(env:Env)(h:chks Γ es (y::r)=true):starEach (y::r) env=(false,eval y env)::starEach r env/\∀ pos,(backTo pos (starEach r env)).any (·.1)=false:=by
 cases es with
 | nil=>exact ff h
 | cons e s=>exact ⟨Zn env (bL (bR h)),fun pos=>(Zdb Γ env s r (bR (bR h)) pos).1⟩
@[elab_as_elim] theorem Zpo{P:List Expr->Prop}(h:chks Γ es ys=true)(h1:(!ys.isEmpty)=true)(k:∀ y r,chks Γ es (y::r)=true->P (y::r)):P ys:=by
 cases ys with
 | nil=>exact ff h1
 | cons y r=>exact k y r h
theorem Gd.gl {T:Tb}{Γ:Gm}{X:Cx}{Y:Yx}{E:XK}{k:Nat} (G:Gd T Γ X Y E k) {x:Str} (h:glb Γ x=true):Gl X x/\(x==("__debug__" : Str))=false:=by
 unfold glb at h;rw [Oa] at h;exact ⟨G.glo x (of_decide_eq_true h.1),by simpa using h.2⟩
theorem ZeF{f:Str->NameKind->NameKind}(x:Str):∀ names:List (Str×NameKind),(names.map fun p=>(p.1,f p.1 p.2)).lookup x=(names.lookup x).map (f x)
 | []=>rfl
 | (n,k)::r=>by
   rw [Op,OF,OF];by_cases e:x=n
   . subst e;simp
   . have:(x==n)=false:=by simpa using e
     simp only [this];exact ZeF x r
theorem ZaR(scope:Scope)(env:Env)(x:Str):(relabel scope env).names.lookup x=(scope.names.lookup x).map fun k=>if (k==NameKind.free&&env.scope.kind==.function&&env.kindOf x==some .cell) then NameKind.cell else k:=by
 have e:(relabel scope env).names=scope.names.map fun p=>(p.1,(fun (n:Str) (k:NameKind)=>if (k==NameKind.free&&env.scope.kind==.function&&env.kindOf n==some .cell) then NameKind.cell else k) p.1 p.2):=by
   unfold relabel;simp only;refine List.map_congr_left fun p _=>?_;obtain ⟨n,k⟩:=p;simp only;split<;>rfl
 rw [e];exact ZeF (f:=fun (n:Str) (k:NameKind)=>if (k==NameKind.free&&env.scope.kind==.function&&env.kindOf n==some .cell) then NameKind.cell else k) x scope.names
theorem Gd.comp{T:Tb}{Γ:Gm}{X:Cx}{Y:Yx}{E:XK}{k:Nat}(G:Gd T Γ X Y E k)(NC:List Str)(scope:Scope)(C:Addr)(s3:Shared)(H3:Hp)(fp:List Addr)(nd:NC.Nodup):Gd T ⟨NC,scope,Γ.fs,false,Γ.kl⟩ (Zy X NC scope C s3 H3 fp) Y E0 k:=by
 refine ⟨⟨G.gk.K,G.gk.mg,G.gk.gd,G.gk.g,G.gk.bare⟩,rfl,(fun h=>by cases h),fun x hx=>?_,fun x hx=>?_,nd,rfl,G.room,G.h60,Zkj,G.defs,G.blt,G.room1,G.cls,G.mts,G.mks⟩
 . show Vis (relabel scope X.env) x;unfold Vis;rw [ZaR];unfold ZmZ at hx;rw [Bool.or_eq_true,Bool.or_eq_true] at hx;rcases hx with (hx|hx)|hx
   . rw [of_decide_eq_true hx];exact .inl rfl
   . rw [of_decide_eq_true hx];exact .inr (.inl rfl)
   . rw [of_decide_eq_true hx];by_cases q:(X.env.scope.kind==.function&&X.env.kindOf x==some .cell)=true
     . refine .inr (.inl ?_);have:(NameKind.free==NameKind.free&&X.env.scope.kind==.function&&X.env.kindOf x==some .cell)=true:=by simpa using q
       simp only [Option.map_some,this,if_true]
     . refine .inr (.inr ?_);have:¬ ((NameKind.free==NameKind.free&&X.env.scope.kind==.function&&X.env.kindOf x==some .cell)=true):=by simpa using q
       simp only [Option.map_some,this,if_false];rfl
 . show (relabel scope X.env).names.lookup x=some .globalImplicit;rw [ZaR,hx];rfl
section
variable {T:Tb}{Y:Yx}{E:XK}{Z:L2.St}{H:Hp}{Q:VK}
theorem Znd{a b:Ex}{f:D->D->Hd->R D}(s:Sm Y E (RD Y) (fun S h=>(ev T a S h).bind fun x h1=>(ev T b S h1).bind fun y h2=>f x y h2) Z H Q):Zad T Y E a Z H fun x H1=>Zad T Y E b Z H1 fun y H2=>rB Y E f x y H2 Q :=
 s.bind fun S d h1 x H1 μ1 rh1 rs1 rd f1=>⟨S,h1,μ1,rh1,rs1,f1.bind fun e h2 y H2 μ2 _ g2 rh2 re f2=>⟨d,e,h2,μ2,rh2,rd.mono rh1 g2,re,f2⟩⟩
end
theorem Zrm{T:Tb}{Γ:Gm}{X:Cx}{Y:Yx}{E:XK}{k:Nat}(G:Gd T Γ X Y E k)(f:Bf)(hb:bok f=true){e:Expr}{es:List Expr}{t:TA}{p pos:Pos}(hg:Gl X (ZjH f))(ha:PA X (e::es) t)
   (he:starEach (e::es) X.env=(false,eval e X.env)::starEach es X.env) (hpl:(backTo pos (starEach es X.env)).any (·.1)=false):PE X (.Call (.Name (ZjH f) p) (e::es) [] pos) (tCB (rF Y E (Zao T.GD f)) t):=by
 have hY:=G.gk.K;cases f with
 | len=>exact Zb6 (ZoL hY) hg (G.blt _ (by decide)) (by decide +kernel) ha (by decide) (by decide) he hpl
 | isi=>exact Zb6 (ZoM hY) hg (G.blt _ (by decide)) (by decide +kernel) ha (by decide) (by decide) he hpl
 | int=>cases hb
 | tup=>exact Zfx (ZoI hY) hg (G.blt _ (by decide)) (by decide +kernel) ha (by decide) (by decide) he hpl
 | lst=>cases hb
 | sum=>exact Zb6 (ZoJ G.room.hd hY) hg (G.blt _ (by decide)) (by decide +kernel) ha (by decide) (by decide) he hpl
 | all=>exact Zb6 (ZoO G.calm hY) hg (G.blt _ (by decide)) (by decide +kernel) ha (by decide) (by decide) he hpl
 | mx=>cases hb
 | sri=>cases hb
 | dct=>exact Zfx ZoN hg (G.blt _ (by decide)) (by decide +kernel) ha (by decide) (by decide) he hpl
 | lnd=>cases hb
 | srt=>exact Zb6 (ZoK G.room.hd G.gk) hg (G.blt _ (by decide)) (by decide +kernel) ha (by decide) (by decide) he hpl
end IV
end
section
namespace IV
open PySem PySem.Spec PyProof.Rows L2
theorem Ze7{v:V}(rd:∀ H B,RD Y H B d v)(p:PE X x (tC v)):PE X x (Zad T Y E (.cst d)):=PE.imp p fun Z H Q s=>by
 cases s with
 | mk S h B rh rs f=>exact Fin.ok (r:=rd H B) (show Fin Y (RD Y) H B (.ok d h) Q E from f) rh
theorem Zmu(G:Gd T Γ X Y E k)(h:Ztp Γ d x=true):PE X x (Zad T Y E (.cst d)):=by
 refine bO h (fun h=>Zs0 (P:=fun x=>PE X x _) h fun c j q h=>?_) fun h=>?_
 . cases d with
   | int i=>cases c with
     | int j=>exact dS (P:=fun i=>PE X _ (Zad T Y E (.cst (.int i)))) h (Ze7 (fun _ _=>.int _) Zly)
     | _=>exact ff h
   | str i=>cases c with
     | str j=>exact dS (P:=fun i=>PE X _ (Zad T Y E (.cst (.str i)))) (bL h) (Ze7 (fun _ _=>.str _ (bR h)) Zqc)
     | _=>exact ff h
   | bl i=>cases c with
     | bool j=>exact dS (P:=fun i=>PE X _ (Zad T Y E (.cst (.bl i)))) h (Ze7 (fun _ _=>.bl _) Zsy)
     | _=>exact ff h
   | non=>cases c with
     | none=>exact Ze7 (fun _ _=>.non) Zqe
     | _=>exact ff h
   | _=>exact ff h
 . cases d with
   | ty n =>
     refine ZmR (P:=fun x=>PE X x _) h fun p h=>?_;obtain ⟨g1,g2⟩:=G.gl (bR h);have all:(ZiQ.all fun n=>decide (bootBuiltins (Str.ofString n)=some (.type n))&&(decide (Str.ofString n ≠ "__name__")&&decide (Str.ofString n∈ZjI)))=true:=by decide +kernel
     have a:=OC.mp all n (of_decide_eq_true (bL h));exact Ze7 (fun _ _=>.ty _) (ZnL g1 (G.blt _ (of_decide_eq_true (bR (bR a)))) (of_decide_eq_true (bL a)) rfl (of_decide_eq_true (bL (bR a))) g2)
   | _=>exact ff h
theorem R.bind_eq{α β:Type}{r:R α}{k:α->Hd->R β}{b:β}{h:Hd}(e:r.bind k=.ok b h):∃ a h1,r=.ok a h1/\k a h1=.ok b h:=by
 cases r with
 | bad=>cases e
 | ok a h1=>exact ⟨a,h1,rfl,e⟩
 | exc c h1=>cases e
theorem R.bind_assoc{α β γ:Type}{r:R α}{k:α->Hd->R β}{l:β->Hd->R γ}:(r.bind k).bind l=r.bind fun a h=>(k a h).bind l:=by cases r<;>rfl
theorem Zqs(e:opC GD op x y h=.ok r h'):∃ b,r=.bl b:=by
 have i2:∀ {f:Int->Int->Bool},Zf3 f x y h=.ok r h'->∃ b,r=.bl b:=fun e=>by
   unfold Zf3 at e;split at e
   . cases e;exact ⟨_,rfl⟩
   . cases e
 have eq:∀ {n:Bool},Zbr n x y h=.ok r h'->∃ b,r=.bl b:=fun e=>by
   unfold IV.Zbr at e;split at e
   . split at e
     . cases e;exact ⟨_,rfl⟩
     . cases e
   . cases e
 have inn:∀ {n:Bool},ZbR GD n x y h=.ok r h'->∃ b,r=.bl b:=fun e=>by
   unfold ZbR at e;split at e
   . split at e
     . cases e;exact ⟨_,rfl⟩
     . cases e
   . split at e
     . cases e;exact ⟨_,rfl⟩
     . cases e
 have n1:∀ {n:Bool},opN n x y h=.ok r h'->∃ b,r=.bl b:=fun e=>by
   unfold opN at e;split at e
   . cases e;exact ⟨_,rfl⟩
   . cases e
 unfold opC at e;split at e
 . exact eq e
 . exact eq e
 . exact i2 e
 . exact i2 e
 . exact i2 e
 . exact i2 e
 . exact inn e
 . exact inn e
 . exact n1 e
 . exact n1 e
theorem ZsP (m:Mf):Slot "list" (ZlR m) (mid m)/\typeOf (.builtin (mid m))=pure (.type "method_descriptor"):=by
 cases m with
 | app=>exact ⟨PySem.F.slot_list_append,PySem.F.type_list_append⟩
 | ext=>exact ⟨PySem.F.slot_list_extend,PySem.F.type_list_extend⟩
 | pop=>exact ⟨PySem.F.slot_list_pop,PySem.F.type_list_pop⟩
 | rev=>exact ⟨PySem.F.slot_list_reverse,PySem.F.type_list_reverse⟩
 | clr=>exact ⟨PySem.F.slot_list_clear,PySem.F.type_list_clear⟩
section
variable {Y:Yx}{α β α' β':Type}{rel:Hp->List Addr->α->β->Prop}{rel':Hp->List Addr->α'->β'->Prop}{H0 H H1:Hp}{μ0 B μ1:List Addr}{E:XK}
theorem Fin.bindB(g0:Gr H0 μ0 H B)(f:Fin Y rel' H0 μ0 (r.bind k) Q E)
   (hk:∀ a h1 b H1 μ1,r=.ok a h1->Gr H B H1 μ1->RH Y H1 μ1 h1->rel H1 μ1 a b->Fin Y rel' H0 μ0 (k a h1) Q E->Q1 b H1):Fin Y rel H B r Q1 E:=by
 cases r with
 | bad=>exact f
 | ok a h=>exact fun b H' μ' g' rh rl=>hk a h b H' μ' rfl g' rh rl f
 | exc c h=>exact fun H' μ' C g'=>f H' μ' C (g0.trans g')
theorem Fin.plain(f:Fin Y rel' H0 μ0 (r.plain.bind k) Q E)
   (hk:∀ a h1 b H1 μ1,r=.ok a h1->Gr H B H1 μ1->RH Y H1 μ1 h1->rel H1 μ1 a b->Fin Y rel' H0 μ0 (k a h1) Q E->Q1 b H1):Fin Y rel H B r Q1 E0:=by
 cases r with
 | bad=>exact f
 | ok a h=>exact fun b H' μ' g' rh rl=>hk a h b H' μ' rfl g' rh rl f
 | exc c h=>exact f.elim
end
noncomputable def Zg6:List Nat->TGs
 | []=>Zon
 | i::is=>Zg7 (ZbT i) (Zg6 is)
noncomputable def tgR(K:PySem.W.Frag):Tg->TG
 | .nm i=>ZbT i
 | .two i j=>Zom K 2 (Zg7 (ZbT i) (Zg7 (ZbT j) Zon))
 | .many is=>Zom K is.length (Zg6 is)
theorem ZgJ:∀ is:List Nat,is.foldr max 0<k->ZhC k (Zg6 is)
 | [],_=>ZiT
 | i::is,h=>by
   simp only [List.foldr_cons] at h;exact Zep (by lia) (ZgJ is (by lia))
theorem ZrU(K:PySem.W.Frag)(g:Tg):ZiJ (tgk g) (tgR K g):=by
 cases g with
 | nm i=>exact Zm4 (OH i)
 | two i j=>exact ZkU (Zep (show i<max i j+1 by lia) (Zep (show j<max i j+1 by lia) ZiT))
 | many is=>exact ZkU (ZgJ is (OH _))
theorem ZdS:∀ (is:List Nat) (es:List Expr),ZjD N own is es=true->(assignEach es env).length=is.length/\List.findIdx? (fun x=>x.fst) (assignEach es env)=none
 | [],[],_=>⟨rfl,rfl⟩
 | i::is,e::es,h=>by
   obtain ⟨a,b⟩:=ZdS (env:=env) is _ (bR h);refine Za4 (P:=fun e=>(assignEach (e::es) env).length=_/\List.findIdx? (fun x=>x.fst) (assignEach (e::es) env)=none) (bL h) fun x p _ _=>⟨congrArg (·+1) a,?_⟩
   simp only [assignEach,List.findIdx?_cons,b];rfl
 | [],_::_,h=>ff h
 | _::_,[],h=>ff h
theorem ZgS(hN:X.N=N)(nd:X.N.Nodup)(ho:∀ x,own x=true->Loc X.env.scope x/\(X.fn x=true\/X.env.scope.names.lookup x=some .local)):∀ (is:List Nat) (es:List Expr),ZjD N own is es=true->PGs X es (Zg6 is)
 | [],[],_=>Zi6
 | i::is,e::es,h=>Za4 (P:=fun e=>PGs X (e::es) _) (bL h) fun x p e1 e2=>ZeA (Zi8 nd (by rw [hN];exact e1) (ho _ e2).1 (ho _ e2).2) (ZgS hN nd ho is _ (bR h))
 | [],_::_,h=>ff h
 | _::_,[],h=>ff h
theorem Zi7(hN:X.N=N)(nd:X.N.Nodup)(hc:X.calm=true)(ho:∀ x,own x=true->Loc X.env.scope x/\(X.fn x=true\/X.env.scope.names.lookup x=some .local))(h:ZoD N own g tg=true):PG X tg (tgR X.K g):=by
 have nm:∀ {i x p},N[i]? = some x->own x=true->PG X (.Name x p) (ZbT i):=fun e1 e2=>Zi8 nd (by rw [hN];exact e1) (ho _ e2).1 (ho _ e2).2;cases g with
 | nm i=>exact Za4 (P:=fun t=>PG X t _) h fun x p e1 e2=>nm e1 e2
 | two i j=>exact ZgK (P:=fun t=>PG X t _) (show ZjF N own i j tg=true from h) fun xs k q h=>Zpi (P:=fun xs=>PG X (.Tuple xs k q) _) h fun a b h=>Za4 (P:=fun a=>PG X (.Tuple [a,b] k q) _) (bL h) fun x p e1 e2=>Za4 (P:=fun b=>PG X (.Tuple [_,b] k q) _) (bR h) fun y r e3 e4=>Zlt hc (ZeA (nm e1 e2) (ZeA (nm e3 e4) Zi6))
 | many is=>exact ZgK (P:=fun t=>PG X t _) (show ZjE N own is tg=true from h) fun xs k q h=>Zlt (hn:=(ZdS _ _ h).1) (hst:=(ZdS _ _ h).2) hc (ZgS hN nd ho _ _ h)
theorem Zjj:∀ (is:List Nat) {ds:List D}{vs:List V}{S:Ev}{Z:L2.St},RDs Y H B ds vs->RS Y H B S Z->ds.length=is.length->(∀ σ1,RS Y H B (ZhM is ds S) σ1->Q σ1 H)->Zg6 is vs Z H Q
 | [],ds,vs,S,Z,r,rs,hl,q=>by
   cases r with
   | nil=>exact ⟨rfl,q _ rs⟩
   | cons a s=>simp at hl
 | i::is,ds,vs,S,Z,r,rs,hl,q=>by
   cases r with
   | nil=>simp at hl
   | cons a s=>exact ⟨_,_,rfl,Zjj is s (rs.set a) (by simpa using hl) q⟩
theorem Zgy{Y:Yx}{K:PySem.W.Frag}{Q:L2.St->Hp->Prop}(hY:Y.K=K)(r:RD Y H B d v)(rs:RS Y H B S Z)(e:Za8 g d S=some ρ1)(q:∀ σ1,RS Y H B ρ1 σ1->Q σ1 H):tgR K g v Z H Q:=by
 cases g with
 | nm i =>
   cases e;exact q _ (rs.set r)
 | two i j =>
   unfold Za8 at e;simp only at e;split at e
   . cases e;obtain ⟨a,vs,rfl,t,s⟩:=r.tup_inv;obtain ⟨x,y,rfl,r1,r2⟩:=s.two;exact ⟨a,_,rfl,hY ▸ t,rfl,x,_,rfl,y,_,rfl,rfl,q _ ((rs.set r1).set r2)⟩
   . cases e
 | many is =>
   unfold Za8 at e;simp only at e;split at e
   . split at e
     . rename_i hl;cases e;obtain ⟨a,vs,rfl,t,s⟩:=r.tup_inv;exact ⟨a,vs,rfl,hY ▸ t,by rw [<- s.length,hl],Zjj is s rs hl q⟩
     . cases e
   . cases e
section
variable {Y:Yx}{H:Hp}{B:List Addr}{h:Hd}{Dd:Addr}{ys zs:List V}
theorem ZkZ{K:PySem.W.Frag}(hD:H Dd=some (.lst ys))(t:SqT K H a vs):SqT K (upd H Dd (.lst zs)) a vs:=by
 rcases t with t|t
 . rcases t with t|⟨o,t⟩
   . exact .inl (.inl (by rw [Zh (fun z=>by rw [z,hD] at t;cases t)];exact t))
   . exact .inl (.inr ⟨o,by rw [Zh (fun z=>by rw [z,hD] at t;cases t)];exact t⟩)
 . exact .inr t
theorem Zme{K:PySem.W.Frag}(hD:H Dd=some (.lst ys))(t:FzL K H a vs):FzL K (upd H Dd (.lst zs)) a vs:=by
 rcases t with ⟨o,t⟩|t
 . exact .inl ⟨o,by rw [Zh (fun z=>by rw [z,hD] at t;cases t)];exact t⟩
 . exact .inr t
theorem Tr.swap(hD:H Dd=some (.lst ys)):Tr Y H B (upd H Dd (.lst zs)) B:=⟨ZkZ hD,Zme hD,id⟩
theorem RH.swap(hD:H Dd=some (.lst ys))(hn:Dd ∉ B)(r:RH Y H B h):RH Y (upd H Dd (.lst zs)) B h :=
 r.tr (.swap hD) fun _ ha=>Zh fun z=>hn (z ▸ ha)
theorem Gr.out(g:Gr H B H' μ')(hD:H Dd=some o)(hn:Dd ∉ B):H' Dd=some o/\Dd ∉ μ' :=
 ⟨g.keep _ _ hn hD,fun hm=>(g.new _ hm).elim hn fun z=>by rw [hD] at z;cases z⟩
end
inductive CwS(Y:Yx)(H1:Hp)(μ1:List Addr)(xs:List D)(Dd:Addr)(F:List D->List D->Hd->Prop)(i m:Nat)(ys:List V)(H:Hp):Prop
 | mk (acc:List D) (h:Hd) (B:List Addr) (hi:i<=xs.length) (hm:m=xs.length - i) (g:Gr H1 μ1 H B) (rh:RH Y H B h) (ra:RDs Y H B acc ys) (nd:Dd ∉ B) (f:F (xs.drop i) acc h):CwS Y H1 μ1 xs Dd F i m ys H
theorem ZjB{T:Tb}{Y:Yx}{E:XK}{K:PySem.W.Frag}(hY:Y.K=K){js:List (Option Nat)}{g:Tg}{c:Option Tx}{e:Ex}{tc:TT}{J:It}{w:Wk}{H1:Hp}{μ1:List Addr}{h1:Hd}{S:Ev}{Z:L2.St}{Q:VK}{Dd:Addr}
   (htc:∀ Z H Q,Sm Y E0 eqR (tsto T c) Z H Q->tc Z H Q)
   (rh:RH Y H1 μ1 h1) (rs:RS Y H1 μ1 S Z) (wj:WJ Y H1 μ1 w J) (f:Fin Y (RD Y) H1 μ1 ((ZF w.src g (tsto T c) (ev T e) w.xs (ZaJ js S) [] h1).bind fun xs h2=>Zbs (.lst xs) h2) Q E) (hD:H1 Dd=none) :
   ∃ W:Nat->Nat->List V->Hp->Prop,(∃ m,W 0 m [] (upd H1 Dd (.lst []))) /\
     ∀ i m ys H,W i m ys H->H Dd=some (.lst ys)->(J.stop i H/\Q (.ref Dd) H) \/
       (J.go i H/\ys.length<sizeLine/\∀ x H',J.yld i H x H'->tgR K g x (capt js Z) H' fun σ2 H2=>tc σ2 H2 fun b H3 =>
         if b=true then Zad T Y E0 e σ2 H3 fun y H4=>H4 Dd=some (.lst ys)/\∃ m',m'<m/\W (i+1) m' (ys++[y]) (upd H4 Dd (.lst (ys++[y])))
         else H3 Dd=some (.lst ys)/\∃ m',m'<m/\W (i+1) m' ys H3):=by
 have n1:=rh.fr hD;refine ⟨CwS Y H1 μ1 w.xs Dd fun xs acc h=>Fin Y (RD Y) H1 μ1 ((ZF w.src g (tsto T c) (ev T e) xs (ZaJ js S) acc h).bind fun xs h2=>Zbs (.lst xs) h2) Q E,⟨w.xs.length,[],h1,μ1,Nat.zero_le _,(Nat.sub_zero _).symm,Gr.lay0 hD,rh.lay0 hD,.nil,n1,f⟩,?_⟩;rintro i m ys H ⟨acc,h,B,hi,rfl,g1,rh1,ra,nD,f1⟩ hl;by_cases hlt:i<w.xs.length
 . obtain ⟨d,hd⟩:∃ d,w.xs[i]? = some d:=⟨_,Og hlt⟩
   have hdrop:w.xs.drop i=d::w.xs.drop (i+1):=by
     rw [List.drop_eq_getElem_cons hlt];have:=Og hlt;rw [hd] at this;rw [<- Option.some.inj this]
   rw [hdrop,ZF] at f1;by_cases hs:Wk.stays w.src h=true/\acc.length<sizeLine
   . rw [if_pos hs] at f1;obtain ⟨go,yl⟩:=(wj H B h g1 rh1 hs.1).1 i d hd;refine .inr ⟨go,by rw [<- ra.length];exact hs.2,fun x H' hy=>?_⟩;obtain ⟨g2,rh2,rx⟩:=yl x H' hy;obtain ⟨hl2,nD2⟩:=g2.out hl nD;have g02:=g1.trans g2;split at f1
     . exact f1.elim
     . rename_i ρ1 hb;refine Zgy hY rx ((rs.mono rh g02).capt js) hb fun σ1 rs1=>htc σ1 H' _ ⟨ρ1,h,B,rh2,rs1,?_⟩;rw [R.bind_assoc] at f1;refine Fin.plain f1 fun b h3 b' H3 μ3 _ g3 rh3 eb f3=>?_;subst eb;obtain ⟨hl3,nD3⟩:=g3.out hl2 nD2;have g03:=g02.trans g3;cases b with
       | true =>
         rw [if_pos rfl] at f3 ⊢;rw [R.bind_assoc] at f3;refine ⟨ρ1,h3,μ3,rh3,rs1.mono rh2 g3,Fin.plain f3 fun y h4 y' H4 μ4 _ g4 rh4 ry f4=>?_⟩;obtain ⟨hl4,nD4⟩:=g4.out hl3 nD3;refine ⟨hl4,_,Nat.sub_lt_sub_left hlt (OH i),acc++[y],h4,μ4,hlt,rfl,(g03.trans g4).put hD,rh4.swap hl4 nD4,((((ra.mono rh1 g2).mono rh2 g3).mono rh3 g4).append (.cons ry .nil)).tr (.swap hl4),nD4,f4⟩
       | false =>
         rw [if_neg (by decide)] at f3 ⊢;exact ⟨hl3,_,Nat.sub_lt_sub_left hlt (OH i),acc,h3,μ3,hlt,rfl,g03,rh3,(ra.mono rh1 g2).mono rh2 g3,nD3,f3⟩
   . rw [if_neg hs] at f1;exact f1.elim
 . have he:i=w.xs.length:=by lia
   subst he;rw [List.drop_eq_nil_of_le (Oq _),ZF] at f1;by_cases hs:Wk.stays w.src h=true
   . rw [if_pos hs] at f1;refine .inl ⟨(wj H B h g1 rh1 hs).2,?_⟩;have f2:Fin Y (RD Y) H1 μ1 (.ok (.ref h.length) (h++[.lst acc])) Q E:=f1;exact f2.at (g1.add hD) (rh1.add nD ⟨ys,hl,ra.tr .more⟩) (.ref (by rw [rh1.len];simp))
   . rw [if_neg hs] at f1;exact f1.elim
end IV
end
section
namespace IV
open PySem PySem.Spec PyProof.Rows L2
section
variable {Y:Yx}{H:Hp}{B:List Addr}{h:Hd}
theorem RKs.look:∀ {fs:List (Str×D)}{gs:List (Str×V)},RKs Y H B fs gs->(∀ d,fs.lookup f=some d->∃ v,gs.lookup f=some v/\RD Y H B d v)/\(fs.lookup f=none->gs.lookup f=none)
 | _,_,.nil=>⟨fun d e=>by simp at e,fun _=>rfl⟩
 | _,_,.cons (k:=k) (d:=d0) (v:=v0) a s=>by
   by_cases e:f=k
   . subst e;exact ⟨fun d z=>by simp at z;subst z;exact ⟨_,by simp,a⟩,fun z=>by simp at z⟩
   . have b:(f==k)=false:=by simpa using e
     obtain ⟨q1,q2⟩:=RKs.look (f:=f) s;refine ⟨fun d z=>?_,fun z=>?_⟩
     . rw [OF,b] at z ⊢;exact q1 d z
     . rw [OF,b] at z ⊢;exact q2 z
theorem RKs.putAF(r:RD Y H B d v):∀ {fs:List (Str×D)}{gs:List (Str×V)},RKs Y H B fs gs->RKs Y H B (Zkd f d fs) (Zbh f v gs)
 | _,_,.nil=>.cons r .nil
 | _,_,.cons (k:=k) a s=>by
   unfold Zkd Zbh;by_cases e:k=f
   . rw [if_pos e,if_pos e];exact .cons r s
   . rw [if_neg e,if_neg e];exact .cons a (RKs.putAF r s)
theorem ZeN(rh:RH Y H B h)(r:RD Y H B d v)(e:ZW d h=some (C,fs)):∃ i a Ca dx gs,d=.ref i/\v=.ref a/\B[i]? = some a/\h[i]? = some (.ins C fs)/\H a=some (.ins Ca dx gs)/\Y.mg C=some (.ref Ca)/\RKs Y H B fs gs:=by
 unfold ZW at e;split at e
 . rename_i i;split at e
   . rename_i C' fs' hi;cases e;cases r with
     | ref q =>
       rename_i a;obtain ⟨Ca,dx,gs,z,m,s⟩:=rh.ob i _ a hi q;exact ⟨i,a,Ca,dx,gs,rfl,rfl,q,hi,z,m,s⟩
   . cases e
 . cases e
theorem Zn8(rh:RH Y H B h)(hx:H x=none)(hd:H dx=none)(ne:dx≠x)(m:Y.mg C=some (.ref Ca)):RH Y (upd (upd H dx (.own x)) x (.ins Ca dx [])) (B++[x]) (h++[.ins C []])/\Gr H B (upd (upd H dx (.own x)) x (.ins Ca dx [])) (B++[x]):=by
 have hx':upd H dx (.own x) x=none:=by rw [Zh (fun z=>ne z.symm)];exact hx
 exact ⟨(rh.lay0 hd).lay hx' ⟨Ca,dx,[],Zg,m,.nil⟩,(Gr.lay0 hd).trans (Gr.lay hx')⟩
end
theorem Zks(hbase:attributeBase o name env (eval o env)=eval o env)
   (hform:methodCallForm (args.length+([]:List Keyword).length) (backTo pos (starEach args env)) (backToKw pos (keywordEach [] env))=true) (hline:(apos.endLine==pos.line)=true) :
   eval (.Call (.Attribute o name apos) args [] pos) env=(do
     let ov <- eval o env
     standAt apos.atName
     let (f,first) <- holding [ov] (getMethod ov name (do return (<- importBound o env).getD true))
     callWith pos f first (backTo pos (starEach args env)) (backToKw pos (keywordEach [] env))):=by
 have hpos:methodCallPos true o env apos pos=pure pos:=by unfold methodCallPos;simp [hline]
 rw [arm_eval_Call,hbase];unfold methodCall;simp only [hform,hpos];rfl
section
variable {T:Tb}{Γ:Gm}{X:Cx}{Y:Yx}{E:XK}{k:Nat}
theorem Zrr(G:Gd T Γ X Y E k)(hc:(Cs.all fun C=>decide (C∈Γ.kl.cs))=true)(hf:f∈Γ.kl.ats)(rh:RH Y H B h)(rd:RD Y H B d x)(ff:Fin Y (RD Y) H B (Zfl Cs f d h) Q E) :
   ∃ a C dx fs v,x=.ref a/\H a=some (.ins C dx fs)/\Cls X.K C/\Zat X.K C f/\fs.lookup f=some v/\Q v H:=by
 unfold Zfl at ff;split at ff
 . rename_i C fs e;obtain ⟨hC,ff⟩:=ff.iff;obtain ⟨i,a,Ca,dx,gs,rfl,rfl,q,hi,z,m,s⟩:=ZeN rh rd e;obtain ⟨w,e1,ff⟩:=ff.ofO;obtain ⟨v,l,rv⟩:=(s.look (f:=f)).1 w e1;rw [OC] at hc;obtain ⟨Ca',m',cl,na⟩:=G.cls C (of_decide_eq_true (hc C hC));rw [G.gk.mg,m'] at m;cases m;exact ⟨a,Ca,dx,gs,v,rfl,z,cl,na f hf,l,ff.ok rh rv⟩
 . exact ff.elim
theorem Zk3(G:Gd T Γ X Y E k)(hc:(Cs.all fun C=>decide (C∈Γ.kl.cs))=true)(hf:f∈Γ.kl.ats)(rh:RH Y H B h)(rd:RD Y H B d x)(re:RD Y H B e y)(ff:Fin Y (RD Y) H B (ZfT Cs f d e h) Q E) :
   ∃ a C dx fs,x=.ref a/\H a=some (.ins C dx fs)/\Cls X.K C/\Zat X.K C f/\fs.length<1000/\Q .non (upd H a (.ins C dx (Zbh f y fs))):=by
 unfold ZfT at ff;split at ff
 . rename_i i;split at ff
   . rename_i C fs hi;obtain ⟨⟨hC,hl⟩,ff⟩:=ff.iff;obtain ⟨i',a,Ca,dx,gs,e1,rfl,q,hi',z,m,s⟩:=ZeN rh rd (show ZW (.ref i) h=some (C,fs) by simp [ZW,hi]);cases e1;rw [OC] at hc;obtain ⟨Ca',m',cl,na⟩:=G.cls C (of_decide_eq_true (hc C hC));have m0:=m;rw [G.gk.mg,m'] at m;cases m;refine ⟨a,Ca,dx,gs,rfl,z,cl,na f hf,by rw [<- s.length];exact hl,ff.at (Gr.write (O1 q) (by rw [z];trivial)) (rh.write q ?_ (by rw [z];trivial)) .non⟩;exact ⟨Ca,dx,_,Zg,m0,(RKs.putAF re s).mono rh (Gr.write (O1 q) (by rw [z];trivial))⟩
   . exact ff.elim
 . exact ff.elim
theorem ZsQ(G:Gd T Γ X Y E k)(h2:C∈Γ.kl.is)(h3:glb Γ C=true)(h4:chks Γ es ys=true)(ha:PA X ys (Zk5 T Y E es)):PE X (.Call (.Name C p) ys [] pos) (Zad T Y E (.mk C es)):=by
 obtain ⟨a,f,fd,ps,m,M,F,B_⟩:=G.mks _ h2;obtain ⟨g1,g2⟩:=G.gl h3;have key:∀ (ds:List D) (h1:Hd) (xs:List V) (H1:Hp) (μ1:List Addr) (Q:VK),RH Y H1 μ1 h1->RDs Y H1 μ1 ds xs->Fin Y (RD Y) H1 μ1 (ZlO T.C C ds h1) Q E->∀ x dx,H1 x=none->H1 dx=none->dx≠x ->
     Zd7 T Y (mnm C (O "__init__")) (.ref x::(xs++[])) (upd (upd H1 dx (.own x)) x (.ins a dx [])) (fun v H2=>v=.non/\Q (.ref x) H2) E:=by
   intro ds h1 xs H1 μ1 Q rh1 rds f1 x dx hx hd ne;obtain ⟨rh2,g2⟩:=Zn8 (C:=C) (Ca:=a) rh1 hx hd ne (by rw [G.gk.mg];exact m);have px:(μ1++[x])[h1.length]? = some x:=by rw [rh1.len];simp
   refine ⟨.ref h1.length::ds,h1++[.ins C []],μ1++[x],rh2,.cons (.ref px) (by rw [List.append_nil];exact rds.mono rh1 g2),?_⟩;refine Fin.bind (Fin.mono g2 f1) fun d h3 v H3 μ3 _ g3 rh3 rd3 f3=>?_;cases d with
   | non=>cases rd3;exact ⟨rfl,f3.ok rh3 (.ref (g3.pre _ _ px))⟩
   | _=>exact f3.elim
 cases ys with
 | nil =>
   cases es with
   | nil =>
     exact (Zlx M F G.room1 g1 m B_ .nil G.pass g2).imp fun Z H Q s=>by
       cases s with
       | mk S h B rh rs f=>exact key [] h [] H B Q rh .nil f
   | cons e r=>exact ff h4
 | cons y ys=>exact (ZnF M F G.room1 g1 m B_ .nil G.pass ha g2 (ZcW X.env h4).1 ((ZcW X.env h4).2 _)).imp fun Z H Q s=>Sm.bind s fun S ds h1 xs H1 μ1 rh1 _ rds f1=>key ds h1 xs H1 μ1 Q rh1 rds f1
theorem Zqz(G:Gd T Γ X Y E k)(h5:(C,n)∈Γ.kl.ms)(h3:ZaT xo=true)(h4:chks Γ es ys=true)(h6:ys.length<29)(h7:(ap.endLine==cp.line)=true)(ho:PE X xo (Zad T Y E o))(ha:PA X ys (Zk5 T Y E es)) :
   PE X (.Call (.Attribute xo n ap) ys [] cp) (Zad T Y E (.mcl C n o es)):=by
 obtain ⟨a,f,fd,ps,mm,c,hm,F,B_⟩:=G.mts _ h5;have hform:methodCallForm (ys.length+([]:List Keyword).length) (backTo cp (starEach ys X.env)) (backToKw cp (keywordEach [] X.env))=true:=by
   unfold methodCallForm;rw [(Zdb Γ X.env es ys h4 _).2];have h30:decide (ys.length+([]:List Keyword).length+(if (backToKw cp (keywordEach [] X.env)).isEmpty then 0 else 1)<30)=true:=by
     rw [decide_eq_true_eq];show ys.length+0+0<30
     lia
   rw [h30];rfl
 have ht:=Zks (o:=xo) (name:=n) (apos:=ap) (pos:=cp) (args:=ys) (env:=X.env) (Zdw h3) hform h7;have key:∀ (d:D) (h1:Hd) (x:V) (H1:Hp) (μ1:List Addr) (S:Ev) (Z:L2.St) (Q:VK),RH Y H1 μ1 h1->RS Y H1 μ1 S Z->RD Y H1 μ1 d x->Fin Y (RD Y) H1 μ1 (match ZW d h1 with
       | some (C',fs)=>if C'=C/\fs.lookup n=none then (evs T es S h1).bind fun xs h2=>T.C (mnm C n) (d::xs) h2 else .bad
       | none=>.bad) Q E->∃ b dx fs,x=.ref b/\H1 b=some (.ins a dx fs)/\fs.lookup n=none/\Zk5 T Y E es Z H1 fun vs H2=>Zd7 T Y (mnm C n) (x::(vs++[])) H2 Q E:=by
   intro d h1 x H1 μ1 S Z Q rh1 rs1 rd f1;split at f1
   . rename_i C' fs e;obtain ⟨⟨e1,e2⟩,f1⟩:=f1.iff;subst e1;obtain ⟨i,b,Ca,dx,gs,rfl,rfl,q,hi,z,m',s⟩:=ZeN rh1 rd e;rw [G.gk.mg,mm] at m';cases m';refine ⟨b,dx,gs,rfl,z,(s.look (f:=n)).2 e2,S,h1,μ1,rh1,rs1,f1.bind fun ds h2 vs H2 μ2 _ g2 rh2 rds f2=>⟨_,h2,μ2,rh2,.cons (rd.mono rh1 g2) (by rw [List.append_nil];exact rds),f2⟩⟩
   . exact f1.elim
 cases ys with
 | nil =>
   cases es with
   | nil =>
     exact (Zlw ho c hm F G.room B_ .nil G.pass ht).imp fun Z H Q s=>Sm.bind s fun S d h1 x H1 μ1 rh1 rs1 rd f1=>by
       obtain ⟨b,dx,fs,e1,e2,e3,s⟩:=key d h1 x H1 μ1 S Z Q rh1 rs1 rd f1;cases s with
       | mk ρ' h' μ' rh' rs' f'=>exact ⟨b,dx,fs,e1,e2,e3,f'.ok rh' .nil⟩
   | cons e r=>exact ff h4
 | cons y ys=>exact (ZnD ho c hm F G.room B_ .nil G.pass ha (ZcW X.env h4).1 ((ZcW X.env h4).2 _) ht).imp fun Z H Q s=>Sm.bind s fun S d h1 x H1 μ1 rh1 rs1 rd f1=>key d h1 x H1 μ1 S Z Q rh1 rs1 rd f1
end
section
variable {X:Cx}{Y:Yx}{E:XK}{H:Hp}{B:List Addr}{h:Hd}
theorem ZiV:∀ {xs:List D}{vs:List V}{ss:List Str},RDs Y H B xs vs->strsOf xs=some ss->vs=ss.map .str
 | [],vs,ss,r,e=>by
   cases r;cases e;rfl
 | d::ds,vs,ss,r,e=>by
   cases r with
   | cons r1 r2 =>
     cases r1 with
     | str x ok =>
       rw [strsOf] at e;obtain ⟨t,e1,rfl⟩:=Oo.mp e;rw [ZiV r2 e1];rfl
     | _=>cases e
theorem Zoc(hY:Y.K=X.K)(rh:RH Y H B h)(rd:RD Y H B d x)(il:ZbS d h=true):∃ a vs,x=.ref a/\SqL X.K H a vs:=by
 unfold ZbS at il;split at il
 . split at il
   . rename_i i xs e;obtain ⟨a,vs,rfl,hl,rv⟩:=rd.lstOf rh (xs:=xs) (by simp only [lstOf,e]);exact ⟨a,vs,rfl,hY ▸ hl⟩
   . cases il
 . cases il
theorem ZqI(hY:Y.K=X.K)(rh:RH Y H B h)(rd:RD Y H B d x)(ry:RD Y H B y v)(f:Fin Y (RD Y) H B (ZmE d y h) Q E):Zf0 X.K x [v] H Q:=by
 unfold ZmE at f;split at f
 . rename_i xs z e;obtain ⟨a,vs,rfl,hl,rv⟩:=rd.lstOf rh e;cases ry;split at f
   . rename_i ss e3;obtain ⟨d,e1,f⟩:=f.ofO;obtain ⟨j,e2,rfl⟩:=Oo.mp e1;have ev:=ZiV rv e3;subst ev;exact ⟨a,ss,z,j,rfl,rfl,hY ▸ hl,e2,f.ok rh (.int _)⟩
   . exact f.elim
 . exact f.elim
end
end IV
end
section
namespace IV
open PySem PySem.Spec PyProof.Rows L2
theorem Zjb{q:Prop}(X:Cx)(hx:Zsz scope x=true):Loc (relabel scope X.env) x/\(q\/(relabel scope X.env).names.lookup x=some .local):=by
 have:(relabel scope X.env).names.lookup x=some .local:=by rw [ZaR,of_decide_eq_true hx];rfl
 exact ⟨.inl this,.inr this⟩
theorem ZkK(e:Zfr (.ref i) h=some w):∃ xs,h[i]? = some (.lst xs)/\w=⟨[(i,xs)],xs⟩:=by
 unfold Zfr at e;simp only at e;split at e
 . cases e;exact ⟨_,by assumption,rfl⟩
 . cases e
theorem ZrO {X:Cx}{h1:Hd} (K:Y.K=X.K) (rh:RH Y H1 μ1 h1) (r:RD Y H1 μ1 d v) (il:ZbS d h1=true):tyV X.K "list" v H1:=by
 cases r with
 | ref q =>
   rename_i i a;have:∃ xs,h1[i]? = some (.lst xs):=by
     unfold ZbS at il;simp only at il;split at il
     . exact ⟨_,by assumption⟩
     . cases il
   obtain ⟨xs,hx⟩:=this;obtain ⟨vs,hl,_⟩:=rh.ob i _ a hx q;exact .inl ⟨rfl,vs,.of hl⟩
 | _=>cases il
theorem Zn5(G:Gd T Γ X Y E k)(ho:PE X xo (Zad T Y E o))(h3:ZaT xo=true)(h4:chks Γ es ys=true)(h5:ys.length<29)(h6:(ap.endLine==cp.line)=true)(ha:PA X ys (Zk5 T Y E es)) :
   PE X (.Call (.Attribute xo (ZlR m) ap) ys [] cp) (Zad T Y E (.meth m o es)):=by
 obtain ⟨sl,ty⟩:=ZsP m;cases ys with
 | nil =>
   cases es with
   | nil=>exact (Zqj PySem.F.plainAttrs_list sl ty (Zjh (Y:=Y) (E:=E) G.gk.K m) ho (Zdw h3) h6).imp fun Z H Q s=>Sm.bind s fun S d h1 x H1 μ1 rh1 rs1 rd f1=>⟨ZrO G.gk.K rh1 rd f1.iff.1,d,[],h1,μ1,rh1,rd,.nil,f1.iff.2⟩
   | cons e r=>exact ff h4
 | cons y ys =>
   refine (Zsx PySem.F.plainAttrs_list sl ty (Zjh (Y:=Y) (E:=E) G.gk.K m) ho ha (Zdw h3) ?_ h6 (ZcW X.env h4).1 ((ZcW X.env h4).2 _)).imp fun Z H Q s=>Sm.bind s fun S d h1 x H1 μ1 rh1 rs1 rd f1=>⟨ZrO G.gk.K rh1 rd f1.iff.1,S,h1,μ1,rh1,rs1,f1.iff.2.bind fun ds h2 xs H2 μ2 _ g2 rh2 rds f2=>⟨d,ds,h2,μ2,rh2,rd.mono rh1 g2,rds,f2⟩⟩
   rw [(Zdb Γ X.env es (y::ys) h4 _).2];have h30:decide ((y::ys).length+([]:List Keyword).length+(if ([]:List Keyword).isEmpty then 0 else 1)<30)=true:=by
     rw [decide_eq_true_eq];exact Nat.lt_succ_of_lt h5
   rw [h30];rfl
theorem ZuK(hb:∀ d h',e=.ok d h'->∃ c,d=.bl c)(f:Fin Y eqR H B (e.bind fun x h1=>R.ofO (ZcZ GD x h1) h1) Q E):Fin Y (RD Y) H B e (fun v H'=>∃ c,v=.bl c/\Q c H') E :=
 f.bind fun d h1 x H1 μ1 er g rh1 rd f1=>by
   obtain ⟨c,rfl⟩:=hb d h1 er;cases rd;exact ⟨c,rfl,Fin.ok (show Fin Y eqR H1 μ1 (.ok c h1) Q E from f1) rh1 rfl⟩
theorem ZuL{f:D->D->Hd->R D}(hf:∀ x y h d h',f x y h=.ok d h'->∃ c,d=.bl c)(s:Sm Y E eqR (fun S h=>((ev T a S h).bind fun x h1=>(ev T b S h1).bind fun y h2=>f x y h2).bind fun x h1=>R.ofO (ZcZ T.GD x h1) h1) Z H Q) :
   Zad T Y E a Z H fun x H1=>Zad T Y E b Z H1 fun y H2=>rB Y E f x y H2 fun v H3=>∃ c,v=.bl c/\Q c H3:=by
 cases s with
 | mk S h B rh rs q =>
   refine Znd ⟨S,h,B,rh,rs,ZuK (fun d h' er=>?_) q⟩;obtain ⟨_,_,_,er⟩:=R.bind_eq er;obtain ⟨_,_,_,er⟩:=R.bind_eq er;exact hf _ _ _ _ _ er
theorem ZoB(G:Gd T Γ X Y E k)(ha:PE X l (Zad T Y E a))(hb:PE X r (Zad T Y E b))(hm:Zc0 r=true):PT X (.Compare l [op] [r] pos) (Zj9 T Y E (.ex (.cmp op a b))) :=
 (Znr (ZlG (E:=E) G.room G.h60 G.gk op) ha hb (Zji hm)).imp fun _ _ _ s=>ZuL (f:=opC T.GD op) (fun _ _ _ _ _=>Zqs) s
theorem Zkg(G:Gd T Γ X Y E k)(he:PE X x (Zad T Y E e))(h1:ZhQ x=true):PT X x (Zj9 T Y E (.ex e)) :=
 (Zlj he ((kdE x).tr h1 _)).imp fun Z H Q s=>Sm.bind s fun S d h1 x H1 μ1 rh1 rs1 rd f1=>by
   obtain ⟨b,eb,f1⟩:=f1.ofO;exact ⟨b,Zm2 G.gk.K rh1 rd eb,f1.ok rh1 rfl⟩
noncomputable def ZiS(T:Tb)(Y:Yx)(E:XK):Exs->List (TE×TE)
 | .nil=>[]
 | .cons k r=>match r with
   | .nil=>[]
   | .cons v r'=>(Zad T Y E k,Zad T Y E v)::ZiS T Y E r'
section
variable {Y:Yx}{H:Hp}{B:List Addr}{h:Hd}{Dd:Addr}{ys zs:List (Key×V)}
theorem Zj6{K:PySem.W.Frag}(hD:H Dd=some (.dK ys))(t:SqT K H a vs):SqT K (upd H Dd (.dK zs)) a vs:=by
 rcases t with t|t
 . rcases t with t|⟨o,t⟩
   . exact .inl (.inl (by rw [Zh (fun z=>by rw [z,hD] at t;cases t)];exact t))
   . exact .inl (.inr ⟨o,by rw [Zh (fun z=>by rw [z,hD] at t;cases t)];exact t⟩)
 . exact .inr t
theorem ZkA{K:PySem.W.Frag}(hD:H Dd=some (.dK ys))(t:FzL K H a vs):FzL K (upd H Dd (.dK zs)) a vs:=by
 rcases t with ⟨o,t⟩|t
 . exact .inl ⟨o,by rw [Zh (fun z=>by rw [z,hD] at t;cases t)];exact t⟩
 . exact .inr t
theorem Tr.swapD(hD:H Dd=some (.dK ys)):Tr Y H B (upd H Dd (.dK zs)) B:=⟨Zj6 hD,ZkA hD,id⟩
end
inductive RPs(Y:Yx)(H:Hp)(B:List Addr):List D->List (V×V)->Prop
 | nil:RPs Y H B [] []
 | cons {k v:D}{r:List D}{x y:V}{ps:List (V×V)}:RD Y H B k x->RD Y H B v y->RPs Y H B r ps->RPs Y H B (k::v::r) ((x,y)::ps)
theorem RPs.pairs:∀ {ds:List D}{ps:List (V×V)}{kvs:List (Key×D)},RPs Y H B ds ps->Zb7 ds=some kvs->∃ kvs':List (Key×V),ps=kvs'.map (fun kv=>(kV kv.1,kv.2))/\RKs Y H B kvs kvs'
 | _,_,_,.nil,e=>by cases e;exact ⟨[],rfl,.nil⟩
 | _,_,_,.cons a b s,e=>by
   rw [Zb7] at e;split at e
   . rename_i k r e1 e2;cases e;obtain ⟨kvs',rfl,rk⟩:=s.pairs e2;have:=ZcF a e1;subst this;exact ⟨(k,_)::kvs',rfl,.cons b rk⟩
   . cases e
theorem RPs.keysOk:∀ {ds:List D}{ps:List (V×V)}{kvs:List (Key×D)},RPs Y H B ds ps->Zb7 ds=some kvs->ZaH kvs
 | _,_,_,.nil,e=>by cases e;intro p hp;cases hp
 | _,_,_,.cons a b s,e=>by
   rw [Zb7] at e;split at e
   . rename_i k r e1 e2;cases e;intro p hp x z;rcases O2.mp hp with rfl|hp
     . exact Zl4 a e1 x z
     . exact s.keysOk e2 p hp x z
   . cases e
theorem Zdi:∀ {more kvs:List (Key×D)},ZaH more->ZaH kvs->ZaH (Zbj kvs more)
 | [],kvs,_,h=>h
 | (k,d)::r,kvs,hm,h=>Zdi (more:=r) (kvs:=putD kvs k d) (fun p hp=>hm p (Oh _ hp)) (ZeH h (fun x e=>hm (k,d) Oi x e))
theorem RKs.merge:∀ {more:List (Key×D)}{more':List (Key×V)}{kvs:List (Key×D)}{kvs':List (Key×V)},RKs Y H B more more'->RKs Y H B kvs kvs'->RKs Y H B (Zbj kvs more) (ZdJ kvs' more')
 | _,_,_,_,.nil,s=>s
 | _,_,_,_,.cons (k:=k) a r,s=>by
   have z:=RKs.merge r (s.put k a);exact z
theorem ZlB:∀ (n:Nat) (ps:Exs) {K:List D->Hd->R D}{H:Hp}{B:List Addr}{h:Hd}{Q1:List (V×V)->Hp->Prop}{Γ:Gm}{ks:List (Option Expr)}{vs:List Expr},ks.length<=n->chkp Γ ps ks vs=true ->
   Gr H0 μ0 H B->RH Y H B h->RS Y H B S Z->Fin Y (RD Y) H0 μ0 ((evs T ps S h).bind K) Q E ->
   (∀ ds h1 qs H1 μ1,Gr H B H1 μ1->RH Y H1 μ1 h1->RPs Y H1 μ1 ds qs->Fin Y (RD Y) H0 μ0 (K ds h1) Q E->Q1 qs H1)->ZfR (ZiS T Y E ps) Z H Q1:=by
 intro n;induction n with
 | zero =>
   intro ps K H B h Q1 Γ ks vs hl hc g0 rh rs f hq;cases ps with
   | nil=>exact hq [] h [] H B Gr.refl rh .nil f
   | cons k r =>
     cases r with
     | nil=>unfold chkp at hc;cases hc
     | cons v r' =>
       unfold chkp at hc;simp only at hc;split at hc
       . simp at hl
       . cases hc
 | succ n ih =>
   intro ps K H B h Q1 Γ ks vs hl hc g0 rh rs f hq;cases ps with
   | nil=>exact hq [] h [] H B Gr.refl rh .nil f
   | cons k r =>
     cases r with
     | nil=>unfold chkp at hc;cases hc
     | cons v r' =>
       unfold chkp at hc;simp only at hc;split at hc
       . rw [Oa] at hc;have f1:Fin Y (RD Y) H0 μ0 ((ev T k S h).bind fun x h1=>(ev T v S h1).bind fun y h2=>(evs T r' S h2).bind fun xs h3=>K (x::y::xs) h3) Q E:=by
           have e:(evs T (.cons k (.cons v r')) S h).bind K=(ev T k S h).bind fun x h1=>(ev T v S h1).bind fun y h2=>(evs T r' S h2).bind fun xs h3=>K (x::y::xs) h3:=by
             show ((ev T k S h).bind fun x h1=>((ev T v S h1).bind fun y h2=>(evs T r' S h2).bind fun xs h3=>R.ok (y::xs) h3).bind fun xs h2=>R.ok (x::xs) h2).bind K=_;simp only [R.bind_assoc,R.bind_ok]
           rw [<- e];exact f
         refine ⟨S,h,B,rh,rs,Fin.bindB g0 f1 fun d h1 x H1 μ1 _ g1 rh1 rd f2=>?_⟩;refine ⟨S,h1,μ1,rh1,rs.mono rh g1,Fin.bindB (g0.trans g1) f2 fun e h2 y H2 μ2 _ g2 rh2 re f3=>?_⟩;refine ih r' (by simpa using hl) (bR hc.2) ((g0.trans g1).trans g2) rh2 ((rs.mono rh g1).mono rh1 g2) f3 fun ds h3 qs H3 μ3 g3 rh3 rp f4=>?_;exact hq (d::e::ds) h3 ((x,y)::qs) H3 μ3 ((g1.trans g2).trans g3) rh3 (.cons ((rd.mono rh1 g2).mono rh2 g3) (re.mono rh2 g3) rp) f4
       . cases hc
theorem Zox(ps:Exs)(G:Gd T Γ X Y E k)(h15:ks.length<=15)(hc:chkp Γ ps ks vs=true)(hp:PPs X pos ks vs (ZiS T Y E ps))(hall:ks.all (·.isSome)=true)(hl:ks.length=vs.length):PE X (.Dict ks vs pos) (Zad T Y E (.dictl ps)):=by
 by_cases h0:ks=[]
 . subst h0;cases vs with
   | cons a b=>cases hl
   | nil =>
     cases ps with
     | cons k r =>
       cases r with
       | nil=>unfold chkp at hc;cases hc
       | cons v r'=>unfold chkp at hc;cases hc
     | nil =>
       refine ZlA.imp fun Z H Q ⟨S,h,B,rh,rs,f⟩ p hp=>?_;have f:Fin Y (RD Y) H B (Zbs (.dic []) h) Q E:=f;exact f.new rh hp ⟨[],Zg,.nil⟩ (fun p hp=>by cases hp)
 . refine (ZnH hp hall hl h0 h15).imp fun Z H Q ⟨S,h,B,rh,rs,f⟩ p hp=>?_;have np:=rh.fr hp;refine ZlB ks.length ps (Oq _) hc (Gr.lay0 hp) (rh.lay0 hp) (rs.mono rh (Gr.lay0 hp)) f fun ds h1 qs H1 μ1 g1 rh1 rp f1=>?_;obtain ⟨hl1,nD⟩:=g1.out (Zg (H:=H)) np;have g01:Gr H B H1 μ1:=(Gr.lay0 hp).trans g1;split at f1
   . rename_i kvs ek;obtain ⟨hz,f1⟩:=f1.iff;obtain ⟨kvs',rfl,rk⟩:=rp.pairs ek;refine ⟨hl1,kvs',rfl,by rw [<- rk.length];exact hz,?_⟩;have f2:Fin Y (RD Y) H B (.ok (.ref h1.length) (h1++[.dic (Zbj [] kvs)])) Q E:=f1;exact f2.at ((g01.put hp).add hp) ((rh1.tr (.swapD hl1) fun _ ha=>Zh fun z=>nD (z ▸ ha)).add nD ⟨_,Zg,((rk.merge .nil).tr (.swapD hl1)).tr .more⟩ (show ZaH (Zbj [] kvs) from Zdi (rp.keysOk ek) (fun p hp=>by cases hp))) (.ref (by rw [rh1.len];simp))
   . exact f1.elim
mutual
theorem Zi(e:Ex){Γ:Gm}{X:Cx}{E:XK}{k:Nat}{x:Expr}(G:Gd T Γ X Y E k)(h:chk Γ e x=true):PE X x (Zad T Y E e):=match e,h with
 | .var i,h=>ZsN h fun x q h=>(Zqa (by rw [G.N];exact of_decide_eq_true (bL h)) (G.vis _ (bL (bR h))) (by simpa using bL (bR (bR h))) (by simpa using bR (bR (bR h)))).imp fun Z H Q s=>by
   cases s with
   | mk S h B rh rs f =>
     obtain ⟨d,e,f⟩:=Fin.ofO (show Fin Y (RD Y) H B (R.ofO (S[i]?).join h) Q E from f);obtain ⟨v,e1,rd⟩:=rs.var e;exact ⟨v,e1,f.ok rh rd⟩
 | .cst d,h=>Zmu G h
 | .glo y,h=>ZmR h fun q h pins s Z H Q I sm=>by
   cases sm with
   | mk S h' B rh rs f =>
     obtain ⟨d,e,f⟩:=Fin.ofO (show Fin Y (RD Y) H B (R.ofO (T.G y) h') Q E from f);obtain ⟨v,u,hm,rv,rd⟩:=G.gk.g y d e;exact ZnG (G.gl h).1 hm rv (G.gl h).2 pins s Z H Q I (f.ok rh (rd H B))
 | .bin op a b,h=>Ztu h fun l r q h=>(Zsv (Zqt G.gk.K op) (Zi a G (bL h)) (Zi b G (bR h))).imp fun _ _ _ s=>Znd s
 | .cmp op a b,h=>Zps h fun l r q h=>(ZnJ (ZlG G.room G.h60 G.gk op) (Zi a G (bL h)) (Zi b G (bL (bR h))) (Zji (bR (bR h)))).imp fun _ _ _ s=>Znd s
 | .cmp2 o1 o2 a b c,h=>ff h
 | .neg a,h=>ZpC h fun x q h=>(Zst ZpB (Zi a G h)).imp fun Z H Q s=>Sm.bind s fun S d h1 x H1 μ1 rh1 rs1 rd f1=>by
   cases rd with
   | int i=>exact ⟨i,rfl,Fin.ok f1 rh1 (.int _)⟩
   | _=>exact f1.elim
 | .nt a,h=>ZpC h fun x q h=>(Zqd (Zi a G h)).imp fun Z H Q s=>Sm.bind s fun S d h1 x H1 μ1 rh1 rs1 rd f1=>by
   cases rd with
   | bl i=>exact ⟨i,rfl,Fin.ok f1 rh1 (.bl _)⟩
   | _=>exact f1.elim
 | .ands es,h=>Zn3 h fun xs q h=>and_ok es G h
 | .ors es,h=>Zn3 h fun xs q h=>or_ok es G h
 | .ite c a b,h=>Zur h fun t x y q h=>(Zlz (tst_ok c G (bL h)) (Zi a G (bL (bR h))) (Zi b G (bR (bR h)))).imp fun Z H Q s=>Sm.bind s fun S d h1 v H1 μ1 rh1 rs1 rd f1=>by
   cases rd;cases d with
   | true=>exact Zh7 ⟨S,h1,μ1,rh1,rs1,f1⟩
   | false=>exact Zh8 ⟨S,h1,μ1,rh1,rs1,f1⟩
 | .tupl es,h=>ZgK h fun xs j q h=>(Zqb (evs_ok es G h)).imp fun Z H Q s=>Sm.bind s fun S d h1 x H1 μ1 rh1 rs1 rd f1=>⟨by rw [<- rd.length];exact f1.iff.1,fun p hp=>f1.iff.2.tup rh1 hp rd⟩
 | .lstl es,h=>ZsU h fun xs q h=>(Zqf (evs_ok es G h)).imp fun Z H Q s=>Sm.bind s fun S d h1 x H1 μ1 rh1 rs1 rd f1=>⟨by rw [<- rd.length];exact f1.iff.1,fun p hp=>f1.iff.2.new rh1 hp ⟨_,Zg,rd.mono rh1 (Gr.lay hp)⟩⟩
 | .ix a i,h=>ZpO h fun x y q h=>(Zsw (ZnU G.gk) (Zi a G (bL h)) (Zi i G (bL (bR h))) (Zk1 (bR (bR h)))).imp fun _ _ _ s=>Znd s
 | .sl a lo hi,h=>Zr9 h fun x l u q r h=>(Zlu (ZnS (E:=E) G.gk.K) (Zi a G (bL h)) (evo_ok lo G (bL (bR h))) (evo_ok hi G (bR (bR h)))).imp fun Z H Q s=>Sm.bind s fun S d h1 x H1 μ1 rh1 rs1 rd f1 =>
   ⟨S,h1,μ1,rh1,rs1,Fin.bind f1 fun l h2 l' H2 μ2 _ g2 rh2 rl f2=>⟨S,h2,μ2,rh2,rs1.mono rh1 g2,Fin.bind f2 fun u h3 u' H3 μ3 _ g3 rh3 ru f3=>by
     cases rl;cases ru;exact ⟨d,h3,μ3,rh3,(rd.mono rh1 g2).mono rh2 g3,f3⟩⟩⟩
 | .blt f es,h=>Zfb h fun p ys q h=>Zpo (bL (bR h)) (bR (bR h)) fun y r hs=>(Zrm G f (bL (bL h)) (G.gl (bR (bL h))).1 (evs_ok es G hs) (ZcW X.env hs).1 ((ZcW X.env hs).2 _)).imp fun Z H Q s=>Sm.bind s fun S d h1 x H1 μ1 rh1 rs1 rd f1=>⟨d,h1,μ1,rh1,rd,f1⟩
 | .call f es,h=>Zfb h fun p ys q h=>Zpo (bL (bR (bR h))) (bR (bR (bR h))) fun y r hs=>by
   obtain ⟨ps,hd⟩:=G.defs _ (of_decide_eq_true (bL h));exact (Zqi hd G.room (G.gl (bL (bR h))).1 G.pass (evs_ok es G hs) (G.gl (bL (bR h))).2 (ZcW X.env hs).1 ((ZcW X.env hs).2 _)).imp fun Z H Q s=>Sm.bind s fun S d h1 x H1 μ1 rh1 rs1 rd f1=>⟨d,h1,μ1,rh1,rd,f1⟩
 | .meth m o es,h=>Zmz h fun xo ap ys cp h=>Zn5 G (Zi o G (bL h)) (bL (bR h)) (bL (bR (bR h))) (of_decide_eq_true (bL (bR (bR (bR h))))) (bR (bR (bR (bR h)))) (evs_ok es G (bL (bR (bR h))))
 | .comp NC js it g c e,h=>Zpe h fun elt tg iter ifs scope q h=>by
   have S_:=Zhl (bL (bR h));rw [<- G.N,<- G.sc (bL h)] at S_;have h:=bR (bR h);have Gc:=fun C s3 H3 fp=>G.comp NC scope C s3 H3 fp S_.nd;refine (ZnI (g:=tgR X.K g) (tc:=Sm Y E0 eqR (tsto T c)) (te:=Zad T Y E0 e) S_ rfl G.calm (evi_ok it G (bL h)) (fun C s3 H3 fp=>⟨Zi7 rfl S_.nd rfl (fun x hx=>Zjb (scope:=scope) X hx) (bL (bR (bR h))),ifs_ok c (Gc C s3 H3 fp) (bL (bR (bR (bR (bR h))))),Zi e (Gc C s3 H3 fp) (bR (bR (bR (bR (bR h)))))⟩) (ZrU X.K g) (fun j hj=>of_decide_eq_true (OC.mp (bL (bR (bR (bR h)))) j (List.mem_range.mpr hj))) (ZhL X.env (bL (bR h)))).imp
     fun Z H Q s=>Sm.bind s fun S w h1 J H1 μ1 rh1 rs1 wj f1 D hD=>ZjB G.gk.K (fun _ _ _ z=>z) rh1 rs1 wj f1 hD
 | .sorts e,h=>ff h
 | .trev e,h=>ff h
 | .lrv e,h=>ff h
 | .tix o e,h=>ff h
 | .lix o e,h=>Zmz h fun xo ap ys cp h=>Zbt h fun y h=>by
   have st:=bL (bR (bR (bR h)));refine (Zqg (Zi o G (bL h)) (ZbA (Zi e G (bL (bR (bR h)))) ZdH (Zn X.env st)) (Zdw (bL (bR h))) ?_ (bR (bR (bR (bR h)))) (Zn X.env st)).imp fun Z H Q s=>Sm.bind s fun S d h1 x H1 μ1 rh1 rs1 rd f1=>?_
   . rw [Zn X.env st];rfl
   . obtain ⟨il,f1⟩:=f1.iff;obtain ⟨a,vs,rfl,hq⟩:=Zoc G.gk.K rh1 rd il;exact ⟨⟨a,vs,rfl,hq⟩,S,h1,μ1,rh1,rs1,f1.bind fun y h2 v H2 μ2 _ g2 rh2 ry f2=>ZqI G.gk.K rh2 (rd.mono rh1 g2) ry f2⟩
 | .lin a b,h=>ff h
 | .rpn a b,h=>ff h
 | .any,h=>fun pins s Z H Q I sm=>by
   cases sm with
   | mk S h B rh rs f=>exact f.elim
 | .att Cs o f,h=>ZoU h fun x q h=>(Zqh (Zi o G (bL h)) (Zdw (bL (bR h)))).imp fun Z H Q s=>Sm.bind s fun S d h1 x H1 μ1 rh1 rs1 rd f1=>Zrr G (bL (bR (bR h))) (of_decide_eq_true (bR (bR (bR h)))) rh1 rd f1
 | .mk C es,h=>Zfb h fun p ys q h=>ZsQ G (of_decide_eq_true (bL h)) (bL (bR h)) (bR (bR h)) (evs_ok es G (bR (bR h)))
 | .mcl C m o es,h=>Zmz h fun xo ap ys cp h=>Zqz G (of_decide_eq_true (bL (bR (bR (bR h))))) (bL (bR h)) (bL (bR (bR h))) (of_decide_eq_true (bL (bR (bR (bR (bR h)))))) (bR (bR (bR (bR (bR h))))) (Zi o G (bL h)) (evs_ok es G (bL (bR (bR h))))
 | .maxd a d,h=>Zpp h fun p ys z r q h=>Zbt h fun y h=>(ZnE (G.gl (bL h)).1 (G.blt _ (by decide)) G.calm (Zi a G (bL (bR h))) (Zi d G (bR (bR (bR h)))) (Zn X.env (bL (bR (bR h))))).imp fun Z H Q s=>Sm.bind s fun S x h1 v H1 μ1 rh1 rs1 rx f1 =>
   ⟨S,h1,μ1,rh1,rs1,Fin.bind f1 fun y h2 u H2 μ2 _ g2 rh2 ry f2=>by
     cases ry with
     | int d =>
       obtain ⟨r,er,f2⟩:=Fin.ofO (show Fin Y (RD Y) H2 μ2 (R.ofO (((lstOf x h2).bind intsOf).map fun ns=>.int (Zb9 ns d)) h2) Q E from f2);obtain ⟨ns,e2,rfl⟩:=Oo.mp er;obtain ⟨zs,e3,e4⟩:=Option.bind_eq_some_iff.mp e2;obtain ⟨a,vs,rfl,hl,rv⟩:=(rx.mono rh1 g2).lstOf rh2 e3;rw [ZeM rv e4] at hl;exact ⟨a,ns,d,rfl,rfl,G.gk.K ▸ hl,f2.ok rh2 (.int _)⟩
     | _=>exact f2.elim⟩
 | .dictl ps,h=>ZuB h fun ks vs q h=>Zox ps G (of_decide_eq_true (bL h)) (bR h) (pairs_ok ps G (bR h)).1 (pairs_ok (pos:=q) ps G (bR h)).2.1 (pairs_ok (pos:=q) ps G (bR h)).2.2
theorem evs_ok(e:Exs){Γ:Gm}{X:Cx}{E:XK}{k:Nat}{x:List Expr}(G:Gd T Γ X Y E k)(h:chks Γ e x=true):PA X x (Zk5 T Y E e):=match e,x,h with
 | .nil,[],h=>ZdH.imp fun Z H Q s=>by
   cases s with
   | mk S h B rh rs f=>exact Fin.ok (show Fin Y (RDs Y) H B (.ok [] h) Q E from f) rh .nil
 | .nil,_::_,h=>ff h
 | .cons e r,[],h=>ff h
 | .cons e r,y::ys,h=>(ZbA (Zi e G (bL h)) (evs_ok r G (bR (bR h))) (Zn X.env (bL (bR h)))).imp fun Z H Q s=>Sm.bind s fun S d h1 x H1 μ1 rh1 rs1 rd f1 =>
   ⟨S,h1,μ1,rh1,rs1,f1.bind fun ds h2 xs H2 μ2 _ g2 rh2 rds f2=>f2.ok rh2 (.cons (rd.mono rh1 g2) rds)⟩
theorem and_ok(e:Exs){Γ:Gm}{X:Cx}{E:XK}{k:Nat}{x:List Expr}{pos:Pos}(G:Gd T Γ X Y E k)(h:chks Γ e x=true):PE X (.BoolOp .And x pos) (Zad T Y E (.ands e)):=match e,x,h with
 | .nil,x,h=>fun pins s Z H Q I sm=>by
   cases sm with
   | mk S h B rh rs f=>exact f.elim
 | .cons e r,[],h=>ff h
 | .cons e .nil,[y],h=>(Zlv (Zi e G (bL h))).imp fun Z H Q q=>q
 | .cons e .nil,y::z::zs,h=>ff (bR (bR h))
 | .cons e (.cons e' r'),[y],h=>ff (bR (bR h))
 | .cons e (.cons e' r'),y::z::zs,h=>(Zqk (Zi e G (bL h)) (and_ok (.cons e' r') G (bR (bR h)))).imp fun Z H Q s=>Sm.bind s fun S d h1 x H1 μ1 rh1 rs1 rd f1=>by
   cases rd with
   | bl c =>
     refine ⟨c,rfl,?_⟩;cases c with
     | true=>exact Zh7 ⟨S,h1,μ1,rh1,rs1,f1⟩
     | false=>exact Zh8 (Fin.ok f1 rh1 (.bl _))
   | _=>exact f1.elim
theorem or_ok(e:Exs){Γ:Gm}{X:Cx}{E:XK}{k:Nat}{x:List Expr}{pos:Pos}(G:Gd T Γ X Y E k)(h:chks Γ e x=true):PE X (.BoolOp .Or x pos) (Zad T Y E (.ors e)):=match e,x,h with
 | .nil,x,h=>fun pins s Z H Q I sm=>by
   cases sm with
   | mk S h B rh rs f=>exact f.elim
 | .cons e r,[],h=>ff h
 | .cons e .nil,[y],h=>(Zlv (Zi e G (bL h))).imp fun Z H Q q=>q
 | .cons e .nil,y::z::zs,h=>ff (bR (bR h))
 | .cons e (.cons e' r'),[y],h=>ff (bR (bR h))
 | .cons e (.cons e' r'),y::z::zs,h=>(Zsu (Zi e G (bL h)) (or_ok (.cons e' r') G (bR (bR h)))).imp fun Z H Q s=>Sm.bind s fun S d h1 x H1 μ1 rh1 rs1 rd f1=>by
   cases rd with
   | bl c =>
     refine ⟨c,rfl,?_⟩;cases c with
     | true=>exact Zh7 (Fin.ok f1 rh1 (.bl _))
     | false=>exact Zh8 ⟨S,h1,μ1,rh1,rs1,f1⟩
   | _=>exact f1.elim
theorem evo_ok(e:Option Ex){Γ:Gm}{X:Cx}{E:XK}{k:Nat}{x:Option Expr}(G:Gd T Γ X Y E k)(h:chko Γ e x=true):PO X x (Zt5 T Y E e):=match e,x,h with
 | none,none,h=>Znx.imp fun Z H Q s=>by
   cases s with
   | mk S h B rh rs f=>exact Fin.ok (show Fin Y _ H B (.ok none h) Q E from f) rh rfl
 | none,some _,h=>ff h
 | some e,none,h=>ff h
 | some e,some a,h=>(Znw (Zi e G h)).imp fun Z H Q s=>Sm.bind s fun S d h1 x H1 μ1 rh1 rs1 rd f1=>by
   cases rd with
   | int i=>exact ⟨i,rfl,Fin.ok f1 rh1 rfl⟩
   | _=>exact f1.elim
theorem tst_ok(e:Tx){Γ:Gm}{X:Cx}{E:XK}{k:Nat}{x:Expr}(G:Gd T Γ X Y E k)(h:chkt Γ e x=true):PT X x (Zj9 T Y E e):=match e,h with
 | .ex e,h=>bO h (fun h=>Zkg G (Zi e G (bR h)) (bL h)) fun h=>by
   cases e with
   | cmp op a b=>exact Zps h fun l r q h=>ZoB G (Zi a G (bL h)) (Zi b G (bL (bR h))) (bR (bR h))
   | _=>exact ff h
 | .ands ts,h=>Zn3 h fun xs q h=>(tand_ok ts G h).pt
 | .ors ts,h=>Zn3 h fun xs q h=>(tor_ok ts G h).pt
 | .nt t,h=>ZpC h fun y q h=>(Zp0 (tst_ok t G h)).imp fun Z H Q s=>Sm.bind s fun S d h1 x H1 μ1 rh1 rs1 rd f1=>by
   cases rd;exact Fin.ok f1 rh1 rfl
theorem tand_ok(e:Txs){Γ:Gm}{X:Cx}{E:XK}{k:Nat}{x:List Expr}{pos:Pos}(G:Gd T Γ X Y E k)(h:chkts Γ e x=true):PW X (.BoolOp .And x pos) (Zj9 T Y E (.ands e)):=match e,x,h with
 | .one t,x,h=>Zbt h fun y h=>(Znp (tst_ok t G h)).imp fun Z H Q q=>q
 | .cons t ts,[],h=>ff h
 | .cons t ts,[_],h=>ff (bL (bR h))
 | .cons t ts,x::y::r,h=>(ZpY (tst_ok t G (bL h)) (tand_ok ts G (bR (bR h)))).imp fun Z H Q s=>Sm.bind s fun S d h1 x H1 μ1 rh1 rs1 rd f1=>by
   cases rd;cases d with
   | true=>exact Zh7 ⟨S,h1,μ1,rh1,rs1,f1⟩
   | false=>exact Zh8 (Fin.ok f1 rh1 rfl)
theorem tor_ok(e:Txs){Γ:Gm}{X:Cx}{E:XK}{k:Nat}{x:List Expr}{pos:Pos}(G:Gd T Γ X Y E k)(h:chkts Γ e x=true):PW X (.BoolOp .Or x pos) (Zj9 T Y E (.ors e)):=match e,x,h with
 | .one t,x,h=>Zbt h fun y h=>(ZpX (tst_ok t G h)).imp fun Z H Q q=>q
 | .cons t ts,[],h=>ff h
 | .cons t ts,[_],h=>ff (bL (bR h))
 | .cons t ts,x::y::r,h=>(Zsn (tst_ok t G (bL h)) (tor_ok ts G (bR (bR h)))).imp fun Z H Q s=>Sm.bind s fun S d h1 x H1 μ1 rh1 rs1 rd f1=>by
   cases rd;cases d with
   | true=>exact Zh7 (Fin.ok f1 rh1 rfl)
   | false=>exact Zh8 ⟨S,h1,μ1,rh1,rs1,f1⟩
theorem ifs_ok(c:Option Tx){Γ:Gm}{X:Cx}{E:XK}{k:Nat}{x:List Expr}(G:Gd T Γ X Y E k)(h:chkf Γ c x=true):PIf X x (Sm Y E eqR (tsto T c)):=match c,x,h with
 | none,[],h=>fun pins s Z H Q I sm=>by
   cases sm with
   | mk S h B rh rs f=>exact Znz pins s Z H Q I (Fin.ok (show Fin Y eqR H B (.ok true h) Q E from f) rh rfl)
 | none,_::_,h=>ff h
 | some t,x,h=>Zbt h fun y h=>Zny (tst_ok t G h)
theorem evi_ok(e:Ix){Γ:Gm}{X:Cx}{E:XK}{k:Nat}{x tg:Expr}(G:Gd T Γ X Y E k)(h:chki Γ e tg x=true):PI X tg x (Zt6 T Y E e):=match e,h with
 | .pl e,h=>(Zp8 (Zi e G h)).imp fun Z H Q s=>Sm.bind s fun S d h1 x H1 μ1 rh1 rs1 rd f1=>by
   obtain ⟨w,ew,f1⟩:=f1.ofO;exact ZmX G.gk.K rh1 rd ew fun J wj=>f1.ok rh1 wj
 | .rng e,h=>Zfb h fun p ys q h=>Zbt h fun y h=>(Zki (G.gl (bL h)).1 (G.blt _ (by decide)) (ZbA (Zi e G (bL (bR h))) ZdH (Zn X.env (bR (bR h)))) (Zn X.env (bR (bR h)))).imp fun Z H Q s=>Sm.bind s fun S d h1 x H1 μ1 rh1 rs1 rd f1=>by
   cases rd with
   | int j =>
     obtain ⟨hz,f1⟩:=Fin.iff (show Fin Y (WJ Y) H1 μ1 (if ZaL j=true then .ok ⟨[],Zac 0 j.toNat⟩ h1 else .bad) Q E from f1);exact ⟨j,rfl,of_decide_eq_true (bL hz),of_decide_eq_true (bR hz),f1.ok rh1 Zpx⟩
   | _=>exact f1.elim
 | .rng2 a b,h=>ff h
 | .enu e,h=>Zfb h fun p ys q h=>Zbt h fun y h=>Zjt (bR (bR (bR h))) fun ts j r=>(ZnC (G.gl (bL h)).1 (G.blt _ (by decide)) (ZbA (Zi e G (bL (bR h))) ZdH (Zn X.env (bL (bR (bR h))))) (Zn X.env (bL (bR (bR h))))).imp fun Z H Q s=>Sm.bind s fun S d h1 x H1 μ1 rh1 rs1 rd f1=>by
   obtain ⟨w,ew,f1⟩:=f1.ofO;obtain ⟨w0,ew0,rfl⟩:=Oo.mp ew;cases d with
   | ro xs =>
     cases ew0;cases rd with
     | ro t s=>exact ⟨_,rfl,⟨_,G.gk.K ▸ t.sq⟩,f1.ok rh1 (ZiM (ZoZ G.gk.K rh1 t s) fun H2 μ2 h2 g2 rh2 st=>⟨_,G.gk.K ▸ (g2.rdF rh1 t).sq,s.mono rh1 g2⟩)⟩
   | ref i =>
     obtain ⟨xs,hi,rfl⟩:=ZkK ew0;obtain ⟨a,vs,rfl,hm,hl,s⟩:=rd.lst rh1 hi;refine ⟨a,rfl,⟨vs,.of hl⟩,f1.ok rh1 (ZiM (ZkL hm) fun H2 μ2 h2 g2 rh2 st=>?_)⟩;obtain ⟨vs2,hl2,s2⟩:=rh2.ob i _ a (Zb2 st) (g2.pre i a hm);exact ⟨vs2,.of hl2,s2⟩
   | _=>cases ew0
 | .rev e,h=>Zfb h fun p ys q h=>Zbt h fun y h=>(ZnB (G.gl (bL h)).1 (G.blt _ (by decide)) (ZbA (Zi e G (bL (bR h))) ZdH (Zn X.env (bR (bR h)))) (Zn X.env (bR (bR h)))).imp fun Z H Q s=>Sm.bind s fun S d h1 x H1 μ1 rh1 rs1 rd f1=>by
   obtain ⟨w,ew,f1⟩:=f1.ofO;obtain ⟨w0,ew0,rfl⟩:=Oo.mp ew;cases d with
   | tup xs =>
     cases ew0;obtain ⟨a,vs,rfl,t,s⟩:=rd.tup_inv;exact ⟨a,vs,rfl,.inl ⟨G.gk.K ▸ t,f1.ok rh1 (Zpy G.gk.K rh1 t s)⟩⟩
   | ref i =>
     obtain ⟨xs,hi,rfl⟩:=ZkK (show Zfr (.ref i) h1=some w0 from ew0);obtain ⟨a,vs,rfl,hm,hl,s⟩:=rd.lst rh1 hi;exact ⟨a,vs,rfl,.inr ⟨.of hl,by rw [<- s.length];exact f1.ok rh1 (ZmT hm)⟩⟩
   | _=>cases ew0
 | .en1 e,h=>Zpp h fun p ys z r q h=>Zbt h fun y h=>Zjt (bL (bR (bR (bR h)))) fun ts j tp=>Zs0 (bR (bR (bR (bR h)))) fun c jc qc hc=>dS (P:=fun c=>PI X _ (.Call _ _ [⟨_,.Constant c _ _,_⟩] _) _) hc <|
   (Zp7 (G.gl (bL h)).1 (G.blt _ (by decide)) (Zi e G (bL (bR h))) Zly (Zn X.env (bL (bR (bR h))))).imp fun Z H Q s=>Sm.bind s fun S d h1 x H1 μ1 rh1 rs1 rd f1=>by
     cases d with
     | tup xs =>
       obtain ⟨a,vs,rfl,t,s⟩:=rd.tup_inv;exact ⟨a,rfl,rfl,⟨vs,G.gk.K ▸ t⟩,f1.ok rh1 (Zpz G.gk.K rh1 t s)⟩
     | _=>exact f1.elim
 | .zl a b,h=>Zfb h fun p ys q h=>Zpi h fun y z h=>Zjt (bR (bR (bR (bR (bR h))))) fun ts j r=>by
   have h5:=bL (bR (bR (bR h)));have h6:=bL (bR (bR (bR (bR h))));refine (ZnA (G.gl (bL h)).1 (G.blt _ (by decide)) (ZbA (Zi a G (bL (bR h))) (ZbA (Zi b G (bL (bR (bR h)))) ZdH (Zn X.env h6)) (Zn X.env h5)) (by rw [Zn X.env h5,Zn X.env h6];rfl) (Zn X.env h6)).imp fun Z H Q s=>Sm.bind s fun S d h1 x H1 μ1 rh1 rs1 rd f1=>⟨S,h1,μ1,rh1,rs1,f1.bind fun e h2 y H2 μ2 er2 g2 rh2 re f2=>?_⟩
   obtain ⟨i,j,xs,ys,rfl,rfl,e1,e2,hl,f2⟩:∃ i j xs ys,d=.ref i/\e=.ref j/\h2[i]? = some (.lst xs)/\h2[j]? = some (.lst ys)/\xs.length=ys.length/\Fin Y (WJ Y) H2 μ2 (.ok ⟨[(i,xs),(j,ys)],ZdE xs ys⟩ h2) Q E:=by
     unfold zlD at f2;split at f2
     . split at f2
       . split at f2
         . split at f2
           . obtain ⟨hl,f2⟩:=Fin.iff f2;exact ⟨_,_,_,_,rfl,rfl,‹_›,‹_›,hl,f2⟩
           . exact f2.elim
         . exact f2.elim
       . exact f2.elim
     . exact f2.elim
   obtain ⟨p,vs,rfl,hm,t,_⟩:=(rd.mono rh1 g2).lst rh2 e1;obtain ⟨q,vs',rfl,hm',t',_⟩:=re.lst rh2 e2;exact ⟨_,_,rfl,⟨_,.inl (.inl t)⟩,⟨_,.inl (.inl t')⟩,f2.ok rh2 (ZmS hm hm' hl)⟩
 | .zp a b,h=>ff h
 | .en0 e,h=>ff h
 | .dk e,h=>(Zss (Zi e G h)).imp fun Z H Q s=>Sm.bind s fun S d h1 x H1 μ1 rh1 rs1 rd f1=>Zq1 rh1 rd f1
theorem pairs_ok(ps:Exs){Γ:Gm}{X:Cx}{E:XK}{k:Nat}{ks:List (Option Expr)}{vs:List Expr}{pos:Pos}(G:Gd T Γ X Y E k)(h:chkp Γ ps ks vs=true):PPs X pos ks vs (ZiS T Y E ps)/\ks.all (·.isSome)=true/\ks.length=vs.length:=match ps,ks,vs,h with
 | .nil,[],[],h=>⟨Znv,rfl,rfl⟩
 | .nil,[],_::_,h=>ff h
 | .nil,_::_,_,h=>ff h
 | .cons e .nil,ks,vs,h=>ff h
 | .cons e (.cons v r'),[],vs,h=>ff h
 | .cons e (.cons v r'),none::_,vs,h=>ff h
 | .cons e (.cons v r'),some _::_,[],h=>ff h
 | .cons e (.cons v r'),some kx::ks,vx::vs,h =>
   let z:=pairs_ok r' (pos:=pos) G (bR (bR h))
   ⟨Zlp (Zi e G (bL h)) (Zi v G (bL (bR h))) z.1,z.2.1,congrArg (·+1) z.2.2⟩
end
end IV
end
section
namespace IV
open PySem PySem.Spec PyProof.Rows L2
noncomputable def ZcC(e:Expr):Bool:=decide (tgE e≠13)&&decide (tgE e≠19)
noncomputable def ZhX(e:Expr):Bool:=decide (tgE e≠8)
structure PsS where
 a:Expr:=default
 b:Expr:=default
 o:Option Expr:=none
 c:Option Expr:=none
 ts:List Expr:=[]
 xs:List Stmt:=[]
 ys:List Stmt:=[]
 zs:List Stmt:=[]
 hs:List ExceptHandler:=[]
 op:Operator:=.Add
 p:Pos:=default
 s:Stmt:=default
noncomputable def tgS:Stmt->Nat
 | .Return _ _=>1|.Assign _ _ _=>2|.AugAssign _ _ _ _=>3|.Expr _ _=>4|.If _ _ _ _=>5|.While _ _ _ _=>6|.For _ _ _ _ _=>7|.Pass _=>8|.Break _=>9|.Continue _=>10|.Raise _ _ _=>11|.Try _ _ _ _ _=>12|_=>0
noncomputable def prS(s:Stmt):PsS:=match s with
 | .Return o p=>{o:=o,p:=p}
 | .Assign ts a p=>{ts:=ts,a:=a,p:=p}
 | .AugAssign a op b p=>{a:=a,op:=op,b:=b,p:=p}
 | .Expr a p=>{a:=a,p:=p}
 | .If a xs ys p=>{a:=a,xs:=xs,ys:=ys,p:=p}
 | .While a xs ys p=>{a:=a,xs:=xs,ys:=ys,p:=p}
 | .For a b xs ys p=>{a:=a,b:=b,xs:=xs,ys:=ys,p:=p}
 | .Pass p=>{p:=p}
 | .Break p=>{p:=p}
 | .Continue p=>{p:=p}
 | .Raise o c p=>{o:=o,c:=c,p:=p}
 | .Try xs hs ys zs p=>{xs:=xs,hs:=hs,ys:=ys,zs:=zs,p:=p}
 | _=>{s:=s}
noncomputable def mkS(n:Nat)(p:PsS):Stmt:=match n with
 | 1=>.Return p.o p.p|2=>.Assign p.ts p.a p.p|3=>.AugAssign p.a p.op p.b p.p|4=>.Expr p.a p.p|5=>.If p.a p.xs p.ys p.p|6=>.While p.a p.xs p.ys p.p|7=>.For p.a p.b p.xs p.ys p.p
 | 8=>.Pass p.p|9=>.Break p.p|10=>.Continue p.p|11=>.Raise p.o p.c p.p|12=>.Try p.xs p.hs p.ys p.zs p.p|_=>p.s
theorem rbS(s:Stmt):mkS (tgS s) (prS s)=s:=by cases s<;>rfl
@[irreducible] noncomputable def anS(n:Nat)(s:Stmt)(f:PsS->Bool):Bool:=decide (tgS s=n)&&f (prS s)
section
variable {P:Stmt->Prop}{s:Stmt}
theorem Za0(h:anS n s f=true)(k:∀ p,f p=true->P (mkS n p)):P s:=by
 unfold anS at h;exact rbS s ▸ dS (P:=fun m=>P (mkS m (prS s))) (bL h) (k _ (bR h))
noncomputable def oSm{α:Type}(o:Option α)(f:α->Bool):Bool:=match o with
 | some x=>f x
 | none=>false
theorem Zqu{α:Type}{P:Option α->Prop}{o:Option α}{f:α->Bool}(h:oSm o f=true)(k:∀ x,f x=true->P (some x)):P o:=by
 cases o with
 | none=>exact ff h
 | some x=>exact k x h
@[irreducible] noncomputable def aAs(s:Stmt)(f:Expr->Expr->Bool):Bool:=anS 2 s fun p=>l1 p.ts fun g=>f g p.a
theorem ZmH(h:aAs s f=true)(k:∀ g x q,f g x=true->P (.Assign [g] x q)):P s:=by
 unfold aAs at h;exact Za0 h fun p h=>Zbt (P:=fun ts=>P (.Assign ts p.a p.p)) h fun _ h=>k _ _ _ h
end
noncomputable def Zs4:Ex->Bool
 | .comp _ _ _ _ _ _|.any=>true
 | _=>false
mutual
noncomputable def Zto(Γ:Gm):Sx->Stmt->Bool
 | .ret e,s=>anS 1 s fun p=>oSm p.o fun x=>chk Γ e x
 | .set g e,s=>aAs s fun tg x=>ZoD Γ.N (ownD Γ.sc) g tg&&(chk Γ e x&&((ZcC x&&(!isTup tg || ZhX x)) || (decide (tgE tg=6)&&Zs4 e)))
 | .put o i e,s=>aAs s fun tg x=>aS tg fun xo xi=>chk Γ o xo&&(chk Γ i xi&&(chk Γ e x&&(ZeC xi&&ZcC x)))
 | .aug i op e,s=>anS 3 s fun p=>Zkp Γ.N (ownD Γ.sc) i p.a&&(decide (p.op=.Add)&&(decide (op=.Add)&&chk Γ e p.b))
 | .drp e,s=>anS 4 s fun p=>chk Γ e p.a&&ZcC p.a
 | .iff c a b,s=>anS 5 s fun p=>chkt Γ c p.a&&(chkSs Γ a p.xs&&chkSs Γ b p.ys)
 | .whl c b,s=>anS 6 s fun p=>l0 p.ys (chkt Γ c p.a&&chkSs Γ b p.xs)
 | .forr g it b,s=>anS 7 s fun p=>l0 p.ys (chki Γ it p.a p.b&&(Zc0 p.b&&(ZoD Γ.N (ownD Γ.sc) g p.a&&chkSs Γ b p.xs)))
 | .pas,s=>anS 8 s fun _=>true
 | .brk,s=>anS 9 s fun _=>true
 | .cnt,s=>anS 10 s fun _=>true
 | .seta Cs o f e,s=>aAs s fun tg x=>aA f tg fun xo _=>chk Γ o xo&&(chk Γ e x&&(ZcC x&&((Cs.all fun C=>decide (C∈Γ.kl.cs))&&decide (f∈Γ.kl.ats))))
 | .auga Cs o f e,s=>anS 3 s fun p=>decide (p.op=.Add)&&aA f p.a fun xo _=>chk Γ o xo&&(chk Γ e p.b&&((Cs.all fun C=>decide (C∈Γ.kl.cs))&&decide (f∈Γ.kl.ats)))
 | .any,_=>true
 | .rai _ _,_=>false
 | .trs _ _ _ _,_=>false
 | .trw _ _ _ _ _ _ _,_=>false
 | .unl _ _ _,_=>false
noncomputable def chkSs(Γ:Gm):Sxs->List Stmt->Bool
 | .nil,ss=>ss.isEmpty
 | .cons s r,ss=>match ss with
   | x::xs=>Zto Γ s x&&chkSs Γ r xs
   | []=>false
end
noncomputable def ZN(Y:Yx)(H:Hp)(B:List Addr)(r:R (Fl×Ev))(D:Ends)(E:XK):Prop:=match r with
 | .bad=>False
 | .ok p h'=>∀ H' μ',Gr H B H' μ'->RH Y H' μ' h'->match p.1 with
   | .nx=>∀ σ',RS Y H' μ' p.2 σ'->D.nx σ' H'
   | .bk=>∀ σ',RS Y H' μ' p.2 σ'->D.bk σ' H'
   | .ct=>∀ σ',RS Y H' μ' p.2 σ'->D.ct σ' H'
   | .rt d=>∀ v,RD Y H' μ' d v->D.rt v H'
 | .exc c h'=>∀ H' μ' C,Gr H B H' μ'->RH Y H' μ' h'->Y.mg c=some (.ref C)->E (.ref C) none H'
section
variable {Y:Yx}{α β:Type}{rel:Hp->List Addr->α->β->Prop}{H H1:Hp}{B μ1:List Addr}{E:XK}{D:Ends}
theorem ZN.mono(g:Gr H B H1 μ1)(f:ZN Y H B r D E):ZN Y H1 μ1 r D E:=by
 cases r with
 | bad=>exact f
 | ok a h=>exact fun H' μ' g'=>f H' μ' (g.trans g')
 | exc c h=>exact fun H' μ' C g'=>f H' μ' C (g.trans g')
theorem ZN.bind(f:ZN Y H B (r.bind k) D E)
   (hk:∀ a h1 b H1 μ1,r=.ok a h1->Gr H B H1 μ1->RH Y H1 μ1 h1->rel H1 μ1 a b->ZN Y H1 μ1 (k a h1) D E->Q1 b H1):Fin Y rel H B r Q1 E:=by
 cases r with
 | bad=>exact f
 | ok a h=>exact fun b H' μ' g' rh rl=>hk a h b H' μ' rfl g' rh rl (ZN.mono g' f)
 | exc c h=>exact f
theorem ZN.ofO(f:ZN Y H B ((R.ofO o h).bind k) D E):∃ a,o=some a/\ZN Y H B (k a h) D E:=by
 cases o with
 | none=>exact f.elim
 | some a=>exact ⟨a,rfl,f⟩
theorem ZN.nx(f:ZN Y H B (.ok (.nx,S) h) D E)(rh:RH Y H B h)(rs:RS Y H B S Z):D.nx Z H:=f H B Gr.refl rh Z rs
theorem ZN.part(f:ZN Y H B (r.bind k) D E)
   (hk:∀ p h1 H1 μ1,r=.ok p h1->Gr H B H1 μ1->RH Y H1 μ1 h1->ZN Y H1 μ1 (k p h1) D E->match p.1 with
     | .nx=>∀ σ',RS Y H1 μ1 p.2 σ'->D1.nx σ' H1
     | .bk=>∀ σ',RS Y H1 μ1 p.2 σ'->D1.bk σ' H1
     | .ct=>∀ σ',RS Y H1 μ1 p.2 σ'->D1.ct σ' H1
     | .rt d=>∀ v,RD Y H1 μ1 d v->D1.rt v H1):ZN Y H B r D1 E:=by
 cases r with
 | bad=>exact f
 | ok p h=>exact fun H' μ' g' rh=>hk p h H' μ' rfl g' rh (ZN.mono g' f)
 | exc c h=>exact f
end
inductive SmS(Y:Yx)(E:XK)(m:Ev->Hd->R (Fl×Ev))(D:Ends)(Z:L2.St)(H:Hp):Prop
 | mk (S:Ev) (h:Hd) (B:List Addr) (rh:RH Y H B h) (rs:RS Y H B S Z) (f:ZN Y H B (m S h) D E):SmS Y E m D Z H
noncomputable def Znc(T:Tb)(Y:Yx)(E:XK)(s:Sx):TS:=SmS Y E (xs1 T s)
noncomputable def Zi1(T:Tb)(Y:Yx)(E:XK)(s:Sxs):TS:=SmS Y E (xs2 T s)
theorem SmS.bind{D:Ends}{γ δ:Type}{rel:Hp->List Addr->γ->δ->Prop}{m:Ev->Hd->R γ}{k:Ev->γ->Hd->R (Fl×Ev)}{Q1:δ->Hp->Prop}(s:SmS Y E (fun S h=>(m S h).bind (k S)) D Z H)
   (hk:∀ S d h1 v H1 μ1,RH Y H1 μ1 h1->RS Y H1 μ1 S Z->rel H1 μ1 d v->ZN Y H1 μ1 (k S d h1) D E->Q1 v H1):Sm Y E rel m Z H Q1:=by
 cases s with
 | mk S h B rh rs f=>exact ⟨S,h,B,rh,rs,f.bind fun d h1 x H1 μ1 _ g rh1 rd f1=>hk S d h1 x H1 μ1 rh1 (rs.mono rh g) rd f1⟩
theorem Sm.at{α β:Type}{rel:Hp->List Addr->α->β->Prop}{m:Ev->Hd->R α}{Q1:β->Hp->Prop}{Q:Prop}(s:Sm Y E rel m Z H Q1)(hk:∀ S h B,RH Y H B h->RS Y H B S Z->Fin Y rel H B (m S h) Q1 E->Q):Q:=by
 cases s with
 | mk S h B rh rs f=>exact hk S h B rh rs f
theorem SmS.at{D:Ends}{Q:Prop}(s:SmS Y E m D Z H)(hk:∀ S h B,RH Y H B h->RS Y H B S Z->ZN Y H B (m S h) D E->Q):Q:=by
 cases s with
 | mk S h B rh rs f=>exact hk S h B rh rs f
theorem _root_.L2.PS.imp(h:PS X s t)(i:∀ D Z H,t' D Z H->t D Z H):PS X s t':=fun pins s Z H D I q=>h pins s Z H D I (i D Z H q)
theorem _root_.L2.PSs.imp(h:PSs X s t)(i:∀ D Z H,t' D Z H->t D Z H):PSs X s t':=fun pins s Z H D I q=>h pins s Z H D I (i D Z H q)
structure XOk(K:PySem.W.Frag)(a:Addr):Prop extends ExcN K a where
 own:PySem.W.excIn K a [.type "ValueError",.type "Exception",.type "BaseException",.type "object"] "ValueError.__new__" = true
 sub:PySem.W.subIn K (.ref a) (.ref a)=some true
structure GdS(T:Tb)(Γ:Gm)(X:Cx)(Y:Yx)(E:XK)(k:Nat):Prop extends Gd T Γ X Y E k where
 top:Γ.top=true
 fnt:∀ x,X.fn x=true
 own:PassesOwn (model X.prog X.w) X.A X.env X.xe
 bk:X.env.blockKind=.function
 rz:ZjV X E
 stk:X.stack=X.env::X.outer
 frm:X.env.frame=some X.env.locals
 xcs:∀ C∈Γ.kl.xs,∃ a,X.mg C=some (.ref a)/\XOk X.K a
 xas:∀ p∈Γ.kl.xa,∃ a b,X.mg p.1=some (.ref a)/\X.mg p.2=some (.ref b)/\XAs X.K a b
theorem GdS.ownD(G:GdS T Γ X Y E k):∀ x,ownD Γ.sc x=true->Loc X.env.scope x/\(X.fn x=true\/X.env.scope.names.lookup x=some .local):=by
 intro x h;refine ⟨?_,.inl (G.fnt x)⟩;unfold IV.ownD at h;rw [G.sc G.top];rw [Bool.or_eq_true] at h;exact h.imp of_decide_eq_true of_decide_eq_true
theorem Zda(h:ZcC x=true):swapsWith x t n env=pure false:=(kdE x).sw (of_decide_eq_true (bL h)) (of_decide_eq_true (bR h)) _ _ _
theorem Zk4(G:GdS T Γ X Y E k)(hi:Γ.N[i]? = some y)(ho:ownD Γ.sc y=true)(hx:Zs4 e=true)(h:chk Γ e x=true):PS X (.Assign [.Name y py] x spos) (ZhJ (Zad T Y E e) (ZbT i)):=by
 obtain ⟨o1,o2⟩:=G.ownD y ho;have hy:X.N[i]? = some y:=by rw [G.N];exact hi
 cases e with
 | comp NC js it g c e =>
   refine Zpe h (fun elt tg iter ifs scope q h pe=>?_) (Zi _ G.toGd h);cases sw:(X.env.blockKind==.function&&X.env.kindOf y==some .local&&py.line==q.line&&!(scope.names.any fun (n,k)=>n==y&&(k==.local || k==.cell))) with
   | true =>
     have S_:=Zhl (bL (bR h));rw [<- G.N,<- G.sc (bL h)] at S_;have Gc:=fun C s3 H3 fp=>G.toGd.comp NC scope C s3 H3 fp S_.nd;have h':=bR (bR h);exact (ZhP (g:=tgR X.K g) (tc:=Sm Y E0 eqR (tsto T c)) (te:=Zad T Y E0 e) G.nd hy o1 o2 S_ rfl G.calm (evi_ok it G.toGd (bL h')) (fun C s3 H3 fp=>⟨Zi7 rfl S_.nd rfl (fun x hx=>Zjb (scope:=scope) X hx) (bL (bR (bR h'))),ifs_ok c (Gc C s3 H3 fp) (bL (bR (bR (bR (bR h'))))),Zi e (Gc C s3 H3 fp) (bR (bR (bR (bR (bR h')))))⟩) (ZrU X.K g) (fun j hj=>of_decide_eq_true (OC.mp (bL (bR (bR (bR h')))) j (List.mem_range.mpr hj))) (ZhL X.env (bL (bR h'))) (congrArg pure sw)).imp
       fun D Z H s=>Sm.bind s fun S w h1 J H1 μ1 rh1 rs1 wj f1 D hD=>ZjB G.gk.K (fun _ _ _ z=>z) rh1 rs1 wj f1 hD
   | false=>exact Zlm G.nd hy o1 pe (congrArg pure sw) o2
 | any=>exact fun pins s Z H D I s=>Sm.at s fun _ _ _ _ _ f=>f.elim
 | _=>exact ff hx
theorem Zi0(ht:isTup tg=true)(pg:PG X tg g)(he:PE X x te)(h3:(ZcC x&&(!isTup tg || ZhX x))=true):PS X (.Assign [tg] x pos) (ZhJ te g) :=
 Zjt (P:=fun tg=>PG X tg g->(!isTup tg || ZhX x)=true->PS X (.Assign [tg] x pos) (ZhJ te g)) ht (fun _ _ _ pg h3=>Zlo he pg (by unfold swapsWithSole;exact Zda (bL ‹_›)) ((kdE x).st (of_decide_eq_true h3) _ _ _ _) rfl) pg (bR h3)
theorem Zrq{T:Tb}(G:Gd T Γ X Y E k)(hc:(Cs.all fun C=>decide (C∈Γ.kl.cs))=true)(hf:f∈Γ.kl.ats){D:Ends}(rh1:RH Y H1 μ1 h1)(rs1:RS Y H1 μ1 S Z)(rd:RD Y H1 μ1 d x)
   (f1:ZN Y H1 μ1 ((Zfl Cs f d h1).bind fun v h2=>(ev T e S h2).bind fun y h3=>match v,y with
     | .int a,.int b=>if (ZW d h1).map (·.1)=(ZW d h3).map (·.1) then (ZfT Cs f d (.int (a+b)) h3).bind fun _ h4=>.ok (.nx,S) h4 else .bad
     | _,_=>.bad) D E) :
   ∃ a C dx fs v,x=.ref a/\H1 a=some (.ins C dx fs)/\Cls X.K C/\Zat X.K C f/\fs.lookup f=some v /\
     Zad T Y E e Z H1 fun y H2=>Zsm v y H2 fun z H3=>∃ dx' fs',H3 a=some (.ins C dx' fs')/\fs'.length<1000/\D.nx Z (upd H3 a (.ins C dx' (Zbh f z fs'))):=by
 unfold Zfl at f1;cases ei:ZW d h1 with
 | none=>rw [ei] at f1;exact f1.elim
 | some p =>
   obtain ⟨C,fs⟩:=p;rw [ei] at f1;simp only at f1;by_cases hC:C∈Cs
   . rw [if_pos hC] at f1;obtain ⟨w,e1,f1⟩:=f1.ofO;obtain ⟨i,a,Ca,dx,gs,rfl,rfl,q,hi,z,m,s⟩:=ZeN rh1 rd ei;obtain ⟨v,l,rv⟩:=(s.look (f:=f)).1 w e1;have hc':=hc;rw [OC] at hc';obtain ⟨Ca',m',cl,na⟩:=G.cls C (of_decide_eq_true (hc' C hC));have m0:=m;rw [G.gk.mg,m'] at m;cases m;refine ⟨a,Ca,dx,gs,v,rfl,z,cl,na f hf,l,S,h1,μ1,rh1,rs1,ZN.bind f1 fun y h3 u H3 μ3 _ g3 rh3 ry f3=>?_⟩;cases w with
     | int p =>
       cases y with
       | int r =>
         cases rv;cases ry;refine ⟨p,r,rfl,rfl,?_⟩;simp only at f3;by_cases hk:Option.map (·.1) (some (C,fs))=(ZW (.ref i) h3).map (·.1)
         . rw [if_pos hk] at f3;obtain ⟨a',C',dx',fs',e4,z',_,_,l',nx⟩:=Zk3 (Q:=fun _ H'=>D.nx Z H') G hc hf rh3 (rd.mono rh1 g3) (.int _) (ZN.bind f3 fun _ h4 _ H4 μ4 _ g4 rh4 _ f4=>f4.nx rh4 ((rs1.mono rh1 g3).mono rh3 g4));cases e4;cases e5:ZW (.ref i) h3 with
           | none=>rw [e5] at hk;cases hk
           | some p3 =>
             obtain ⟨C3,fs3⟩:=p3;rw [e5] at hk;cases hk;obtain ⟨i3,a3,Ca3,dx3,gs3,e6,e7,_,_,z3,m3,_⟩:=ZeN rh3 (rd.mono rh1 g3) e5;cases e7;rw [m0] at m3;cases m3;rw [z'] at z3;cases z3;exact ⟨dx',fs',z',l',nx⟩
         . rw [if_neg hk] at f3;exact f3.elim
       | _=>exact f3.elim
     | _=>exact f3.elim
   . rw [if_neg hC] at f1;exact f1.elim
theorem Zi9{D D1:Ends}{k:Ev->Hd->R (Fl×Ev)} (f:ZN Y H B (r.bind fun p h2=>match p with
     | (.nx,ρ2)=>k ρ2 h2
     | (.ct,ρ2)=>k ρ2 h2
     | (.bk,ρ2)=>.ok (.nx,ρ2) h2
     | (.rt d,ρ2)=>.ok (.rt d,ρ2) h2) D E) (hn:∀ ρ2 h2 H2 μ2 σ',Gr H B H2 μ2->RH Y H2 μ2 h2->RS Y H2 μ2 ρ2 σ'->ZN Y H2 μ2 (k ρ2 h2) D E->D1.nx σ' H2) (hc:D1.ct=D1.nx) (hb:D1.bk=D.nx) (hr:D1.rt=D.rt):ZN Y H B r D1 E :=
 ZN.part f fun p h2 H2 μ2 _ g2 rh2 f2=>by
   obtain ⟨fl,ρ2⟩:=p;cases fl with
   | nx=>exact fun σ' rs'=>hn ρ2 h2 H2 μ2 σ' g2 rh2 rs' f2
   | ct=>rw [hc];exact fun σ' rs'=>hn ρ2 h2 H2 μ2 σ' g2 rh2 rs' f2
   | bk=>rw [hb];exact fun σ' rs'=>ZN.nx f2 rh2 rs'
   | rt d=>rw [hr];exact fun v rv=>f2 H2 μ2 Gr.refl rh2 v rv
theorem ZpA{D:Ends}(s:Znc T Y E (.whl c b) D Z H):ZkW (Zj9 T Y E c) (Zi1 T Y E b) D Z H:=by
 refine ⟨fun m=>SmS Y E (ZI (tst T c) (xs2 T b) m) D,⟨T.L,s⟩,fun m Z H s=>?_⟩;cases m with
 | zero=>exact SmS.at s fun _ _ _ _ _ f=>f.elim
 | succ m =>
   refine SmS.bind s fun S t h1 v H1 μ1 rh1 rs1 rd f1=>?_;cases rd;cases t with
   | false=>exact Zh8 (ZN.nx f1 rh1 rs1)
   | true=>exact Zh7 ⟨SmS Y E (ZI (tst T c) (xs2 T b) m) D,fun σ' H' q=>⟨m,OH m,q⟩,S,h1,μ1,rh1,rs1,Zi9 f1 (fun ρ2 h2 H2 μ2 σ' _ rh2 rs2 f2=>⟨ρ2,h2,μ2,rh2,rs2,f2⟩) rfl rfl rfl⟩
inductive FwS(Y:Yx)(E:XK)(H1:Hp)(μ1:List Addr)(n i:Nat)(F:Ev->Hd->R (Fl×Ev))(D:Ends)(m:Nat)(Z:L2.St)(H:Hp):Prop
 | mk (S:Ev) (h:Hd) (B:List Addr) (hi:i<=n) (hm:m=n - i) (g:Gr H1 μ1 H B) (rh:RH Y H B h) (rs:RS Y H B S Z) (f:ZN Y H B (F S h) D E):FwS Y E H1 μ1 n i F D m Z H
theorem Zq3{K:PySem.W.Frag}{g:Tg}{D:Ends}(hY:Y.K=K)(rh1:RH Y H1 μ1 h1)(rs1:RS Y H1 μ1 S Z)(wj:WJ Y H1 μ1 w J)(f1:ZN Y H1 μ1 (ZP w.src g (xs2 T b) w.xs S h1) D E):∃ W:Nat->Nat->L2.St->Hp->Prop,(∃ m,W 0 m Z H1)/\∀ i m Z H,W i m Z H ->
   (J.stop i H/\D.nx Z H)\/(J.go i H/\∃ B_:L2.St->Hp->Prop,(∀ σ' H',B_ σ' H'->∃ m',m'<m/\W (i+1) m' σ' H')/\∀ x H',J.yld i H x H'->tgR K g x Z H' fun σ' H''=>Zi1 T Y E b {D with nx:=B_,ct:=B_,bk:=D.nx} σ' H''):=by
 refine ⟨fun i=>FwS Y E H1 μ1 w.xs.length i (fun S=>ZP w.src g (xs2 T b) (w.xs.drop i) S) D,⟨w.xs.length,S,h1,μ1,Nat.zero_le _,(Nat.sub_zero _).symm,Gr.refl,rh1,rs1,f1⟩,fun i m Z H s=>?_⟩;cases s with
 | mk S h B hi hm g0 rh rs f =>
   subst hm;by_cases hs:Wk.stays w.src h=true
   . by_cases hlt:i<w.xs.length
     . have hd:=Og hlt;rw [List.drop_eq_getElem_cons hlt,ZP,if_pos hs] at f;obtain ⟨go,yl⟩:=(wj H B h g0 rh hs).1 i _ hd;refine .inr ⟨go,FwS Y E H1 μ1 w.xs.length (i+1) (fun S=>ZP w.src g (xs2 T b) (w.xs.drop (i+1)) S) D (w.xs.length - (i+1)),fun σ' H' q=>⟨_,Nat.sub_lt_sub_left hlt (OH i),q⟩,fun x H' hy=>?_⟩;obtain ⟨g2,rh2,rx⟩:=yl x H' hy;split at f
       . exact f.elim
       . rename_i ρ1 hb;exact Zgy hY rx (rs.mono rh g2) hb fun σ1 rs1=>⟨ρ1,h,B,rh2,rs1,Zi9 (ZN.mono g2 f) (fun ρ2 h3 H3 μ3 σ' g3 rh3 rs3 f3=>⟨ρ2,h3,μ3,hlt,rfl,(g0.trans g2).trans g3,rh3,rs3,f3⟩) rfl rfl rfl⟩
     . have he:i=w.xs.length:=Nat.le_antisymm hi (Nat.le_of_not_lt hlt);subst he;rw [List.drop_eq_nil_of_le (Oq _),ZP,if_pos hs] at f;exact .inl ⟨(wj H B h g0 rh hs).2,ZN.nx f rh rs⟩
   . cases e:w.xs.drop i with
     | nil=>rw [e,ZP,if_neg hs] at f;exact f.elim
     | cons _ _=>rw [e,ZP,if_neg hs] at f;exact f.elim
mutual
theorem Zr7(s:Sx){Γ:Gm}{X:Cx}{E:XK}{k:Nat}{x:Stmt}(G:GdS T Γ X Y E k)(h:Zto Γ s x=true):PS X x (Znc T Y E s):=match s,h with
 | .ret e,h=>Za0 (P:=fun x=>PS X x _) h fun p h=>Zqu (P:=fun o=>PS X (.Return o p.p) _) h fun y h=>(Zp1 (Zi e G.toGd h)).imp fun D Z H s=>SmS.bind s fun S d h1 v H1 μ1 rh1 rs1 rd f1=>f1 H1 μ1 Gr.refl rh1 v rd
 | .set g e,h=>ZmH (P:=fun x=>PS X x _) h fun tg xe pos h=>by
   have fin:∀ {D:Ends}{Z:L2.St}{H:Hp},Znc T Y E (.set g e) D Z H->ZhJ (Zad T Y E e) (tgR X.K g) D Z H:=fun {D Z H} s=>SmS.bind s fun S d h1 v H1 μ1 rh1 rs1 rd f1=>by
     obtain ⟨ρ1,eb,f1⟩:=f1.ofO;exact Zgy G.gk.K rd rs1 eb fun σ1 rs2=>f1.nx rh1 rs2
   have pg:=Zi7 (X:=X) G.N G.nd G.calm G.ownD (bL h);refine bO (bR (bR h)) (fun h3=>?_) fun h3=>?_
   . cases g with
     | nm i=>exact Za4 (P:=fun t=>PS X (.Assign [t] _ _) _) (bL h) fun y py e1 e2=>(Zlm G.nd (by rw [G.N];exact e1) (G.ownD y e2).1 (Zi e G.toGd (bL (bR h))) (Zda (bL h3)) (G.ownD y e2).2).imp fun D Z H q=>fin q
     | two i j=>exact (Zi0 (ZgK (P:=fun t=>isTup t=true) (show ZjF Γ.N (ownD Γ.sc) i j tg=true from bL h) fun _ _ _ _=>rfl) pg (Zi e G.toGd (bL (bR h))) h3).imp fun D Z H q=>fin q
     | many is=>exact (Zi0 (ZgK (P:=fun t=>isTup t=true) (show ZjE Γ.N (ownD Γ.sc) is tg=true from bL h) fun _ _ _ _=>rfl) pg (Zi e G.toGd (bL (bR h))) h3).imp fun D Z H q=>fin q
   . cases g with
     | nm i=>exact Za4 (P:=fun t=>PS X (.Assign [t] _ _) _) (bL h) fun y py e1 e2=>(Zk4 G e1 e2 (bR h3) (bL (bR h))).imp fun D Z H q=>fin q
     | two i j=>exact ff (ZgK (P:=fun t=>decide (tgE t=6)=true->false=true) (show ZjF Γ.N (ownD Γ.sc) i j tg=true from bL h) (fun _ _ _ _ z=>z) (bL h3))
     | many is=>exact ff (ZgK (P:=fun t=>decide (tgE t=6)=true->false=true) (show ZjE Γ.N (ownD Γ.sc) is tg=true from bL h) (fun _ _ _ _ z=>z) (bL h3))
 | .put o i e,h=>ZmH (P:=fun x=>PS X x _) h fun tg xe p2 h=>ZpO (P:=fun t=>PS X (.Assign [t] _ _) _) h fun xo xi p1 h =>
   (Zlo (pos:=p2) (Zi e G.toGd (bL (bR (bR h)))) (Zp9 (pos:=p1) (Zi o G.toGd (bL h)) (Zi i G.toGd (bL (bR h))) (ZpZ (Y:=Y) (E:=E)) ((kdE xi).put (of_decide_eq_true (bL (bR (bR (bR h))))) _ _ _)) (by unfold swapsWithSole;exact Zda (bR (bR (bR (bR h))))) rfl rfl).imp fun D Z H s=>SmS.bind s fun S d h1 v H1 μ1 rh1 rs1 rd f1 =>
     ⟨S,h1,μ1,rh1,rs1,f1.bind fun d2 h2 v2 H2 μ2 _ g2 rh2 rd2 f2=>⟨S,h2,μ2,rh2,rs1.mono rh1 g2,f2.bind fun d3 h3 v3 H3 μ3 _ g3 rh3 rd3 f3 =>
       ⟨d2,d3,d,h3,μ3,rh3,rd2.mono rh2 g3,rd3,(rd.mono rh1 g2).mono rh2 g3,f3.bind fun _ h4 _ H4 μ4 _ g4 rh4 _ f4=>f4.nx rh4 (((rs1.mono rh1 g2).mono rh2 g3).mono rh3 g4)⟩⟩⟩
 | .aug i op e,h=>Za0 (P:=fun x=>PS X x _) h fun p h=>Za4 (P:=fun a=>PS X (.AugAssign a _ _ _) _) (bL h) fun y py e1 e2=>dS (P:=fun o=>PS X (.AugAssign _ o _ _) _) (bL (bR h)) <| dS (P:=fun o=>PS X _ (Znc T Y E (.aug i o e))) (bL (bR (bR h))) <|
   (Zp4 G.nd (by rw [G.N];exact e1) (G.ownD _ e2).1 (Zi e G.toGd (bR (bR (bR h)))) ZqV (G.ownD _ e2).2).imp fun D Z H s=>SmS.at s fun S h B rh rs f=>by
     obtain ⟨d,ed,f⟩:=ZN.ofO f;obtain ⟨v,ev,rd⟩:=rs.var ed;refine ⟨v,ev,S,h,B,rh,rs,ZN.bind f fun d2 h2 v2 H2 μ2 _ g2 rh2 rd2 f2=>?_⟩;cases rd with
     | int a =>
       cases rd2 with
       | int b=>exact ⟨a,b,rfl,rfl,ZN.nx f2 rh2 ((rs.mono rh g2).set (.int _))⟩
       | _=>exact f2.elim
     | _=>exact f2.elim
 | .drp e,h=>Za0 (P:=fun x=>PS X x _) h fun p h=>(Znu (Zi e G.toGd (bL h)) (Zda (bR h))).imp fun D Z H s=>SmS.bind s fun S d h1 v H1 μ1 rh1 rs1 rd f1=>f1.nx rh1 rs1
 | .iff c a b,h=>Za0 (P:=fun x=>PS X x _) h fun p h=>(Zsr (tst_ok c G.toGd (bL h)) (sts_ok a G (bL (bR h))) (sts_ok b G (bR (bR h)))).imp fun D Z H s=>SmS.bind s fun S t h1 v H1 μ1 rh1 rs1 rd f1=>by
   cases rd;cases t with
   | true=>exact Zh7 ⟨S,h1,μ1,rh1,rs1,f1⟩
   | false=>exact Zh8 ⟨S,h1,μ1,rh1,rs1,f1⟩
 | .whl c b,h=>Za0 (P:=fun x=>PS X x _) h fun p h=>Zjn (P:=fun ys=>PS X (.While _ _ ys _) _) h fun h=>(Zll G.own (tst_ok c G.toGd (bL h)) (sts_ok b G (bR h))).imp fun D Z H s=>ZpA s
 | .forr g it b,h=>Za0 (P:=fun x=>PS X x _) h fun p h=>Zjn (P:=fun ys=>PS X (.For _ _ _ ys _) _) h fun h=>(Zp2 G.own G.calm (evi_ok it G.toGd (bL h)) (Zi7 (X:=X) G.N G.nd G.calm G.ownD (bL (bR (bR h)))) (sts_ok b G (bR (bR (bR h)))) (ZhL X.env (bL (bR h)))).imp fun D Z H s=>SmS.bind s fun S w h1 J H1 μ1 rh1 rs1 wj f1=>Zq3 G.gk.K rh1 rs1 wj f1
 | .pas,h=>Za0 (P:=fun x=>PS X x _) h fun p h=>Znt.imp fun D Z H s=>SmS.at s fun S h B rh rs f=>ZN.nx f rh rs
 | .brk,h=>Za0 (P:=fun x=>PS X x _) h fun p h=>Zln.imp fun D Z H s=>SmS.at s fun S h B rh rs f=>f H B Gr.refl rh Z rs
 | .cnt,h=>Za0 (P:=fun x=>PS X x _) h fun p h=>ZgQ.imp fun D Z H s=>SmS.at s fun S h B rh rs f=>f H B Gr.refl rh Z rs
 | .any,h=>fun pins s Z H D I s=>SmS.at s fun S h B rh rs f=>f.elim
 | .rai C e,h=>ff h
 | .trs i f es C,h=>ff h
 | .trw i n f es C W w,h=>ff h
 | .seta Cs o f e,h=>ZmH (P:=fun x=>PS X x _) h fun tg xe pos h=>ZoU (P:=fun t=>PS X (.Assign [t] _ _) _) h fun xo q h=>(Zp3 (Zi o G.toGd (bL h)) (Zi e G.toGd (bL (bR h))) (Zda (bL (bR (bR h))))).imp fun D Z H s=>SmS.bind s fun S d h1 v H1 μ1 rh1 rs1 rd f1=>⟨S,h1,μ1,rh1,rs1,ZN.bind f1 fun d2 h2 v2 H2 μ2 _ g2 rh2 rd2 f2 =>
     Zk3 (Q:=fun _ H'=>D.nx Z H') G.toGd (bL (bR (bR (bR h)))) (of_decide_eq_true (bR (bR (bR (bR h))))) rh2 rd2 (rd.mono rh1 g2) (ZN.bind f2 fun _ h3 _ H3 μ3 _ g3 rh3 _ f3=>f3.nx rh3 ((rs1.mono rh1 g2).mono rh2 g3))⟩
 | .auga Cs o f e,h=>Za0 (P:=fun x=>PS X x _) h fun p h=>dS (P:=fun o=>PS X (.AugAssign _ o _ _) _) (bL h) <| ZoU (P:=fun t=>PS X (.AugAssign t _ _ _) _) (bR h) fun xo q h=>(Zke (Zi o G.toGd (bL h)) (Zi e G.toGd (bL (bR h))) ZqW).imp fun D Z H s=>SmS.bind s fun S d h1 x H1 μ1 rh1 rs1 rd f1=>Zrq G.toGd (bL (bR (bR h))) (of_decide_eq_true (bR (bR (bR h)))) rh1 rs1 rd f1
 | .unl i j e,h=>ff h
theorem sts_ok(s:Sxs){Γ:Gm}{X:Cx}{E:XK}{k:Nat}{x:List Stmt}(G:GdS T Γ X Y E k)(h:chkSs Γ s x=true):PSs X x (Zi1 T Y E s):=match s,x,h with
 | .nil,[],h=>Zns.imp fun D Z H s=>SmS.at s fun S h B rh rs f=>ZN.nx f rh rs
 | .nil,_::_,h=>ff h
 | .cons s r,[],h=>ff h
 | .cons s r,x::xs,h=>(Zlk (Zr7 s G (bL h)) (sts_ok r G (bR h))).imp fun D Z H s=>SmS.at s fun S h B rh rs f=>⟨S,h,B,rh,rs,ZN.part f fun p h1 H1 μ1 _ g1 rh1 f1=>by
     obtain ⟨fl,ρ1⟩:=p;cases fl with
     | nx=>exact fun σ' rs'=>⟨ρ1,h1,μ1,rh1,rs',f1⟩
     | bk=>exact fun σ' rs'=>f1 H1 μ1 Gr.refl rh1 σ' rs'
     | ct=>exact fun σ' rs'=>f1 H1 μ1 Gr.refl rh1 σ' rs'
     | rt d=>exact fun v rv=>f1 H1 μ1 Gr.refl rh1 v rv⟩
end
end IV
end
section
set_option tactic.hygienic false
namespace IV
open PySem PySem.Spec PyProof.Rows L2
structure BodyOk(K:PySem.W.Frag)(kl:Kl)(fs:List Str)(x q:Str)(fd:Fd)(st:Stmt)(f:Addr)(fdd:FuncData):Prop where
 fn:Fun K x q st f fdd
 sc:FnScope fd.N fd.ps (ZO st)
 hb:∀ (kV doc pm:Value) (an:Option Addr) (cdv ct:Value) (us:List Value),us.length=fd.ps.length->bindArgs (PySem.W.fnOf x q (ZcI st) (Za6 st) (ZO st) .none kV doc pm an cdv ct) ⟨us,[]⟩=pure (fd.ps.zip us)
 ck:chkSs ⟨fd.N,ZO st,fs,true,kl⟩ fd.body (Za6 st)=true
structure DefOk(K:PySem.W.Frag)(mg:Str->Option Value)(kl:Kl)(fs:List Str)(x:Str)(fd:Fd)(st:Stmt)(f:Addr)(fdd:FuncData):Prop where
 bd:BodyOk K kl fs x x fd st f fdd
 mg:mg x=some (.ref f)
structure Md(Pr:Program)(w:World)(K:PySem.W.Frag)(mg:Str->Option Value)(P:Pg)(kl:Kl):Prop where
 bare:Zen K=true
 gd:∀ x kvs,P.GD x=some kvs->∃ a kvs',mg x=some (.ref a)/\DkK Pr w K a kvs'/\∀ H B,RKs ⟨K,mg⟩ H B kvs kvs'
 g:∀ x d,P.G x=some d->∃ v u,mg x=some u/\RelV v u/\∀ H B,RD ⟨K,mg⟩ H B d v
 blt:∀ x∈ZjI,mg x=none
 defs:∀ x fd,P.tb.lookup x=some fd->∃ st f fdd,DefOk K mg kl (P.tb.map (·.1)) x fd st f fdd
 cls:∀ C∈kl.cs,∃ a,mg C=some (.ref a)/\Cls K a/\∀ f∈kl.ats,Zat K a f
 mts:∀ p∈kl.ms,∃ a f fdd fd st q,mg p.1=some (.ref a)/\Cls K a/\Meth K a p.2 f/\P.look (mnm p.1 p.2)=some fd/\BodyOk K kl (P.tb.map (·.1)) p.2 q fd st f fdd
 mks:∀ C∈kl.is,∃ a f fdd fd st q,mg C=some (.ref a)/\Mk K a f/\P.look (mnm C (O "__init__"))=some fd/\BodyOk K kl (P.tb.map (·.1)) (O "__init__") q fd st f fdd
 xcs:∀ C∈kl.xs,∃ a,mg C=some (.ref a)/\XOk K a
 xas:∀ p∈kl.xa,∃ a b,mg p.1=some (.ref a)/\mg p.2=some (.ref b)/\XAs K a b
theorem ZkY(r:RDs Y H B ds vs):RS Y H B (Zs N ds) (L2.start N vs):=by
 refine ⟨by simp [Zs,L2.start,r.length],fun i d e=>?_⟩;unfold Zs at e;unfold L2.start;by_cases hi:i<ds.length
 . rw [Oe (by simpa using hi),On] at e;rw [Oe (by simpa [<- r.length] using hi),On];obtain ⟨d',e1,e2⟩:=Oo.mp e;cases e2;obtain ⟨v,h1,h2⟩:=r.get e1;exact ⟨v,by rw [h1];rfl,h2⟩
 . rw [Om (by simpa using hi)] at e;have:=O1 e;rw [List.mem_replicate] at this;cases this.2
theorem Znf(f:Fin Y (RD Y) H B (Zk r) Q E):ZN Y H B r {nx:=fun _ H'=>Q .non H',rt:=Q} E:=by
 cases r with
 | bad=>exact f.elim
 | exc c h=>exact f
 | ok p h =>
   obtain ⟨fl,S⟩:=p;cases fl with
   | nx=>exact fun H' μ' g rh σ' _=>f .non H' μ' g rh .non
   | bk=>exact f.elim
   | ct=>exact f.elim
   | rt d=>exact fun H' μ' g rh v rv=>f v H' μ' g rh rv
section
variable {Pr:Program}{w:World}{K:PySem.W.Frag}{mg:Str->Option Value}{base:Heap}{P:Pg}{kl:Kl}
theorem Zga(h:P.tb.lookup x=some fd):P.look x=some fd:=by unfold Pg.look;rw [h]
theorem Zk0(hl:P.look x=some fd)(h:Zd7 (P.tbl n) ⟨K,mg⟩ x vs H Q E):vs.length=fd.ps.length:=by
 obtain ⟨ds,h,B,rh,rs,f⟩:=h;cases n with
 | zero=>exact f.elim
 | succ n =>
   have f:Fin ⟨K,mg⟩ (RD ⟨K,mg⟩) H B (run P (n+1) x ds h) Q E:=f;rw [run,hl] at f;obtain ⟨hz,_⟩:=f.iff;rw [<- rs.length];exact hz
structure Lev(Pr:Program)(w:World)(K:PySem.W.Frag)(mg:Str->Option Value)(base:Heap)(P:Pg)(kl:Kl)(n:Nat):Prop where
 defs:∀ y∈P.tb.map (·.1),∃ ps,Def Pr w K mg base (2 * n+61) y ps (Zd7 (P.tbl n) ⟨K,mg⟩ y)
 mts:∀ p∈kl.ms,∃ a f fd ps,mg p.1=some (.ref a)/\Cls K a/\Meth K a p.2 f/\FnOk Pr w K mg base (CXF Pr w) (2 * n+61) f fd ps (Zd7 (P.tbl n) ⟨K,mg⟩ (mnm p.1 p.2))/\Binds K fd ps []
 mks:∀ C∈kl.is,∃ a f fd ps,mg C=some (.ref a)/\Mk K a f/\FnOk Pr w K mg base (CXF Pr w) (2 * n+61) f fd ps (Zd7 (P.tbl n) ⟨K,mg⟩ (mnm C (O "__init__")))/\Binds K fd ps []
theorem Zgq(M:Md Pr w K mg P kl){x nm q:Str}{fd:Fd}{st:Stmt}{f:Addr}{fdd:FuncData}(hl:P.look x=some fd)(o:BodyOk K kl (P.tb.map (·.1)) nm q fd st f fdd) :
   ∀ n,Lev Pr w K mg base P kl n->FnOk Pr w K mg base (CXF Pr w) (2 * (n+1)+61) f fdd fd.ps (Zd7 (P.tbl (n+1)) ⟨K,mg⟩ x):=by
 intro n ih;obtain ⟨oc,od,kV,doc,pm,an,cdv,ct,osl,rfl,lk,hcd⟩:=o.fn.ex;have S_:=o.sc;rw [show 2 * (n+1)+61=(2 * n+61+1)+1 by lia];refine Ztd lk hcd S_ (fun vs H Q E h=>Zk0 hl h) fun A outer s H vs Q E hr hsp=>?_;refine ZoH (t:=Zi1 (P.tbl n) ⟨K,mg⟩ E fd.body) (sts_ok fd.body (k:=2 * n+61) (Γ:=⟨fd.N,ZO st,P.tb.map (·.1),true,kl⟩) ⟨⟨⟨rfl,rfl,M.gd,M.g,M.bare⟩,rfl,fun _=>rfl,fun y hy=>?_,fun y hy=>hy,S_.nd,rfl,hr.mono (by lia),by lia,ZnM fun _ _ z=>z,ih.defs,M.blt,hr,M.cls,ih.mts,ih.mks⟩,rfl,fun _=>rfl,PassesOwn.leaving,?_,Zk7,rfl,rfl,M.xcs,M.xas⟩ o.ck) ?_
 . unfold ZmZ at hy;rw [Bool.or_eq_true,Bool.or_eq_true] at hy;rcases hy with (hy|hy)|hy
   . exact .inl (of_decide_eq_true hy)
   . exact .inr (.inl (of_decide_eq_true hy))
   . exact .inr (.inr (of_decide_eq_true hy))
 . show (if (ZO st).kind.isAnnotationScope then ScopeKind.function else (ZO st).kind)=.function;rw [S_.kind];rfl
 . obtain ⟨ds,h,B,rh,rs,f⟩:=hsp;have f:Fin ⟨K,mg⟩ (RD ⟨K,mg⟩) H B (run P (n+1) x ds h) Q E:=f;rw [run,hl] at f;obtain ⟨hz,f⟩:=f.iff;exact ⟨Zs fd.N ds,h,B,rh,ZkY rs,Znf f⟩
theorem mem_lookup{α:Type}{l:List (Str×α)}{x:Str}(h:x∈l.map (·.1)):∃ a,l.lookup x=some a:=by
 induction l with
 | nil=>simp at h
 | cons p r ih =>
   rw [OF];by_cases e:x=p.1
   . have:(x==p.1)=true:=by simpa using e
     rw [this];exact ⟨_,rfl⟩
   . have:(x==p.1)=false:=by simpa using e
     rw [this];exact ih (by simpa [e] using h)
theorem Zgj{x:Str}{fd:Fd}{f:Addr}{fdd:FuncData}(hl:P.look x=some fd):FnOk Pr w K mg base (CXF Pr w) (2 * 0+61) f fdd fd.ps (Zd7 (P.tbl 0) ⟨K,mg⟩ x) :=
 ⟨fun vs H Q E h=>Zk0 hl h,fun A outer s H args us vs Q E _ _ _ _ h=>by obtain ⟨ds,h,B,rh,rs,f⟩:=h;exact f.elim⟩
theorem ZmL(M:Md Pr w K mg P kl):∀ n,Lev Pr w K mg base P kl n:=by
 intro n;induction n with
 | zero =>
   refine ⟨fun y hy=>?_,fun p hp=>?_,fun C hC=>?_⟩
   . obtain ⟨fd,hl⟩:=mem_lookup hy;obtain ⟨st,f,fdd,o⟩:=M.defs y fd hl;exact ⟨fd.ps,f,fdd,o.mg,o.bd.fn.kp,o.bd.fn.binds o.bd.hb,Zgj (Zga hl)⟩
   . obtain ⟨a,f,fdd,fd,st,q,m,c,me,hl,o⟩:=M.mts p hp;exact ⟨a,f,fdd,fd.ps,m,c,me,Zgj hl,o.fn.binds o.hb⟩
   . obtain ⟨a,f,fdd,fd,st,q,m,me,hl,o⟩:=M.mks C hC;exact ⟨a,f,fdd,fd.ps,m,me,Zgj hl,o.fn.binds o.hb⟩
 | succ n ih =>
   refine ⟨fun y hy=>?_,fun p hp=>?_,fun C hC=>?_⟩
   . obtain ⟨fd,hl⟩:=mem_lookup hy;obtain ⟨st,f,fdd,o⟩:=M.defs y fd hl;exact ⟨fd.ps,f,fdd,o.mg,o.bd.fn.kp,o.bd.fn.binds o.bd.hb,Zgq M (Zga hl) o.bd n ih⟩
   . obtain ⟨a,f,fdd,fd,st,q,m,c,me,hl,o⟩:=M.mts p hp;exact ⟨a,f,fdd,fd.ps,m,c,me,Zgq M hl o n ih,o.fn.binds o.hb⟩
   . obtain ⟨a,f,fdd,fd,st,q,m,me,hl,o⟩:=M.mks C hC;exact ⟨a,f,fdd,fd.ps,m,me,Zgq M hl o n ih,o.fn.binds o.hb⟩
theorem ZqJ(M:Md Pr w K mg P kl){x:Str}{a:Str}{fd:Fd}{fa:Addr}(n:Nat)(hl:P.tb.lookup x=some fd)(hps:fd.ps=[a])(hm:mg x=some (.ref fa)) :
   ∃ fdd:FuncData,(∀ (s:Shared) (v:Value),BindsTo s fdd ⟨[v],[]⟩ [(a,v)])/\∀ base:Heap,FnOk Pr w K mg base (CXF Pr w) (2 * (n+1)+61) fa fdd [a] (Zd7 (P.tbl (n+1)) ⟨K,mg⟩ x):=by
 obtain ⟨st,f,fdd,o⟩:=M.defs x fd hl;have e:=hm.symm.trans o.mg;cases e;refine ⟨fdd,fun s v=>?_,fun base=>hps ▸ Zgq M (Zga hl) o.bd n (ZmL M n)⟩;obtain ⟨oc,od,kV,doc,pm,an,cdv,ct,osl,rfl,lk,hcd⟩:=o.bd.fn.ex;have:=o.bd.hb kV doc pm an cdv ct [v] (by rw [hps];rfl);rw [hps] at this;exact BindsTo.of_eq this
end
theorem ZrM{α:Type}{us:List α}(h:us.length=0):us=[]:=List.length_eq_zero_iff.mp h
theorem ZjX{α:Type}{us:List α}{n:Nat}(h:us.length=n+1):∃ a r,us=a::r/\r.length=n:=by
 cases us with
 | nil=>cases h
 | cons a r=>exact ⟨a,r,rfl,Nat.succ.inj h⟩
theorem ZrL{α:Type}{us:List α}(h:us.length=1):∃ a0,us=[a0]:=by
 obtain ⟨a0,r,rfl,h2⟩:=ZjX h;exact ⟨a0,by rw [ZrM h2]⟩
theorem ZrK{α:Type}{us:List α}(h:us.length=2):∃ a0 a1,us=[a0,a1]:=by
 obtain ⟨a0,r,rfl,h2⟩:=ZjX h;obtain ⟨a1,rfl⟩:=ZrL h2;exact ⟨a0,a1,rfl⟩
theorem ZrJ{α:Type}{us:List α}(h:us.length=3):∃ a0 a1 a2,us=[a0,a1,a2]:=by
 obtain ⟨a0,r,rfl,h2⟩:=ZjX h;obtain ⟨a1,a2,rfl⟩:=ZrK h2;exact ⟨a0,a1,a2,rfl⟩
theorem ZrI{α:Type}{us:List α}(h:us.length=4):∃ a0 a1 a2 a3,us=[a0,a1,a2,a3]:=by
 obtain ⟨a0,r,rfl,h2⟩:=ZjX h;obtain ⟨a1,a2,a3,rfl⟩:=ZrJ h2;exact ⟨a0,a1,a2,a3,rfl⟩
theorem ZrH{α:Type}{us:List α}(h:us.length=5):∃ a0 a1 a2 a3 a4,us=[a0,a1,a2,a3,a4]:=by
 obtain ⟨a0,r,rfl,h2⟩:=ZjX h;obtain ⟨a1,a2,a3,a4,rfl⟩:=ZrI h2;exact ⟨a0,a1,a2,a3,a4,rfl⟩
theorem ZtL{α:Type}{us:List α}(h:us.length=6):∃ a0 a1 a2 a3 a4 a5,us=[a0,a1,a2,a3,a4,a5]:=by
 obtain ⟨a0,r,rfl,h2⟩:=ZjX h;obtain ⟨a1,a2,a3,a4,a5,rfl⟩:=ZrH h2;exact ⟨a0,a1,a2,a3,a4,a5,rfl⟩
end IV
end
section
namespace IV
open PySem PySem.Spec PyProof.Rows L2
noncomputable def All(p:α->Prop):List α->Prop
 | []=>True
 | a::l=>p a/\All p l
theorem All.mem:∀ {l:List α},All p l->∀ a∈l,p a
 | [],_,a,h=>by simp at h
 | b::l,⟨h1,h2⟩,a,h=>by
   rcases O2.mp h with rfl|h
   . exact h1
   . exact All.mem h2 a h
theorem lookup_mem{α:Type}{l:List (Str×α)}{a:α}(h:l.lookup x=some a):(x,a)∈l:=by
 induction l with
 | nil=>cases h
 | cons p r ih =>
   rw [OF] at h;by_cases e:x=p.1
   . have:(x==p.1)=true:=by simpa using e
     rw [this] at h;cases h;subst e;exact Oi
   . have:(x==p.1)=false:=by simpa using e
     rw [this] at h;exact Oh _ (ih h)
noncomputable def spL(K:PySem.W.Frag):Sp:=fun vs H Q _=>∃ (a:Addr) (ns:List Int),vs=[.ref a]/\SqL K H a (ns.map V.int)/\ns.length<=63/\ZoX H/\∀ H',Q (.bl true) H'
theorem Zju:∀ ns:List Int,RDs Y H B (ns.map D.int) (ns.map V.int)
 | []=>.nil
 | n::r=>.cons (.int n) (Zju r)
theorem ZrG {l:PySem.W.OpenLaw}{q:Program}{loose:List Str}{XP:(Str->Option Value)->Heap->Prop}{YP:World->Heap->Prop}{d:DefRec}{K:Params->PySem.W.Frag}{P:Pg}{kl:Kl}{fd:Fd} (n:Nat) (hn:l.most=some 63) (hdf:d.params.defaults=[]) (hd:d.name=O "law") (hr:Room (2 * (n+1)+61) callerA)
   (hY:∀ (w:World) (h:Heap),YP w h->(K w.params).In h) (hl:P.tb.lookup (O "law")=some fd) (hps:fd.ps=[O "_law_script"])
   (hrun:∀ ns:List Int,ns.length<=63->∃ h',run P (n+1) (O "law") [.ro (ns.map .int)] []=.ok (.bl true) h')
   (M:∀ (w:World) (mg:Str->Option Value) (h:Heap),(K w.params).In h->h.Ns mainGlobals mg->Md l.prog w (K w.params) mg P kl) :
   PySem.W.WalkO q loose XP YP l.row.toRowW d [] (fun f vs=>PySem.call f vs):=by
 refine L2.ZmY (n:=63) (k:=2 * (n+1)+61) (x := "_law_script") (CX:=fun w=>CXF l.prog w) (sp:=fun w=>spL (K w.params)) hn (by decide) hdf hr hY (fun w mg fa h KX G hmg=>?_) (fun _ _ a ns hl hO hS=>⟨a,ns,rfl,hS,hl,hO,fun _=>rfl⟩) fun _ _ _ _ _ z=>by obtain ⟨_,_,_,_,_,_,_,_,_,_,_,_,_,z⟩:=z;exact z
 rw [hd] at hmg;obtain ⟨fdd,hb,F⟩:=ZqJ (M w mg h KX G) n hl hps hmg;refine ⟨fdd,hb,fun base _ _=>(F base).imp fun vs H Q E hsp=>?_⟩;obtain ⟨a,ns,rfl,hS,hz,hO,hq⟩:=hsp;obtain ⟨h',e⟩:=hrun ns hz;refine ⟨[.ro (ns.map .int)],[],[],⟨rfl,.nil,fun i o a e=>by simp at e,fun i o e=>by simp at e⟩,.cons (.ro ?_ (Zju ns)) .nil,?_⟩
 . rcases hS with hS|hS
   . rcases hS with hS|hS
     . rcases hO a with z|⟨o,xs,z⟩<;>(rw [z] at hS;cases hS)
     . exact .inl hS
   . exact .inr hS
 . show Fin _ _ H [] (run P (n+1) (O "law") [.ro (ns.map .int)] []) Q E;rw [e];exact fun b H' μ' _ _ r=>by cases r;exact hq H'
theorem Zo7 {K:PySem.W.Frag} (h:K.lookup a=some ⟨.type "tuple",od,.seq its n,sl⟩) (hz:its.size<=sizeLine) (r:Zj vs its.toList):SqT K H a vs :=
 .inr ⟨_,its,n,h,rfl,rfl,hz,r⟩
end IV
end
section
namespace IV
open PySem L2 PyProof.Rows
structure Chk(kl:Kl)(fs:List Str)(x q:Str)(fd:Fd)(st:Stmt):Prop where
 sc:FnScope fd.N fd.ps (ZO st)
 hb:∀ (kV doc pm:Value) (an:Option Addr) (cdv ct:Value) (us:List Value),us.length=fd.ps.length->bindArgs (PySem.W.fnOf x q (ZcI st) (Za6 st) (ZO st) .none kV doc pm an cdv ct) ⟨us,[]⟩=pure (fd.ps.zip us)
 ck:chkSs ⟨fd.N,ZO st,fs,true,kl⟩ fd.body (Za6 st)=true
variable {K:PySem.W.Frag}{h:Heap}{mg:Str->Option Value}{kl:Kl}{fs:List Str}{x q C:Str}{fd:Fd}{st:Stmt}{ca:Addr}{P:Pg}
theorem Chk.bd(c:Chk kl fs x q fd st)(F:Fun K x q st f fdd):BodyOk K kl fs x q fd st f fdd:=⟨F,c.sc,c.hb,c.ck⟩
noncomputable def Zrv(K:PySem.W.Frag)(x:Str)(st:Stmt):Prop:=∃ f fdd,PySem.W.nsIn K mainGlobals x=some (some (.ref f))/\Fun K x x st f fdd
noncomputable def ZmP(K:PySem.W.Frag)(ca:Addr)(x q:Str)(st:Stmt):Prop:=∃ f fdd,PySem.W.findIn K (.ref ca) x=some (some (.ref f))/\PySem.W.isFn K (.ref f)=true/\PySem.W.keepIn K (.ref f)=true/\Fun K x q st f fdd
theorem Zoz(X:K.In h)(G:h.Ns mainGlobals mg)(d:Zrv K x st)(c:Chk kl fs x x fd st):∃ st f fdd,DefOk K mg kl fs x fd st f fdd:=by
 obtain ⟨f,fdd,a,F⟩:=d;exact ⟨st,f,fdd,c.bd F,PySem.W.mg_of X G a⟩
theorem Zn6(X:K.In h)(G:h.Ns mainGlobals mg)(y:PySem.W.nsIn K mainGlobals C=some (some (.ref ca)))(cl:Cls K ca)(d:ZmP K ca x q st)(c:Chk kl (P.tb.map (·.1)) x q fd st)(e:P.look (mnm C x)=some fd):∃ a f fdd fd st q,mg C=some (.ref a)/\Cls K a/\Meth K a x f/\P.look (mnm C x)=some fd/\BodyOk K kl (P.tb.map (·.1)) x q fd st f fdd:=by
 obtain ⟨f,fdd,u1,u2,u3,F⟩:=d;exact ⟨ca,f,fdd,fd,st,q,PySem.W.mg_of X G y,cl,⟨u1,u2,u3⟩,e,c.bd F⟩
theorem Zqy (X:K.In h) (G:h.Ns mainGlobals mg) (y:PySem.W.nsIn K mainGlobals C=some (some (.ref ca))) (m:PySem.W.makesIn K ca=true) (k:PySem.W.keepIn K (.ref ca)=true) (d:ZmP K ca (O "__init__") q st) (c:Chk kl (P.tb.map (·.1)) (O "__init__") q fd st) (e:P.look (mnm C (O "__init__"))=some fd):∃ a f fdd fd st q,mg C=some (.ref a)/\Mk K a f/\P.look (mnm C (O "__init__"))=some fd/\BodyOk K kl (P.tb.map (·.1)) (O "__init__") q fd st f fdd:=by
 obtain ⟨f,fdd,u1,u2,u3,F⟩:=d;exact ⟨ca,f,fdd,fd,st,q,PySem.W.mg_of X G y,⟨m,u1,u2,k⟩,e,c.bd F⟩
end IV
end
section
namespace IV
open PySem L2 PyProof.Rows
noncomputable abbrev Ml:=Str×Str×Fd×Nat×Nat
variable {K:PySem.W.Frag}{h:Heap}{mg:Str->Option Value}{kl:Kl}{fs:List Str}{C:Str}{ca:Addr}{P:Pg}
theorem Zjz(X:K.In h)(G:h.Ns mainGlobals mg){top:Nat->Stmt}:∀ {l:List (Str×Fd×Nat)},All (fun p=>Zrv K p.1 (top p.2.2)) l->All (fun p=>Chk kl fs p.1 p.1 p.2.1 (top p.2.2)) l->All (fun p:Str×Fd=>∃ st f fdd,DefOk K mg kl fs p.1 p.2 st f fdd) (l.map fun p=>(p.1,p.2.1))
 | [],_,_=>trivial
 | _::_,d,c=>⟨Zoz X G d.1 c.1,Zjz X G d.2 c.2⟩
theorem Zjg(X:K.In h)(G:h.Ns mainGlobals mg)(y:PySem.W.nsIn K mainGlobals C=some (some (.ref ca)))(cl:Cls K ca){mt:Nat->Nat->Stmt}:∀ {l:List Ml},All (fun p=>ZmP K ca p.1 p.2.1 (mt p.2.2.2.1 p.2.2.2.2)) l->All (fun p=>Chk kl (P.tb.map (·.1)) p.1 p.2.1 p.2.2.1 (mt p.2.2.2.1 p.2.2.2.2)) l->All (fun p=>P.look (mnm C p.1)=some p.2.2.1) l->All (fun p:Str×Str=>∃ a f fdd fd st q,mg p.1=some (.ref a)/\Cls K a/\Meth K a p.2 f/\P.look (mnm p.1 p.2)=some fd/\BodyOk K kl (P.tb.map (·.1)) p.2 q fd st f fdd) (l.map fun p=>(C,p.1))
 | [],_,_,_=>trivial
 | _::_,d,c,e=>⟨Zn6 X G y cl d.1 c.1 e.1,Zjg X G y cl d.2 c.2 e.2⟩
theorem ZgV(X:K.In h)(G:h.Ns mainGlobals mg):∀ {l:List Str},All (fun x=>PySem.W.nsIn K mainGlobals x=some none) l->All (fun x=>mg x=none) l
 | [],_=>trivial
 | _::_,d=>⟨PySem.W.mg_none_of X G d.1,ZgV X G d.2⟩
end IV
end
section
set_option tactic.hygienic false
namespace IV
open PySem L2
theorem Zf7(h:Str.ofString a=Str.ofString b):a=b:=by
 have e:∀ s:String,(Str.ofString s).cps.toList=s.toList.map Char.toNat:=fun s=>by
   show (cpsOfBytes 0 0 s.toByteArray.data.toList).toArray.toList=_;rw [cpsOfBytes_string]
 have h1:=congrArg (fun s:Str=>s.cps.toList) h;simp only [e] at h1;have h2:a.toList=b.toList:=by
   have inj:∀ {x y:Char},x.toNat=y.toNat->x=y:=fun {x y} q=>by
     have:x.val=y.val:=UInt32.toNat_inj.mp q;exact Char.ext this
   exact (List.map_inj_right fun x y q=>inj q).mp h1
 exact String.toList_inj.mp h2
@[simp] theorem ofString_eq(a b:String):(Str.ofString a=Str.ofString b)↔a=b:=⟨Zf7,fun h=>h ▸ rfl⟩
@[simp] theorem Zn2(a b:String):(Str.ofString a==Str.ofString b)=(a==b):=by
 rw [Bool.eq_iff_iff];simp
noncomputable def Un(k:γ):Type:=Unit
noncomputable def un:Un k:=()
noncomputable def R.bnd(r:R α)(k:α->Hd->R β)(u:Un k:=un):R β:=r.bind k
@[simp] theorem Zm:R.bnd (.ok a h) k u=k a h:=rfl
@[simp] theorem ZtJ:R.bnd (R.bad:R α) k u=.bad:=rfl
section
variable {T:Tb}{S:Ev}{h:Hd}
@[simp] theorem bind_ok:(R.ok a h).bind k=k a h:=rfl
@[simp] theorem bind_bad:(R.bad:R α).bind k=.bad:=rfl
@[simp] theorem ofO_some:R.ofO (some a) h=.ok a h:=rfl
@[simp] theorem Zkh:(R.ok a h).plain=.ok a h:=rfl
@[simp] theorem Zmk{i}:ev T (.var i) S h=R.ofO (S[i]?).join h:=rfl
@[simp] theorem Zq9{d}:ev T (.cst d) S h=.ok d h:=rfl
@[simp] theorem Zml{x}:ev T (.glo x) S h=R.ofO (T.G x) h:=rfl
@[simp] theorem Zmn{op a b}:ev T (.bin op a b) S h=(ev T a S h).bnd fun x h1=>(ev T b S h1).bnd fun y h2=>opB op x y h2:=rfl
@[simp] theorem Zra{op a b}:ev T (.cmp op a b) S h=(ev T a S h).bnd fun x h1=>(ev T b S h1).bnd fun y h2=>opC T.GD op x y h2:=rfl
@[simp] theorem Zux{a}:ev T (.neg a) S h=(ev T a S h).bnd fun x h1=>match x with
   | .int i=>.ok (.int (-i)) h1
   | _=>.bad:=rfl
@[simp] theorem ZuR{a}:ev T (.nt a) S h=(ev T a S h).bnd fun x h1=>match x with
   | .bl b=>.ok (.bl (!b)) h1
   | _=>.bad:=rfl
@[simp] theorem ZtI{es}:ev T (.ands es) S h=evAnd T es S h:=rfl
@[simp] theorem Zuw{es}:ev T (.ors es) S h=evOr T es S h:=rfl
@[simp] theorem ZrA{e}:evAnd T (.cons e .nil) S h=ev T e S h:=rfl
@[simp] theorem Zrz{e e' r}:evAnd T (.cons e (.cons e' r)) S h=(ev T e S h).bnd fun x h1=>match x with
     | .bl true=>evAnd T (.cons e' r) S h1
     | .bl false=>.ok (.bl false) h1
     | _=>.bad:=rfl
@[simp] theorem Ztj{e}:evOr T (.cons e .nil) S h=ev T e S h:=rfl
@[simp] theorem Zti{e e' r}:evOr T (.cons e (.cons e' r)) S h=(ev T e S h).bnd fun x h1=>match x with
     | .bl true=>.ok (.bl true) h1
     | .bl false=>evOr T (.cons e' r) S h1
     | _=>.bad:=rfl
@[simp] theorem Zuy{c a b}:ev T (.ite c a b) S h=(tst T c S h).bnd fun c h1=>if c then ev T a S h1 else ev T b S h1:=rfl
@[simp] theorem Zov{es}:ev T (.tupl es) S h=(evs T es S h).bnd fun xs h1=>if xs.length<=sizeLine then .ok (.tup xs) h1 else .bad:=rfl
@[simp] theorem Zjy{es}:ev T (.lstl es) S h=(evs T es S h).bnd fun xs h1=>if xs.length<=sizeLine then Zbs (.lst xs) h1 else .bad:=rfl
@[simp] theorem Zhh{a i}:ev T (.ix a i) S h=(ev T a S h).bnd fun x h1=>(ev T i S h1).bnd fun y h2=>Zag T.GD x y h2:=rfl
@[simp] theorem Zpj{a lo hi}:ev T (.sl a lo hi) S h=(ev T a S h).bnd fun x h1=>(evo T lo S h1).bnd fun l h2=>(evo T hi S h2).bnd fun u h3=>Zfk x l u h3:=rfl
@[simp] theorem Zrc{f es}:ev T (.blt f es) S h=(evs T es S h).bnd fun xs h1=>Zao T.GD f xs h1:=rfl
@[simp] theorem Zgo{f es}:ev T (.call f es) S h=(evs T es S h).bnd fun xs h1=>T.C f xs h1:=rfl
@[simp] theorem Zow{m o es}:ev T (.meth m o es) S h=(ev T o S h).bnd fun x h1=>if ZbS x h1 then (evs T es S h1).bnd fun xs h2=>ZaI m x xs h2 else .bad:=rfl
@[simp] theorem Zej{NC js it g c e}:ev T (.comp NC js it g c e) S h=(evi T it S h).bnd fun w h1=>(ZF w.src g (tsto T c) (ev T e) w.xs (ZaJ js S) [] h1).bnd fun xs h2=>Zbs (.lst xs) h2:=rfl
@[simp] theorem ZtH{e d}:ev T (.maxd e d) S h=(ev T e S h).bnd fun x h1=>(ev T d S h1).bnd fun y h2=>ZjT x y h2:=rfl
@[simp] theorem Zth{ps}:ev T (.dictl ps) S h=(evs T ps S h).bnd fun xs h1=>match Zb7 xs with
   | some kvs=>if kvs.length<=15 then Zbs (.dic (Zbj [] kvs)) h1 else .bad
   | none=>.bad:=rfl
@[simp] theorem Zuz{Cs o f}:ev T (.att Cs o f) S h=(ev T o S h).bnd fun x h1=>Zfl Cs f x h1:=rfl
@[simp] theorem ZuS{C es}:ev T (.mk C es) S h=(evs T es S h).bnd fun xs h1=>ZlO T.C C xs h1:=rfl
@[simp] theorem Zq7{C m o es}:ev T (.mcl C m o es) S h=(ev T o S h).bnd fun x h1=>match ZW x h1 with
   | some (C',fs)=>if C'=C/\fs.lookup m=none then (evs T es S h1).bnd fun xs h2=>T.C (mnm C m) (x::xs) h2 else .bad
   | none=>.bad:=rfl
@[simp] theorem ZtG{e}:ev T (.trev e) S h=(ev T e S h).bnd fun x h1=>Zpt x h1:=rfl
@[simp] theorem Zuu{o e}:ev T (.tix o e) S h=(ev T o S h).bnd fun x h1=>if Zs3 x then (ev T e S h1).bnd fun y h2=>Ztt x y h2 else .bad:=rfl
@[simp] theorem Zq8{o e}:ev T (.lix o e) S h=(ev T o S h).bnd fun x h1=>if ZbS x h1 then (ev T e S h1).bnd fun y h2=>ZmE x y h2 else .bad:=rfl
@[simp] theorem ZrD{Cs o f e}:xs1 T (.seta Cs o f e) S h=(ev T e S h).bnd fun d h1=>(ev T o S h1).bnd fun x h2=>(ZfT Cs f x d h2).bnd fun _ h3=>.ok (.nx,S) h3:=rfl
@[simp] theorem ZrE{Cs o f e}:xs1 T (.auga Cs o f e) S h=(ev T o S h).bnd fun x h1=>(Zfl Cs f x h1).bnd fun v h2=>(ev T e S h2).bnd fun y h3=>match v,y with
   | .int a,.int b=>if (ZW x h1).map (·.1)=(ZW x h3).map (·.1) then (ZfT Cs f x (.int (a+b)) h3).bnd fun _ h4=>.ok (.nx,S) h4 else .bad
   | _,_=>.bad:=rfl
@[simp] theorem Zjx:evs T .nil S h=.ok [] h:=rfl
@[simp] theorem Ze3{e es}:evs T (.cons e es) S h=(ev T e S h).bnd fun x h1=>(evs T es S h1).bnd fun xs h2=>.ok (x::xs) h2:=rfl
@[simp] theorem Ztf:evo T none S h=.ok none h:=rfl
@[simp] theorem Zmj{e}:evo T (some e) S h=(ev T e S h).bnd fun x h1=>match x with
   | .int i=>.ok (some i) h1
   | _=>.bad:=rfl
@[simp] theorem ZkT{e}:tst T (.ex e) S h=(ev T e S h).bnd fun x h1=>R.ofO (ZcZ T.GD x h1) h1:=rfl
@[simp] theorem ZgI{ts}:tst T (.ands ts) S h=tstAnd T ts S h:=rfl
@[simp] theorem ZiR{ts}:tst T (.ors ts) S h=tstOr T ts S h:=rfl
@[simp] theorem ZtN{a}:tst T (.nt a) S h=(tst T a S h).bnd fun c h1=>.ok (!c) h1:=rfl
@[simp] theorem ZpD{t}:tstAnd T (.one t) S h=tst T t S h:=rfl
@[simp] theorem ZdV{t ts}:tstAnd T (.cons t ts) S h=(tst T t S h).bnd fun c h1=>if c then tstAnd T ts S h1 else .ok false h1:=rfl
@[simp] theorem Zry{t}:tstOr T (.one t) S h=tst T t S h:=rfl
@[simp] theorem Zeo{t ts}:tstOr T (.cons t ts) S h=(tst T t S h).bnd fun c h1=>if c then .ok true h1 else tstOr T ts S h1:=rfl
@[simp] theorem Zj2:tsto T none S h=.ok true h:=rfl
@[simp] theorem Zrx{t}:tsto T (some t) S h=tst T t S h:=rfl
@[simp] theorem Zq6{e}:evi T (.pl e) S h=(ev T e S h).bnd fun x h1=>R.ofO (Zan x h1) h1:=rfl
@[simp] theorem Zor{e}:evi T (.rng e) S h=(ev T e S h).bnd fun x h1=>match x with
   | .int j=>if ZaL j then .ok ⟨[],Zac 0 j.toNat⟩ h1 else .bad
   | _=>.bad:=rfl
@[simp] theorem Zuv{a b}:ev T (.rpn a b) S h=(ev T a S h).bnd fun x h1=>(shD x h1).bnd fun p h1=>(ev T b S h1).bnd fun y h2=>(shD y h2).bnd fun q h3=>.ok (.bl (!decide (p=q))) h3:=rfl
@[simp] theorem Zot{e}:evi T (.enu e) S h=(ev T e S h).bnd fun x h1=>R.ofO ((Zfr x h1).map fun w=>⟨w.src,Zch w.xs⟩) h1:=rfl
@[simp] theorem Zos{e}:evi T (.rev e) S h=(ev T e S h).bnd fun x h1=>R.ofO ((Zfq x h1).map fun w=>⟨w.src,w.xs.reverse⟩) h1:=rfl
@[simp] theorem Zou{e}:evi T (.en1 e) S h=(ev T e S h).bnd fun x h1=>match x with
   | .tup xs=>.ok ⟨[],Zc2 xs⟩ h1
   | _=>.bad:=rfl
@[simp] theorem ZmQ{e}:xs1 T (.ret e) S h=(ev T e S h).bnd fun x h1=>.ok (.rt x,S) h1:=rfl
@[simp] theorem ZfM{g e}:xs1 T (.set g e) S h=(ev T e S h).bnd fun x h1=>(R.ofO (Za8 g x S) h1).bnd fun ρ1 h2=>.ok (.nx,ρ1) h2:=rfl
@[simp] theorem ZfN{o i e}:xs1 T (.put o i e) S h=(ev T e S h).bnd fun x h1=>(ev T o S h1).bnd fun y h2=>(ev T i S h2).bnd fun z h3=>(Zaf y z x h3).bnd fun _ h4=>.ok (.nx,S) h4:=rfl
@[simp] theorem ZiL{e}:xs1 T (.drp e) S h=(ev T e S h).bnd fun _ h1=>.ok (.nx,S) h1:=rfl
@[simp] theorem ZiK{c a b}:xs1 T (.iff c a b) S h=(tst T c S h).bnd fun t h1=>if t then xs2 T a S h1 else xs2 T b S h1:=rfl
@[simp] theorem ZtC{c b}:xs1 T (.whl c b) S h=ZI (tst T c) (xs2 T b) T.L S h:=rfl
@[simp] theorem Zel{g it b}:xs1 T (.forr g it b) S h=(evi T it S h).bnd fun w h1=>ZP w.src g (xs2 T b) w.xs S h1:=rfl
@[simp] theorem ZtB:xs2 T .nil S h=.ok (.nx,S) h:=rfl
@[simp] theorem Zek{s r}:xs2 T (.cons s r) S h=(xs1 T s S h).bnd fun p h1=>match p with
   | (.nx,ρ1)=>xs2 T r ρ1 h1
   | p=>.ok p h1:=rfl
theorem Za(e:xs1 T s S h=.ok (.nx,ρ1) h1):xs2 T (.cons s r) S h=xs2 T r ρ1 h1:=by rw [Zek,e];rfl
theorem Zc(e:xs1 T s S h=.ok (.rt d,ρ1) h1):xs2 T (.cons s r) S h=.ok (.rt d,ρ1) h1:=by rw [Zek,e];rfl
@[simp] theorem ZtK{i d}:Za8 (.nm i) d S=some (S.set i (some d)):=rfl
@[simp] theorem Zhv{i j a b}:Za8 (.two i j) (.tup [a,b]) S=some ((S.set i (some a)).set j (some b)):=rfl
@[simp] theorem Zt8:Zk (.ok (.rt d,S) h)=.ok d h:=rfl
@[simp] theorem Zt9:Zk (.ok (.nx,S) h)=.ok .non h:=rfl
end
@[simp] theorem Zj8:seqOf (.tup xs) h=some xs:=rfl
@[simp] theorem ZsH:Zf3 f (.int i) (.int j) h=.ok (.bl (f i j)) h:=rfl
section
variable {GD:Str->Option (List (Key×D))}{h:Hd}
@[simp] theorem ZhV{x y}:opC GD .Eq x y h=Zbr false x y h:=rfl
@[simp] theorem ZlH{x y}:opC GD .NotEq x y h=Zbr true x y h:=rfl
@[simp] theorem Zum{i j}:opC GD .Lt (.int i) (.int j) h=.ok (.bl (decide (i<j))) h:=rfl
@[simp] theorem Zun{i j}:opC GD .LtE (.int i) (.int j) h=.ok (.bl (decide (i<=j))) h:=rfl
@[simp] theorem Zuo{i j}:opC GD .Gt (.int i) (.int j) h=.ok (.bl (decide (j<i))) h:=rfl
@[simp] theorem Zup{i j}:opC GD .GtE (.int i) (.int j) h=.ok (.bl (decide (j<=i))) h:=rfl
@[simp] theorem ZlJ{x}:opC GD .Is x .non h=.ok (.bl (decide (x=.non))) h:=rfl
@[simp] theorem ZlI{x}:opC GD .IsNot x .non h=.ok (.bl (!decide (x=.non))) h:=rfl
@[simp] theorem Zf4{s n}:opC GD .NotIn (.str s) (.kd n) h=match GD n with
   | some kvs=>.ok (.bl (!(ZM kvs (.inr s)).isSome)) h
   | none=>.bad:=by
 show ZbR GD true (.str s) (.kd n) h=_;unfold ZbR;simp only [seqOf,lstOf,dicOf,keyOf];cases GD n<;>rfl
theorem ZhE(ss:List Str):(ss.map D.str).all D.flat=true:=by
 rw [OC];intro x hx;obtain ⟨s,_,rfl⟩:=List.mem_map.mp hx;rfl
theorem any_words(ss:List Str)(x:Str):((ss.map D.str).any fun z=>eqF z (.str x))=decide (x∈ss):=by
 induction ss with
 | nil=>rfl
 | cons s r ih =>
   rw [Op,List.any_cons,ih];show ((s==x) || decide (x∈r))=_;by_cases e:s=x
   . subst e;simp
   . have:(s==x)=false:=by simpa using e
     rw [this];have e':¬ x=s:=fun q=>e q.symm;simp [e']
theorem Zf5{ss:List Str}{x:Str}:opC GD .In (.str x) (.tup (ss.map .str)) h=.ok (.bl (decide (x∈ss))) h:=by
 show ZbR GD false (.str x) (.tup (ss.map .str)) h=_;unfold ZbR;rw [Zj8];simp only [ZhE,any_words];rfl
@[simp] theorem ZsG{xs i}:Zag GD (.tup xs) (.int i) h=R.ofO (atI xs i) h:=rfl
@[simp] theorem ZtE{xs i}:Zag GD (.ro xs) (.int i) h=R.ofO (atI xs i) h:=rfl
@[simp] theorem ZnV{n s}:Zag GD (.kd n) (.str s) h=match GD n with
   | some kvs=>R.ofO (ZM kvs (.inr s)) h
   | none=>.bad:=rfl
theorem ZR{i k xs}(e:h[i]? = some (.lst xs)):Zag GD (.ref i) (.int k) h=R.ofO (atI xs k) h:=by
 unfold Zag;simp only [seqOf,lstOf,e]
@[simp] theorem Ztv{α:Type}{x:α}{l:List α}:atI (x::l) 0=some x:=by simp [atI,ixN]
theorem ZbP{α:Type}{l:List α}{k:Nat}:atI l (k:Int)=l[k]? := by
 unfold atI ixN;by_cases hk:k<l.length
 . simp [hk]
 . simp [hk]
@[simp] theorem ZuV{α:Type}{x y:α}{l:List α}:atI (x::y::l) 1=some y:=ZbP (k:=1)
@[simp] theorem ZuU{α:Type}{x y z:α}{l:List α}:atI (x::y::z::l) 2=some z:=ZbP (k:=2)
@[simp] theorem ZuT{α:Type}{x y z w:α}{l:List α}:atI (x::y::z::w::l) 3=some w:=ZbP (k:=3)
theorem ZmG{α:Type}{l:List α}{x:α}:atI (l++[x]) (-1)=some x:=by
 unfold atI ixN;rw [if_neg (by decide),if_pos (by simp;lia)];have:(-1+((l++[x]).length:Int)).toNat=l.length:=by simp;lia
 simp only [Option.bind_some,this];simp
@[simp] theorem ZsF{xs l u}:Zfk (.tup xs) l u h=.ok (.tup (cutD xs l u)) h:=rfl
@[simp] theorem ZrB{x:D}{l:List D}:cutD (x::l) (some 1) none=l:=by
 simp [cutD,HT.sIx]
@[simp] theorem ZtD{b}:ZcZ GD (.bl b) h=some b:=rfl
@[simp] theorem ZrT{i}:ZcZ GD (.int i) h=some (i != 0):=rfl
@[simp] theorem ZrR{xs}:ZcZ GD (.tup xs) h=some (!xs.isEmpty):=rfl
@[simp] theorem ZrS:ZcZ GD .non h=some false:=rfl
@[simp] theorem ZnZ{i j}:opB .Add (.int i) (.int j) h=.ok (.int (i+j)) h:=rfl
@[simp] theorem ZtF{i j}:opB .Sub (.int i) (.int j) h=.ok (.int (i - j)) h:=rfl
theorem ZC(hj:0<j):opB .Mod (.int i) (.int j) h=.ok (.int (i % j)) h:=if_pos hj
theorem ZaM(hj:0<j/\j<1073741824):opB .FloorDiv (.int i) (.int j) h=.ok (.int (i / j)) h:=if_pos hj
theorem Zde(hj:i.natAbs<2 ^ 2000/\j.natAbs<2 ^ 2000):opB .Mult (.int i) (.int j) h=.ok (.int (i * j)) h:=if_pos hj
theorem Zf6(hl:xs.length+ys.length<=sizeLine):opB .Add (.tup xs) (.tup ys) h=.ok (.tup (xs++ys)) h:=if_pos hl
@[simp] theorem ZlE:Zbr n (.str x) (.str y) h=.ok (.bl (if n then !decide (x=y) else decide (x=y))) h:=by
 have e:PyData.eqv (.str x) (.str y)=decide (x=y):=by
   show (x==y)=_;rw [Bool.beq_eq_decide_eq]
 have q:Zbr n (.str x) (.str y) h=if min (PyData.str x).depth (PyData.str y).depth<=1100 then .ok (.bl (if n then !PyData.eqv (.str x) (.str y) else PyData.eqv (.str x) (.str y))) h else .bad:=rfl;rw [q,if_pos (by simp [PyData.depth]),e]
@[simp] theorem ZlF:Zbr n (.int x) (.int y) h=.ok (.bl (if n then !decide (x=y) else decide (x=y))) h:=by
 have e:PyData.eqv (.int x) (.int y)=decide (x=y):=by
   show (x==y)=_;rw [Bool.beq_eq_decide_eq]
 have q:Zbr n (.int x) (.int y) h=if min (PyData.int x).depth (PyData.int y).depth<=1100 then .ok (.bl (if n then !PyData.eqv (.int x) (.int y) else PyData.eqv (.int x) (.int y))) h else .bad:=rfl;rw [q,if_pos (by simp [PyData.depth]),e]
end
theorem Zd(e:P.tb.lookup f=some fd)(hl:ds.length=fd.ps.length):run P (n+1) f ds h=Zk (xs2 ⟨P.G,P.GD,run P n,P.L⟩ fd.body (Zs fd.N ds) h):=by
 rw [run,show P.look f=some fd by unfold Pg.look;rw [e]];simp only;rw [if_pos hl]
theorem ZfU(hn:P.tb.lookup f=none)(e:P.ms.lookup f=some fd)(hl:ds.length=fd.ps.length):run P (n+1) f ds h=Zk (xs2 ⟨P.G,P.GD,run P n,P.L⟩ fd.body (Zs fd.N ds) h):=by
 rw [run,show P.look f=some fd by unfold Pg.look;rw [hn];exact e];simp only;rw [if_pos hl]
end IV
namespace IV
open PySem L2
section
variable {h:Hd}{x y z w:DO}{r:List DO}
@[simp] theorem Zb1:(h++x::r)[h.length]? = some x:=by simp
@[simp] theorem Zli:(h++x::r).set h.length o=h++o::r:=by simp
end
@[simp] theorem Zn4:Zbs o h=.ok (.ref h.length) (h++[o]):=rfl
section
variable {h:Hd}
theorem Zax(e:h[i]? = some (.lst ys))(hz:ys.length<sizeLine):ZaI .app (.ref i) [d] h=.ok .non (h.set i (.lst (ys++[d]))):=by
 simp only [ZaI,e,ZeD,ZlU];rw [if_pos hz]
theorem Zg0(e:h[i]? = some (.lst (ys++[d]))):ZaI .pop (.ref i) [] h=.ok d (h.set i (.lst ys)):=by
 simp only [ZaI,e,ZeD,Zn9];simp
theorem ZcG(e:h[i]? = some (.lst ys)):ZbS (.ref i) h=true:=by simp [ZbS,e]
theorem Zm1(e:h[i]? = some (.lst ys)):ZcZ GD (.ref i) h=some (!ys.isEmpty):=by simp [ZcZ,e]
@[simp] theorem Ztc:ZP [] g body [] S h=.ok (.nx,S) h:=rfl
theorem Zbw:ZP [] g body (d::ds) S h=match Za8 g d S with
     | none=>.bad
     | some ρ1=>(body ρ1 h).bnd fun p h2=>match p with
       | (.nx,ρ2)=>ZP [] g body ds ρ2 h2
       | (.ct,ρ2)=>ZP [] g body ds ρ2 h2
       | (.bk,ρ2)=>.ok (.nx,ρ2) h2
       | (.rt d,ρ2)=>.ok (.rt d,ρ2) h2:=rfl
theorem ZK:ZF src g test elt (d::ds) S acc h=if Wk.stays src h/\acc.length<sizeLine then match Za8 g d S with
     | none=>.bad
     | some ρ1=>(test ρ1 h).plain.bnd fun b h1=>if b then (elt ρ1 h1).plain.bnd fun x h2=>ZF src g test elt ds S (acc++[x]) h2 else ZF src g test elt ds S acc h1
   else .bad:=rfl
theorem Z6:ZI test body (n+1) S h=(test S h).bnd fun b h1=>if b then (body S h1).bnd fun p h2=>match p with
     | (.nx,ρ2)=>ZI test body n ρ2 h2
     | (.ct,ρ2)=>ZI test body n ρ2 h2
     | (.bk,ρ2)=>.ok (.nx,ρ2) h2
     | (.rt d,ρ2)=>.ok (.rt d,ρ2) h2
   else .ok (.nx,S) h1:=rfl
end
inductive Wd where
 | add|sub|mul|lt
 deriving DecidableEq
noncomputable def Wd.s:Wd->Str
 | .add=>O "+"
 | .sub=>O "-"
 | .mul=>O "*"
 | .lt=>O "<"
inductive T where
 | num (n:Int)|name (x:Str)|fn (x:Str) (e:T)|rcc (f x:Str) (e:T)|call (f a:T)|iff (c t e:T)|op (w:Wd) (a b:T)
noncomputable def T.d:T->D
 | .num n=>.tup [.str (O "num"),.int n]
 | .name x=>.tup [.str (O "name"),.str x]
 | .fn x e=>.tup [.str (O "fn"),.str x,e.d]
 | .rcc f x e=>.tup [.str (O "rec"),.str f,.str x,e.d]
 | .call f a=>.tup [.str (O "call"),f.d,a.d]
 | .iff c t e=>.tup [.str (O "if"),c.d,t.d,e.d]
 | .op w a b=>.tup [.str w.s,a.d,b.d]
noncomputable def T.parts:T->List T
 | .num _|.name _=>[]
 | .fn _ e|.rcc _ _ e=>[e]
 | .call f a=>[f,a]
 | .iff c t e=>[c,t,e]
 | .op _ a b=>[a,b]
noncomputable def T.places:T->List T
 | .num n=>[.num n]
 | .name x=>[.name x]
 | .fn x e=>.fn x e::e.places
 | .rcc f x e=>.rcc f x e::e.places
 | .call f a=>.call f a::(f.places++a.places)
 | .iff c t e=>.iff c t e::(c.places++(t.places++e.places))
 | .op w a b=>.op w a b::(a.places++b.places)
noncomputable def T.size(t:T):Nat:=t.places.length
theorem T.places_parts(t:T):t.places=t::t.parts.flatMap T.places:=by
 cases t<;>simp [T.places,T.parts]
end IV
end
section
namespace IV
open PySem L2
section
variable {U:Tb}{S:Ev}{h h1:Hd}{f:Str}{as:List D}{r:R D}
noncomputable abbrev Tb.say(U:Tb)(r:R D):Tb:=⟨U.G,U.GD,fun _ _ _=>r,U.L⟩
theorem ZA(e:U.C f as h1=r)(q:xs1 U s S h=xs1 (U.say (U.C f as h1)) s S h)(z:xs1 (U.say r) s S h=y):xs1 U s S h=y:=by rw [q,e,z]
theorem Zu(e:tst U c S h=.ok true h1):xs1 U (.iff c a b) S h=xs2 U a S h1:=by rw [ZiK,e];rfl
theorem Zx(e:tst U c S h=.ok false h1):xs1 U (.iff c a b) S h=xs2 U b S h1:=by rw [ZiK,e];rfl
theorem Zz(q:ev U e S h=.ok d h1):xs1 U (.ret e) S h=.ok (.rt d,S) h1:=by rw [ZmQ,q];rfl
theorem Zq(q:ev U e S h=.ok d h1):xs1 U (.set (.nm i) e) S h=.ok (.nx,S.set i (some d)) h1:=by rw [ZfM,q];rfl
theorem ZdM(q:evi U it S h=.ok w h1):xs1 U (.forr g it b) S h=ZP w.src g (xs2 U b) w.xs S h1:=by rw [Zel,q];rfl
theorem Zf(p:ev U a S h=.ok x h1)(q:ev U b S h1=.ok y h2):ev U (.bin op a b) S h=opB op x y h2:=by rw [Zmn,p];simp only [Zm,q]
theorem ZH(p:ev U a S h=.ok x h1)(q:ev U b S h1=.ok y h2):ev U (.cmp op a b) S h=opC U.GD op x y h2:=by rw [Zra,p];simp only [Zm,q]
theorem Zc1(q:ev U e S h=.ok (.bl b) h1):tst U (.ex e) S h=.ok b h1:=by rw [ZkT,q];rfl
theorem Zw{b c:Bool}{y:R Bool}(q:y=.ok b h1)(e:b=c):y=.ok c h1:=e ▸ q
noncomputable def hdS:Sxs->Sx
 | .cons s _=>s
 | .nil=>.pas
noncomputable def tlS:Sxs->Sxs
 | .cons _ r=>r
 | .nil=>.nil
theorem rt1(e:xs1 U (hdS ss) S h=.ok (.rt d,ρ1) h2)(hs:ss=.cons (hdS ss) (tlS ss)):Zk (xs2 U ss S h)=.ok d h2:=by rw [hs,Zc e];rfl
theorem nx1(e:xs1 U (hdS ss) S h=.ok (.nx,ρ1) h2)(hs:ss=.cons (hdS ss) (tlS ss)):xs2 U ss S h=xs2 U (tlS ss) ρ1 h2:=by rw [hs,Za e];rfl
theorem Zb(p:ev U a S h=.ok x h1)(q:evs U es S h1=.ok xs h2):evs U (.cons a es) S h=.ok (x::xs) h2:=by rw [Ze3,p,Zm,q];rfl
theorem Zrb(p:evs U es S h=.ok xs h1):ev U (.call g es) S h=U.C g xs h1:=by rw [Zgo,p];rfl
theorem Zhu(a:atI xs z=some d)(p:evs U es S h=.ok xs h)(q:ev U e S (h++[.lst xs])=.ok (.int z) (h++[.lst xs]))(hz:xs.length<=1000):ev U (.ix (.lstl es) e) S h=.ok d (h++[.lst xs]):=by
 rw [Zhh,Zjy,p,Zm,if_pos (OE hz (by decide)),Zn4,Zm,q,Zm,ZR (xs:=xs) (by simp),a];rfl
theorem Zt(e:U.C g xs h1=y)(p:evs U es S h=.ok xs h1):ev U (.call g es) S h=y:=(Zrb p).trans e
theorem ZaO(p:evs U es S h=.ok xs h1)(hz:xs.length<=1000):ev U (.tupl es) S h=.ok (.tup xs) h1:=by rw [Zov,p,Zm,if_pos (OE hz (by decide))]
theorem Zs2(p:ev U e S h=.ok x h1)(n:x≠.non):tst U (.ex (.cmp .Is e (.cst .non))) S h=.ok false h1:=Zc1 ((ZH p rfl).trans (by rw [ZlJ,decide_eq_false n]))
theorem ZqU(p:ev U e S h=.ok .non h1):tst U (.ex (.cmp .Is e (.cst .non))) S h=.ok true h1:=Zc1 ((ZH p rfl).trans (by rw [ZlJ,decide_eq_true rfl]))
theorem ZbH(p:ev U a S h=.ok (.str x) h1)(q:ev U b S h1=.ok (.str y) h2):tst U (.ex (.cmp .Eq a b)) S h=.ok (decide (x=y)) h2:=Zc1 ((ZH p q).trans (by rw [ZhV,ZlE];rfl))
theorem ZdR(p:ev U a S h=.ok (.int x) h1)(q:ev U b S h1=.ok (.int y) h2):tst U (.ex (.cmp .Eq a b)) S h=.ok (decide (x=y)) h2:=Zc1 ((ZH p q).trans (by rw [ZhV,ZlF];rfl))
theorem Zo(p:ev U a S h=.ok x h1)(q:ev U b S h1=.ok y h2):ev U (.ix a b) S h=Zag U.GD x y h2:=by rw [Zhh,p,Zm,q,Zm]
theorem Zpu(p:tst U a S h=.ok true h1)(q:tst U b S h1=.ok c h2):tst U (.ands (.cons a (.one b))) S h=.ok c h2:=by rw [ZgI,ZdV,p];exact q
theorem Ztw(p:tst U a S h=.ok false h1):tst U (.ands (.cons a (.one b))) S h=.ok false h1:=by rw [ZgI,ZdV,p];rfl
theorem ZsA(p:tst U a S h=.ok true h1):tst U (.ors (.cons a (.one b))) S h=.ok true h1:=by rw [ZiR,Zeo,p];rfl
theorem ZlC(p:tst U a S h=.ok false h1)(q:tst U b S h1=.ok c h2):tst U (.ors (.cons a (.one b))) S h=.ok c h2:=by rw [ZiR,Zeo,p];exact q
theorem Zfe(A:Tb->β)(e:U.C f as h1=r)(q:A U=A (U.say (U.C f as h1)))(z:A (U.say r)=y):A U=y:=by rw [q,e,z]
theorem Ztr(A:Tb->β)(eg:U.G x=some d)(q:A U=A ⟨fun _=>U.G x,U.GD,U.C,U.L⟩)(z:A ⟨fun _=>some d,U.GD,U.C,U.L⟩=y):A U=y:=by rw [q,eg,z]
end
end IV
end
section
set_option tactic.hygienic false
namespace Gn
open PySem L2 IV
noncomputable def ZaV:Sxs:=(.cons (.iff (.ex (.cmp .NotIn (.ix (.var 0) (.cst (.int 0))) (.glo (O "FORMS")))) (.cons (.ret (.tupl .nil)) .nil) .nil) (.cons (.ret (.sl (.var 0) (some (.bin .Add (.cst (.int 1)) (.ix (.ix (.glo (O "FORMS")) (.ix (.var 0) (.cst (.int 0)))) (.cst (.int 0))))) none)) .nil))
noncomputable def ZeX:Fd:=⟨[(O "E")],[(O "E")],ZaV⟩
noncomputable def Zhy:Sxs:=(.cons (.set (.nm 1) (.lstl .nil)) (.cons (.set (.nm 2) (.lstl (.cons (.var 0) .nil))) (.cons (.whl (.ex (.var 2)) (.cons (.set (.nm 3) (.meth .pop (.var 2) .nil)) (.cons (.drp (.meth .app (.var 1) (.cons (.var 3) .nil))) (.cons (.forr (.nm 4) (.rev (.call (O "parts_of") (.cons (.var 3) .nil))) (.cons (.drp (.meth .app (.var 2) (.cons (.var 4) .nil))) .nil)) .nil)))) (.cons (.ret (.var 1)) .nil))))
noncomputable def Zdm:Fd:=⟨[(O "E")],[(O "E"),(O "found"),(O "waiting"),(O "place"),(O "part")],Zhy⟩
noncomputable def Zbm:Sxs:=(.cons (.iff (.ex (.cmp .Lt (.var 1) (.blt .len (.cons (.var 0) .nil)))) (.cons (.ret (.ix (.var 0) (.var 1))) .nil) .nil) (.cons (.ret (.cst (.int 0))) .nil))
noncomputable def Zaw:Fd:=⟨[(O "_law_script"),(O "_law_k")],[(O "_law_script"),(O "_law_k")],Zbm⟩
noncomputable def Zd6:Sxs:=(.cons (.set (.nm 2) (.bin .Add (.bin .Pow (.cst (.int 10)) (.cst (.int 30))) (.cst (.int 57)))) (.cons (.set (.nm 3) (.bin .Mult (.bin .Mod (.var 0) (.var 2)) (.cst (.int 271828182845904523536028747135)))) (.cons (.set (.nm 3) (.bin .Add (.var 3) (.bin .Mult (.bin .Mult (.var 1) (.var 1)) (.cst (.int 314159265358979323846264338327))))) (.cons (.ret (.bin .Mod (.bin .Add (.var 3) (.cst (.int 577215664901532860606512090082))) (.var 2))) .nil))))
noncomputable def Zcf:Fd:=⟨[(O "_law_cell"),(O "_law_k")],[(O "_law_cell"),(O "_law_k"),(O "_law_big"),(O "_law_number_here")],Zd6⟩
noncomputable def Zc5:Sxs:=(.cons (.set (.nm 1) (.ix (.var 0) (.cst (.int 1)))) (.cons (.put (.var 0) (.cst (.int 1)) (.bin .Add (.var 1) (.cst (.int 1)))) (.cons (.iff (.ex (.cmp .Lt (.var 1) (.blt .len (.cons (.ix (.var 0) (.cst (.int 0))) .nil)))) (.cons (.ret (.ix (.ix (.var 0) (.cst (.int 0))) (.var 1))) .nil) .nil) (.cons (.ret (.call (O "_law_mixed") (.cons (.var 1) (.cons (.cst (.int 7)) .nil)))) .nil))))
noncomputable def ZeY:Fd:=⟨[(O "_law_state")],[(O "_law_state"),(O "_law_at")],Zc5⟩
noncomputable def Zd5:Sxs:=(.cons (.set (.nm 1) (.cst (.str (O "abcdefghijklmnopqrstuvwxyz")))) (.cons (.set (.nm 2) (.bin .Add (.cst (.int 1)) (.bin .Mod (.var 0) (.cst (.int 8))))) (.cons (.set (.nm 3) (.bin .Mod (.bin .FloorDiv (.var 0) (.cst (.int 8))) (.var 2))) (.cons (.set (.nm 4) (.bin .FloorDiv (.var 0) (.cst (.int 64)))) (.cons (.set (.nm 5) (.cst (.str (O "")))) (.cons (.forr (.nm 6) (.rng (.cst (.int 8))) (.cons (.set (.nm 5) (.bin .Add (.var 5) (.ix (.var 1) (.bin .Mod (.var 4) (.cst (.int 26)))))) (.cons (.set (.nm 4) (.bin .FloorDiv (.var 4) (.cst (.int 26)))) .nil))) (.cons (.set (.nm 7) (.lstl .nil)) (.cons (.forr (.nm 6) (.rng (.cst (.int 5))) (.cons (.set (.nm 8) (.ix (.var 1) (.bin .Mod (.bin .Add (.var 4) (.bin .Mult (.cst (.int 5)) (.var 6))) (.cst (.int 26))))) (.cons (.set (.nm 9) (.bin .Add (.bin .Add (.sl (.var 5) none (some (.var 3))) (.var 8)) (.sl (.var 5) (some (.bin .Add (.var 3) (.cst (.int 1)))) (some (.var 2))))) (.cons (.iff (.ex (.cmp .Eq (.bin .Mod (.bin .FloorDiv (.var 4) (.cst (.int 26))) (.cst (.int 4))) (.cst (.int 1)))) (.cons (.set (.nm 9) (.sl (.var 5) none (some (.bin .Sub (.cst (.int 8)) (.var 6))))) .nil) .nil) (.cons (.iff (.ex (.cmp .In (.var 9) (.tupl (.cons (.cst (.str (O "fn"))) (.cons (.cst (.str (O "rec"))) (.cons (.cst (.str (O "call"))) (.cons (.cst (.str (O "if"))) .nil))))))) (.cons (.set (.nm 9) (.bin .Mult (.cst (.str (O "q"))) (.blt .len (.cons (.var 9) .nil)))) .nil) .nil) (.cons (.drp (.meth .app (.var 7) (.cons (.var 9) .nil))) .nil)))))) (.cons (.ret (.var 7)) .nil)))))))))
noncomputable def Zce:Fd:=⟨[(O "_law_number_here")],[(O "_law_number_here"),(O "_law_letters"),(O "_law_long"),(O "_law_place"),(O "_law_rest"),(O "_law_base"),(O "_law_k"),(O "_law_found"),(O "_law_sign"),(O "_law_word")],Zd5⟩
noncomputable def Zd4:Sxs:=(.cons (.set (.nm 2) (.dictl .nil)) (.cons (.forr (.two 3 4) (.pl (.var 0)) (.cons (.put (.var 2) (.var 3) (.var 4)) .nil)) (.cons (.ret (.comp [(O "_law_name"),(O "_law_wish"),(O "_law_known")] [none,some 1,some 2] (.pl (.blt .srt (.cons (.var 2) .nil))) (.nm 0) (some (.ex (.cmp .Eq (.ix (.var 2) (.var 0)) (.var 1)))) (.var 0))) .nil)))
noncomputable def Zcd:Fd:=⟨[(O "_law_scope"),(O "_law_wish")],[(O "_law_scope"),(O "_law_wish"),(O "_law_known"),(O "_law_name"),(O "_law_held")],Zd4⟩
noncomputable def Zaa:Sxs:=(.cons (.iff (.ex (.cmp .Eq (.var 0) (.cst (.str (O "n"))))) (.cons (.ret (.tupl (.cons (.cst (.str (O "num"))) (.cons (.ix (.lstl (.cons (.cst (.int 0)) (.cons (.cst (.int 1)) (.cons (.cst (.int 2)) (.cons (.bin .Mod (.bin .FloorDiv (.var 1) (.cst (.int 7))) (.cst (.int 1000000))) .nil))))) (.bin .Mod (.var 1) (.cst (.int 4)))) .nil)))) .nil) .nil) (.cons (.iff (.ex (.cmp .Eq (.var 0) (.cst (.str (O "f"))))) (.cons (.ret (.tupl (.cons (.cst (.str (O "fn"))) (.cons (.cst (.str (O "w"))) (.cons (.tupl (.cons (.cst (.str (O "-"))) (.cons (.tupl (.cons (.cst (.str (O "name"))) (.cons (.cst (.str (O "w"))) .nil))) (.cons (.tupl (.cons (.cst (.str (O "num"))) (.cons (.bin .Mod (.var 1) (.cst (.int 3))) .nil))) .nil)))) .nil))))) .nil) .nil) (.cons (.ret (.tupl (.cons (.cst (.str (O "fn"))) (.cons (.cst (.str (O "w"))) (.cons (.tupl (.cons (.cst (.str (O "call"))) (.cons (.tupl (.cons (.cst (.str (O "name"))) (.cons (.cst (.str (O "w"))) .nil))) (.cons (.tupl (.cons (.cst (.str (O "num"))) (.cons (.bin .Mod (.var 1) (.cst (.int 5))) .nil))) .nil)))) .nil))))) .nil)))
noncomputable def Zd2:Fd:=⟨[(O "_law_wish"),(O "_law_number_here")],[(O "_law_wish"),(O "_law_number_here")],Zaa⟩
noncomputable def Zas:Sx:=(.set (.nm 6) (.ix (.var 4) (.bin .Mod (.var 1) (.cst (.int 5)))))
noncomputable def Z0:Sx:=(.iff (.ex (.cmp .Eq (.var 0) (.cst (.str (O "g"))))) (.cons (.ret (.tupl (.cons (.cst (.str (O "fn"))) (.cons (.var 6) (.cons (.call (O "_law_any") (.cons (.cst (.str (O "n"))) (.cons (.bin .Add (.var 2) (.lstl (.cons (.tupl (.cons (.var 6) (.cons (.cst (.str (O "f"))) .nil))) .nil))) (.cons (.var 3) (.cons (.var 4) (.cons (.var 5) .nil)))))) .nil))))) .nil) .nil)
noncomputable def ZZ:Sx:=(.iff (.ex (.cmp .Eq (.bin .Mod (.bin .FloorDiv (.var 1) (.cst (.int 5))) (.cst (.int 3))) (.cst (.int 0)))) (.cons (.ret (.tupl (.cons (.cst (.str (O "fn"))) (.cons (.var 6) (.cons (.call (O "_law_any") (.cons (.cst (.str (O "n"))) (.cons (.bin .Add (.var 2) (.lstl (.cons (.tupl (.cons (.var 6) (.cons (.cst (.str (O "n"))) .nil))) .nil))) (.cons (.var 3) (.cons (.var 4) (.cons (.var 5) .nil)))))) .nil))))) .nil) .nil)
noncomputable def Zar:Sx:=(.set (.nm 7) (.ix (.var 4) (.bin .Mod (.bin .Add (.bin .Add (.bin .Mod (.var 1) (.cst (.int 5))) (.cst (.int 1))) (.bin .Mod (.bin .FloorDiv (.var 1) (.cst (.int 15))) (.cst (.int 4)))) (.cst (.int 5)))))
noncomputable def Zaq:Sx:=(.set (.nm 8) (.bin .Add (.var 2) (.lstl (.cons (.tupl (.cons (.var 7) (.cons (.cst (.str (O "f"))) .nil))) (.cons (.tupl (.cons (.var 6) (.cons (.cst (.str (O "n"))) .nil))) .nil)))))
noncomputable def Zap:Sx:=(.set (.nm 9) (.tupl (.cons (.cst (.str (O "call"))) (.cons (.tupl (.cons (.cst (.str (O "name"))) (.cons (.var 7) .nil))) (.cons (.tupl (.cons (.cst (.str (O "-"))) (.cons (.tupl (.cons (.cst (.str (O "name"))) (.cons (.var 6) .nil))) (.cons (.tupl (.cons (.cst (.str (O "num"))) (.cons (.cst (.int 1)) .nil))) .nil)))) .nil)))))
noncomputable def ZY:Sx:=(.iff (.ex (.cmp .Eq (.bin .Mod (.bin .FloorDiv (.var 1) (.cst (.int 60))) (.cst (.int 3))) (.cst (.int 0)))) (.cons (.set (.nm 9) (.call (O "_law_any") (.cons (.cst (.str (O "n"))) (.cons (.var 8) (.cons (.var 3) (.cons (.var 4) (.cons (.var 5) .nil))))))) .nil) (.cons (.iff (.ex (.cmp .Eq (.bin .Mod (.bin .FloorDiv (.var 1) (.cst (.int 60))) (.cst (.int 3))) (.cst (.int 1)))) (.cons (.set (.nm 9) (.tupl (.cons (.ix (.lstl (.cons (.cst (.str (O "+"))) (.cons (.cst (.str (O "*"))) .nil))) (.bin .Mod (.bin .FloorDiv (.var 1) (.cst (.int 180))) (.cst (.int 2)))) (.cons (.call (O "_law_any") (.cons (.cst (.str (O "n"))) (.cons (.var 8) (.cons (.var 3) (.cons (.var 4) (.cons (.bin .Sub (.var 5) (.cst (.int 1))) .nil)))))) (.cons (.var 9) .nil))))) .nil) .nil) .nil))
noncomputable def ZX:Sx:=(.ret (.tupl (.cons (.cst (.str (O "rec"))) (.cons (.var 7) (.cons (.var 6) (.cons (.tupl (.cons (.cst (.str (O "if"))) (.cons (.tupl (.cons (.cst (.str (O "name"))) (.cons (.var 6) .nil))) (.cons (.var 9) (.cons (.call (O "_law_any") (.cons (.cst (.str (O "n"))) (.cons (.var 8) (.cons (.var 3) (.cons (.var 4) (.cons (.bin .Sub (.var 5) (.cst (.int 1))) .nil)))))) .nil))))) .nil))))))
noncomputable def Zfi:Sxs:=(.cons Zas (.cons Z0 (.cons ZZ (.cons Zar (.cons Zaq (.cons Zap (.cons ZY (.cons ZX .nil))))))))
noncomputable def Zcg:Fd:=⟨[(O "_law_wish"),(O "_law_rest"),(O "_law_scope"),(O "_law_state"),(O "_law_names_here"),(O "_law_room")],[(O "_law_wish"),(O "_law_rest"),(O "_law_scope"),(O "_law_state"),(O "_law_names_here"),(O "_law_room"),(O "_law_x"),(O "_law_f"),(O "_law_inner"),(O "_law_again")],Zfi⟩
noncomputable def Zct:Sx:=(.set (.nm 5) (.bin .Mod (.var 0) (.cst (.int 6))))
noncomputable def ZaX:Sx:=(.iff (.ex (.cmp .Eq (.var 5) (.cst (.int 0)))) (.cons (.ret (.call (O "_law_plain") (.cons (.cst (.str (O "n"))) (.cons (.bin .FloorDiv (.var 0) (.cst (.int 6))) .nil)))) .nil) .nil)
noncomputable def ZaW:Sx:=(.iff (.ex (.cmp .Lt (.var 5) (.cst (.int 3)))) (.cons (.set (.nm 6) (.call (O "_law_any") (.cons (.cst (.str (O "n"))) (.cons (.var 1) (.cons (.var 2) (.cons (.var 3) (.cons (.var 4) .nil))))))) (.cons (.ret (.tupl (.cons (.ix (.lstl (.cons (.cst (.str (O "+"))) (.cons (.cst (.str (O "-"))) (.cons (.cst (.str (O "*"))) (.cons (.cst (.str (O "<"))) .nil))))) (.bin .Mod (.bin .FloorDiv (.var 0) (.cst (.int 6))) (.cst (.int 4)))) (.cons (.var 6) (.cons (.call (O "_law_any") (.cons (.cst (.str (O "n"))) (.cons (.var 1) (.cons (.var 2) (.cons (.var 3) (.cons (.var 4) .nil)))))) .nil))))) .nil)) .nil)
noncomputable def Zcs:Sx:=(.set (.nm 7) (.ix (.lstl (.cons (.cst (.str (O "f"))) (.cons (.cst (.str (O "f"))) (.cons (.cst (.str (O "g"))) .nil)))) (.bin .Sub (.var 5) (.cst (.int 3)))))
noncomputable def Zcr:Sx:=(.set (.nm 8) (.call (O "_law_any") (.cons (.var 7) (.cons (.var 1) (.cons (.var 2) (.cons (.var 3) (.cons (.var 4) .nil)))))))
noncomputable def Zcq:Sx:=(.ret (.tupl (.cons (.cst (.str (O "call"))) (.cons (.var 8) (.cons (.call (O "_law_any") (.cons (.ix (.dictl (.cons (.cst (.str (O "f"))) (.cons (.cst (.str (O "n"))) (.cons (.cst (.str (O "g"))) (.cons (.cst (.str (O "f"))) .nil))))) (.var 7)) (.cons (.var 1) (.cons (.var 2) (.cons (.var 3) (.cons (.var 4) .nil)))))) .nil)))))
noncomputable def ZbM:Sxs:=(.cons Zct (.cons ZaX (.cons ZaW (.cons Zcs (.cons Zcr (.cons Zcq .nil))))))
noncomputable def Zdn:Fd:=⟨[(O "_law_rest"),(O "_law_scope"),(O "_law_state"),(O "_law_names_here"),(O "_law_room")],[(O "_law_rest"),(O "_law_scope"),(O "_law_state"),(O "_law_names_here"),(O "_law_room"),(O "_law_way"),(O "_law_one"),(O "_law_wish"),(O "_law_fun")],ZbM⟩
noncomputable def ZaC:Sx:=(.put (.var 2) (.cst (.int 2)) (.bin .Sub (.ix (.var 2) (.cst (.int 2))) (.cst (.int 1))))
noncomputable def Zbe:Sx:=(.set (.nm 5) (.call (O "_law_next") (.cons (.var 2) .nil)))
noncomputable def ZaB:Sx:=(.iff (.ex (.cmp .Eq (.bin .Mod (.var 5) (.cst (.int 29))) (.cst (.int 0)))) (.cons (.set (.nm 0) (.ix (.lstl (.cons (.cst (.str (O "n"))) (.cons (.cst (.str (O "f"))) (.cons (.cst (.str (O "g"))) .nil)))) (.bin .Mod (.bin .FloorDiv (.var 5) (.cst (.int 29))) (.cst (.int 3))))) .nil) .nil)
noncomputable def Zbd:Sx:=(.set (.nm 6) (.bin .FloorDiv (.var 5) (.cst (.int 87))))
noncomputable def ZaA:Sx:=(.set (.nm 7) (.call (O "_law_there") (.cons (.var 1) (.cons (.var 0) .nil))))
noncomputable def Zaz:Sx:=(.iff (.ands (.cons (.ex (.cmp .NotEq (.var 7) (.lstl .nil))) (.one (.ex (.cmp .Eq (.bin .Mod (.var 6) (.cst (.int 3))) (.cst (.int 0))))))) (.cons (.ret (.tupl (.cons (.cst (.str (O "name"))) (.cons (.ix (.var 7) (.bin .Mod (.bin .FloorDiv (.var 6) (.cst (.int 3))) (.blt .len (.cons (.var 7) .nil)))) .nil)))) .nil) .nil)
noncomputable def Zab:Sx:=(.iff (.ors (.cons (.ex (.cmp .Lt (.var 4) (.cst (.int 1)))) (.one (.ex (.cmp .Lt (.ix (.var 2) (.cst (.int 2))) (.cst (.int 0))))))) (.cons (.ret (.call (O "_law_plain") (.cons (.var 0) (.cons (.bin .FloorDiv (.var 6) (.cst (.int 3))) .nil)))) .nil) .nil)
noncomputable def Zbc:Sx:=(.set (.nm 6) (.bin .FloorDiv (.var 6) (.cst (.int 30))))
noncomputable def Zay:Sx:=(.iff (.ex (.cmp .Eq (.bin .Mod (.var 6) (.cst (.int 8))) (.cst (.int 0)))) (.cons (.set (.nm 8) (.call (O "_law_any") (.cons (.cst (.str (O "n"))) (.cons (.var 1) (.cons (.var 2) (.cons (.var 3) (.cons (.bin .Sub (.var 4) (.cst (.int 1))) .nil))))))) (.cons (.set (.nm 9) (.call (O "_law_any") (.cons (.var 0) (.cons (.var 1) (.cons (.var 2) (.cons (.var 3) (.cons (.bin .Sub (.var 4) (.cst (.int 1))) .nil))))))) (.cons (.ret (.tupl (.cons (.cst (.str (O "if"))) (.cons (.var 8) (.cons (.var 9) (.cons (.call (O "_law_any") (.cons (.var 0) (.cons (.var 1) (.cons (.var 2) (.cons (.var 3) (.cons (.bin .Sub (.var 4) (.cst (.int 1))) .nil)))))) .nil)))))) .nil))) .nil)
noncomputable def Zak:Sx:=(.iff (.ex (.cmp .Eq (.var 0) (.cst (.str (O "n"))))) (.cons (.ret (.call (O "_law_number") (.cons (.bin .FloorDiv (.var 6) (.cst (.int 8))) (.cons (.var 1) (.cons (.var 2) (.cons (.var 3) (.cons (.bin .Sub (.var 4) (.cst (.int 1))) .nil))))))) .nil) .nil)
noncomputable def ZaQ:Sx:=(.ret (.call (O "_law_function") (.cons (.var 0) (.cons (.bin .FloorDiv (.var 6) (.cst (.int 8))) (.cons (.var 1) (.cons (.var 2) (.cons (.var 3) (.cons (.bin .Sub (.var 4) (.cst (.int 1))) .nil))))))))
noncomputable def ZkH:Sxs:=(.cons ZaC (.cons Zbe (.cons ZaB (.cons Zbd (.cons ZaA (.cons Zaz (.cons Zab (.cons Zbc (.cons Zay (.cons Zak (.cons ZaQ .nil)))))))))))
noncomputable def ZcH:Fd:=⟨[(O "_law_wish"),(O "_law_scope"),(O "_law_state"),(O "_law_names_here"),(O "_law_room")],[(O "_law_wish"),(O "_law_scope"),(O "_law_state"),(O "_law_names_here"),(O "_law_room"),(O "_law_number_here"),(O "_law_rest"),(O "_law_there_here"),(O "_law_asked_of"),(O "_law_first")],ZkH⟩
noncomputable def Zcn:Sxs:=(.cons (.ret (.bin .Add (.cst (.int 1)) (.blt .sum (.cons (.comp [(O "_law_part")] [none] (.pl (.var 0)) (.nm 0) (some (.ex (.blt .isi (.cons (.var 0) (.cons (.cst (.ty "tuple")) .nil))))) (.call (O "_law_width") (.cons (.var 0) .nil))) .nil)))) .nil)
noncomputable def Za5:Fd:=⟨[(O "_law_told")],[(O "_law_told")],Zcn⟩
noncomputable def Zc6:Sxs:=(.cons (.ret (.maxd (.comp [(O "_law_part")] [none] (.pl (.var 0)) (.nm 0) (some (.ex (.blt .isi (.cons (.var 0) (.cons (.cst (.ty "tuple")) .nil))))) (.bin .Add (.cst (.int 1)) (.call (O "_law_deep") (.cons (.var 0) .nil)))) (.cst (.int 0)))) .nil)
noncomputable def ZbF:Fd:=⟨[(O "_law_told")],[(O "_law_told")],Zc6⟩
noncomputable def Z5:Sx:=(.set (.nm 2) (.comp [(O "_law_k"),(O "_law_cell")] [none,none] (.enu (.sl (.var 0) (some (.var 1)) none)) (.two 0 1) none (.call (O "_law_mixed") (.cons (.var 1) (.cons (.bin .Add (.var 0) (.cst (.int 2))) .nil)))))
noncomputable def Zb0:Sx:=(.set (.nm 3) (.lstl (.cons (.var 2) (.cons (.cst (.int 0)) (.cons (.cst (.int 26)) .nil)))))
noncomputable def ZbZ:Sx:=(.set (.nm 4) (.call (O "_law_names") (.cons (.call (O "_law_next") (.cons (.var 3) .nil)) .nil)))
noncomputable def ZbY:Sx:=(.set (.nm 5) (.call (O "_law_any") (.cons (.cst (.str (O "n"))) (.cons (.lstl .nil) (.cons (.var 3) (.cons (.var 4) (.cons (.cst (.int 7)) .nil)))))))
noncomputable def ZaG:Sx:=(.forr (.nm 6) (.rng (.cst (.int 2))) (.cons (.iff (.ex (.cmp .Lt (.call (O "_law_width") (.cons (.var 5) .nil)) (.cst (.int 50)))) (.cons (.put (.var 3) (.cst (.int 2)) (.cst (.int 12))) (.cons (.set (.nm 5) (.tupl (.cons (.cst (.str (O "+"))) (.cons (.var 5) (.cons (.call (O "_law_any") (.cons (.cst (.str (O "n"))) (.cons (.lstl .nil) (.cons (.var 3) (.cons (.var 4) (.cons (.cst (.int 6)) .nil)))))) .nil))))) .nil)) .nil) .nil))
noncomputable def ZaF:Sx:=(.iff (.ors (.cons (.ex (.cmp .Gt (.call (O "_law_width") (.cons (.var 5) .nil)) (.cst (.int 100)))) (.one (.ex (.cmp .Gt (.call (O "_law_deep") (.cons (.var 5) .nil)) (.cst (.int 20))))))) (.cons (.set (.nm 5) (.call (O "_law_plain") (.cons (.cst (.str (O "n"))) (.cons (.call (O "_law_next") (.cons (.var 3) .nil)) .nil)))) .nil) .nil)
noncomputable def ZbX:Sx:=(.ret (.var 5))
noncomputable def Zfp:Sxs:=(.cons Z5 (.cons Zb0 (.cons ZbZ (.cons ZbY (.cons ZaG (.cons ZaF (.cons ZbX .nil)))))))
noncomputable def ZcT:Fd:=⟨[(O "_law_script"),(O "_law_start")],[(O "_law_script"),(O "_law_start"),(O "_law_cells"),(O "_law_state"),(O "_law_names_here"),(O "_law_told"),(O "_law_k")],Zfp⟩
noncomputable def Zbv:List (Key×D):=[(.inr (O "fn"),.tup [.int 1,.int 1]),(.inr (O "rec"),.tup [.int 2,.int 1]),(.inr (O "call"),.tup [.int 0,.int 2]),(.inr (O "if"),.tup [.int 0,.int 3]),(.inr (O "+"),.tup [.int 0,.int 2]),(.inr (O "-"),.tup [.int 0,.int 2]),(.inr (O "*"),.tup [.int 0,.int 2]),(.inr (O "<"),.tup [.int 0,.int 2])]
structure Tre(P:Pg):Prop where
 parts:P.tb.lookup (O "parts_of")=some ZeX
 g:P.G (O "FORMS")=some (.kd (O "FORMS"))
 gd:P.GD (O "FORMS")=some Zbv
 big:1000000<=P.L
theorem Za3 (H:Tre P) (hU:U.G=P.G/\U.GD=P.GD) (q:ev U e S h=.ok (.str w) h) (f:ZM Zbv (.inr w)=x):tst U (.ex (.cmp .NotIn e (.glo (O "FORMS")))) S h=.ok (!x.isSome) h:=by
 have g:ev U (.glo (O "FORMS")) S h=.ok (.kd (O "FORMS")) h:=by
   rw [Zml,hU.1,H.g];rfl
 refine Zc1 ((ZH q g).trans ?_);rw [Zf4,hU.2,H.gd];simp only [f]
theorem Zjw (H:Tre P) (hU:U.G=P.G/\U.GD=P.GD) (q:ev U e S h=.ok (.str w) h) (f:ZM Zbv (.inr w)=some x):ev U (.ix (.glo (O "FORMS")) e) S h=.ok x h:=by
 have g:ev U (.glo (O "FORMS")) S h=.ok (.kd (O "FORMS")) h:=by
   rw [Zml,hU.1,H.g];rfl
 rw [Zhh,g,Zm,q,Zm,ZnV,hU.2,H.gd];simp only [f];rfl
theorem ZcQ:ev U (.ix (.var 0) (.cst (.int 0))) (some (.tup (.str w::ds))::S) h=.ok (.str w) h:=by
 show R.ofO (atI (D.str w::ds) 0) h=_;rw [Ztv];rfl
theorem Zid (H:Tre P) (hU:U.G=P.G/\U.GD=P.GD) (e:ZM Zbv (.inr w)=some (.tup [.int a,.int b])):ev U (.bin .Add (.cst (.int 1)) (.ix (.ix (.glo (O "FORMS")) (.ix (.var 0) (.cst (.int 0)))) (.cst (.int 0)))) [some (.tup (.str w::ds))] h=.ok (.int (1+a)) h:=by
 refine (Zf (x:=.int 1) (y:=.int a) rfl ?_).trans rfl;rw [Zhh,Zjw H hU ZcQ e];rfl
theorem Zgn(q:ev U e S h=.ok (.int l) h):evo U (some e) S h=.ok (some l) h:=by
 rw [Zmj,q];rfl
theorem ZiY(p:ev U a S h=.ok x h)(q:evo U lo S h=.ok l h)(r:evo U hi S h=.ok u h):ev U (.sl a lo hi) S h=Zfk x l u h:=by
 simp only [Zpj,p,Zm,q,r]
theorem ZgT (H:Tre P) (n:Nat) (h:Hd) (w:Str) (ds:List D) (e:ZM Zbv (.inr w)=none):run P (n+1) (O "parts_of") [.tup (.str w::ds)] h=.ok (.tup []) h:=by
 rw [Zd H.parts rfl];show Zk (xs2 (P.tbl n) ZaV [some (.tup (.str w::ds))] h)=_;rw [ZaV,Zc ((Zu (Za3 H ⟨rfl,rfl⟩ ZcQ e)).trans (Zc (Zz (d:=.tup []) rfl)))];rfl
theorem Zbq (H:Tre P) (n:Nat) (h:Hd) (w:Str) (ds:List D) (a b:Int) (e:ZM Zbv (.inr w)=some (.tup [.int a,.int b])):run P (n+1) (O "parts_of") [.tup (.str w::ds)] h=.ok (.tup (cutD (.str w::ds) (some (1+a)) none)) h:=by
 rw [Zd H.parts rfl];show Zk (xs2 (P.tbl n) ZaV [some (.tup (.str w::ds))] h)=_;have q:=Zid H (U:=P.tbl n) ⟨rfl,rfl⟩ (ds:=ds) (h:=h) e;have r:ev (P.tbl n) (.sl (.var 0) (some (.bin .Add (.cst (.int 1)) (.ix (.ix (.glo (O "FORMS")) (.ix (.var 0) (.cst (.int 0)))) (.cst (.int 0))))) none) [some (.tup (.str w::ds))] h=.ok (.tup (cutD (.str w::ds) (some (1+a)) none)) h:=by
   exact (ZiY (a:=.var 0) (x:=.tup (.str w::ds)) rfl (Zgn q) rfl).trans rfl
 rw [ZaV,Za ((Zx (Za3 H ⟨rfl,rfl⟩ ZcQ e)).trans rfl),Zc (Zz r)];rfl
theorem ZfX (H:Tre P) (n:Nat) (t:T) (h:Hd):run P (n+1) (O "parts_of") [t.d] h=.ok (.tup (t.parts.map T.d)) h:=by
 cases t with
 | num z=>exact ZgT H n h (O "num") _ rfl
 | name x=>exact ZgT H n h (O "name") _ rfl
 | fn x e=>exact Zbq H n h (O "fn") _ 1 1 rfl
 | rcc f x e=>exact Zbq H n h (O "rec") _ 2 1 rfl
 | call f a=>exact Zbq H n h (O "call") _ 0 2 rfl
 | iff c a b=>exact Zbq H n h (O "if") _ 0 3 rfl
 | op w a b=>exact Zbq H n h w.s _ 0 2 (by cases w<;>rfl)
theorem Zd0(p:Option D):∀ (ps:List D) (W:List D) (q:Option D),W.length+ps.length<=1000000->∃ q',
   ZP [] (.nm 4) (xs2 U (.cons (.drp (.meth .app (.var 2) (.cons (.var 4) .nil))) .nil)) ps [some E,some (.ref h.length),some (.ref (h.length+1)),p,q] (h++[.lst F,.lst W])
     = .ok (.nx,[some E,some (.ref h.length),some (.ref (h.length+1)),p,q']) (h++[.lst F,.lst (W++ps)])
 | [],W,q,hz=>⟨q,by simp⟩
 | d::ds,W,q,hz=>by
   obtain ⟨q',e⟩:=Zd0 (U:=U) (h:=h) (F:=F) (E:=E) p ds (W++[d]) (some d) (by simp at hz ⊢;lia);refine ⟨q',?_⟩;have hz2:W.length<sizeLine:=by simp at hz;rw [sizeLine_eq];lia
   rw [Zbw];simp [ZbS,ZaI,ZeD,ZlU,hz2,e]
theorem ZhR(t:T):1<=t.places.length:=by rw [T.places_parts];simp
theorem ZcP:∀ W:List T,W.length<=(W.flatMap T.places).length
 | []=>by simp
 | t::W=>by
   have:=ZhR t;have:=ZcP W;rw [List.flatMap_cons,OA,Os]
   lia
theorem Zg4(H:Tre P)(n:Nat):∀ (fuel:Nat) (W:List T) (F:List D) (p q:Option D),(W.flatMap T.places).length<fuel->F.length+(W.flatMap T.places).length<=900000->∃ p' q',
   ZI (tst ⟨P.G,P.GD,run P (n+1),P.L⟩ (.ex (.var 2))) (xs2 ⟨P.G,P.GD,run P (n+1),P.L⟩ (.cons (.set (.nm 3) (.meth .pop (.var 2) .nil)) (.cons (.drp (.meth .app (.var 1) (.cons (.var 3) .nil))) (.cons (.forr (.nm 4) (.rev (.call (O "parts_of") (.cons (.var 3) .nil))) (.cons (.drp (.meth .app (.var 2) (.cons (.var 4) .nil))) .nil)) .nil))))
     fuel [some E,some (.ref h.length),some (.ref (h.length+1)),p,q] (h++[.lst F,.lst (W.map T.d).reverse])
     = .ok (.nx,[some E,some (.ref h.length),some (.ref (h.length+1)),p',q']) (h++[.lst (F++(W.flatMap T.places).map T.d),.lst []])
 | 0,W,F,p,q,h1,h2=>by lia
 | fuel+1,[],F,p,q,h1,h2=>⟨p,q,by rw [Z6];simp [ZcZ]⟩
 | fuel+1,t::W,F,p,q,h1,h2=>by
   have e0:((t::W).flatMap T.places)=t::((t.parts++W).flatMap T.places):=by
     rw [List.flatMap_cons,T.places_parts t,List.flatMap_append];simp
   rw [e0] at h1 h2 ⊢;have hp:t.parts.length<=3:=by cases t<;>simp [T.parts]
   simp only [Os] at h1 h2;have h3:=ZcP (t.parts++W);rw [OA] at h3;obtain ⟨q1,e1⟩:=Zd0 (U:=⟨P.G,P.GD,run P (n+1),P.L⟩) (h:=h) (F:=F++[t.d]) (E:=E) (some t.d) (t.parts.map T.d).reverse (W.map T.d).reverse q (by simp;lia);obtain ⟨p',q',e2⟩:=Zg4 H (h:=h) (E:=E) n fuel (t.parts++W) (F++[t.d]) (some t.d) q1 (by lia) (by rw [OA,List.length_singleton];lia);refine ⟨p',q',?_⟩;have hz2:F.length<sizeLine:=by rw [sizeLine_eq];lia
   rw [Z6];simp [ZcZ,ZbS,ZaI,ZeD,ZlU,Zn9,hz2,ZfX H,Zfq,e1];simpa using e2
theorem Zlb (H:Tre P) (hp:P.tb.lookup (O "places")=some Zdm) (n:Nat) (t:T) (h:Hd) (hz:t.size<=800000):run P (n+2) (O "places") [t.d] h=.ok (.ref h.length) (h++[.lst (t.places.map T.d),.lst []]):=by
 rw [Zd hp (by rfl)];obtain ⟨p',q',e⟩:=Zg4 H (h:=h) (E:=t.d) n P.L [t] [] none none (by have:=H.big;unfold T.size at hz;simp;lia) (by unfold T.size at hz;simp;lia);simp at e;simp [Zdm,Zhy,Zs,sizeLine_eq,e]
end Gn
end
section
namespace IV
open PySem L2
section
variable {U:Tb}{S:Ev}{h h1 h2 h3:Hd}
theorem Ze4(p:ev U o S h=.ok (.ref i) h1)(l:h1[i]? = some (.lst ys))(q:evs U es S h1=.ok xs h2)(e:ZaI m (.ref i) xs h2=r):ev U (.meth m o es) S h=r:=by rw [Zow,p,Zm,ZcG l,if_pos rfl,q];exact e
theorem Zds(q:ev U e S h=.ok d h1):xs1 U (.drp e) S h=.ok (.nx,S) h1:=by rw [ZiL,q];rfl
theorem Zpk(p:ev U o S h=.ok (.ref i) h1)(l:h1[i]? = some (.ins C fs))(f:fs.lookup m=none)(q:evs U es S h1=.ok xs h2)(e:U.C (mnm C m) (.ref i::xs) h2=r):ev U (.mcl C m o es) S h=r:=by
 rw [Zq7,p,Zm,show ZW (.ref i) h1=some (C,fs) by simp [ZW,l]];simp only [f,and_self,if_true,q];exact e
theorem Zmm(p:evi U it S h=.ok w h1)(q:ZF w.src g (tsto U c) (ev U e) w.xs (ZaJ js S) [] h1=.ok xs h2):ev U (.comp NC js it g c e) S h=.ok (.ref h2.length) (h2++[.lst xs]):=by rw [Zej,p,Zm,q];rfl
theorem Zq5(p:ev U e S h=.ok (.tup xs) h1):evi U (.rev e) S h=.ok ⟨[],xs.reverse⟩ h1:=by rw [Zos,p];rfl
theorem Zgm(p:ev U e S h=.ok (.tup xs) h1):evi U (.pl e) S h=.ok ⟨[],xs⟩ h1:=by rw [Zq6,p];rfl
theorem ZdQ(p:evs U es S h=.ok xs h1)(hz:xs.length<=1000):ev U (.lstl es) S h=.ok (.ref h1.length) (h1++[.lst xs]):=by rw [Zjy,p,Zm,if_pos (OE hz (by decide))];rfl
theorem Zgp(p:evs U es S h=.ok xs h1)(q:Zao U.GD f xs h1=r):ev U (.blt f es) S h=r:=by rw [Zrc,p];exact q
theorem Zjk(e:h[i]? = some (.lst ys)):Zao GD .len [.ref i] h=.ok (.int ys.length) h:=by simp only [Zao,ZhA,seqOf,lstOf,e];rfl
theorem Zo2(e:h[i]? = some (.lst ys)):Zao GD .tup [.ref i] h=.ok (.tup ys) h:=by simp only [Zao,ZiG,lstOf,e];rfl
theorem Zo3(p:ev U e S h=.ok (.ref i) h1)(l:h1[i]? = some (.lst ys)):tst U (.ex e) S h=.ok (!ys.isEmpty) h1:=by rw [ZkT,p,Zm,Zm1 l];rfl
theorem Zee(e:test S h=.ok true h1)(q:body S h1=.ok (.nx,ρ1) h2):ZI test body (n+1) S h=ZI test body n ρ1 h2:=by rw [Z6,e,Zm,if_pos rfl,q];rfl
theorem ZfO(e:test S h=.ok false h1):ZI test body (n+1) S h=.ok (.nx,S) h1:=by rw [Z6,e];rfl
theorem ZqZ(p:ev U a S h=.ok (.int x) h1)(q:ev U b S h1=.ok (.int y) h2):tst U (.ex (.cmp .Gt a b)) S h=.ok (decide (y<x)) h2:=Zc1 (ZH p q)
theorem ZsT(p:ev U a S h=.ok (.int x) h1)(q:ev U b S h1=.ok (.int y) h2):tst U (.ex (.cmp .Lt a b)) S h=.ok (decide (x<y)) h2:=Zc1 (ZH p q)
theorem Zv(b:Za8 g d S=some ρ1)(q:body ρ1 h=.ok (.nx,ρ2) h2):ZP [] g body (d::ds) S h=ZP [] g body ds ρ2 h2:=by rw [Zbw,b];simp only;rw [q];rfl
theorem ZgH(e:test S h=.ok true h1)(q:body S h1=.ok (.rt d,ρ1) h2):ZI test body (n+1) S h=.ok (.rt d,ρ1) h2:=by rw [Z6,e,Zm,if_pos rfl,q];rfl
theorem Zl6(p:ev U e S h=.ok x h1):tst U (.ex (.cmp .IsNot e (.cst .non))) S h=.ok (!decide (x=.non)) h1:=Zc1 ((ZH p rfl).trans ZlI)
theorem Zq2(b:Za8 g d S=some ρ1)(q:body ρ1 h=.ok (.rt x,ρ2) h2):ZP [] g body (d::ds) S h=.ok (.rt x,ρ2) h2:=by rw [Zbw,b];simp only;rw [q];rfl
variable {c:Str}
theorem ZgF(q:xs1 U s S h=.exc c h1):xs2 U (.cons s r) S h=.exc c h1:=by rw [xs2,q];rfl
theorem Ztl(q:ev U e S h=.exc c h1):xs1 U (.drp e) S h=.exc c h1:=by rw [ZiL,q];rfl
theorem Zsc(q:ev U e S h=.ok d h1):xs1 U (.rai c e) S h=.exc c h1:=by rw [xs1,q];rfl
theorem ZmU(e:test S h=.ok true h1)(q:body S h1=.exc c h2):ZI test body (n+1) S h=.exc c h2:=by rw [Z6,e,Zm,if_pos rfl,q];rfl
end
end IV
end
section
set_option tactic.hygienic false
set_option exponentiation.threshold 3000
namespace Gn
open PySem L2 IV
noncomputable def Up(i:Nat)(h h':Hd):Prop:=h.length<=h'.length/\∀ m,m<h.length->m≠i->h'[m]? = h[m]?
theorem Up.refl:Up i h h:=⟨Oq _,fun _ _ _=>rfl⟩
theorem Up.trans(x:Up i a b)(y:Up i b c):Up i a c :=
 ⟨OE x.1 y.1,fun m h1 h2=>(y.2 m (Ot h1 x.1) h2).trans (x.2 m h1 h2)⟩
theorem Up.set:Up i h (h.set i o):=⟨by simp,fun m _ h2=>by rw [Oc (Ne.symm h2)]⟩
theorem Up.app:Up i h (h++g):=⟨by simp,fun m h1 _=>Oe h1⟩
theorem ZG{h:Hd}(e:h[i]? = some o):i<h.length:=(Ob.mp e).1
theorem Up.at{i m:Nat}(u:Up i h h')(e:h[m]? = some o)(ne:m≠i):h'[m]? = some o:=(u.2 m (ZG e) ne).trans e
noncomputable def Alk(P:Pg)(f:Str)(fd:Fd):Prop:=∃ ps N,ps.length=fd.ps.length/\N.length=fd.N.length/\P.tb.lookup f=some ⟨ps,N,fd.body⟩
theorem Alk.same(e:P.tb.lookup f=some fd):Alk P f fd:=⟨fd.ps,fd.N,rfl,rfl,e⟩
theorem Zef(e:Alk P f fd)(hl:ds.length=fd.ps.length):run P (n+1) f ds h=Zk (xs2 ⟨P.G,P.GD,run P n,P.L⟩ fd.body (Zs fd.N ds) h):=by
 obtain ⟨ps,N,h1,h2,e⟩:=e;rw [Zd e (hl.trans h1.symm)];unfold Zs;rw [h2]
structure Mkr(P:Pg):Prop where
 mixed:P.tb.lookup (O "_law_mixed")=some Zcf
 next:P.tb.lookup (O "_law_next")=some ZeY
 names:P.tb.lookup (O "_law_names")=some Zce
 there:P.tb.lookup (O "_law_there")=some Zcd
 plain:P.tb.lookup (O "_law_plain")=some Zd2
 function:Alk P (O "_law_function") Zcg
 number:Alk P (O "_law_number") Zdn
 any:Alk P (O "_law_any") ZcH
 width:P.tb.lookup (O "_law_width")=some Za5
 deep:P.tb.lookup (O "_law_deep")=some ZbF
 program:Alk P (O "_law_program") ZcT
noncomputable def big:Int:=1000000000000000000000000000057
noncomputable def mixed(c k:Int):Int:=(c % big * 271828182845904523536028747135+k * k * 314159265358979323846264338327+577215664901532860606512090082) % big
theorem ZT(h:-(2 ^ 128)<i)(h2:i<2 ^ 128):i.natAbs<2 ^ 2000:=by
 have:i.natAbs<2 ^ 128:=by lia
 exact Ot this (Nat.pow_le_pow_right (by decide) (by decide))
theorem Zj5(hk:-(2 ^ 60)<k/\k<2 ^ 60):0<=k * k/\k * k<2 ^ 120:=by
 have a:k.natAbs<2 ^ 60:=by lia
 have b:k.natAbs * k.natAbs<2 ^ 60 * 2 ^ 60:=Nat.mul_lt_mul'' a a;have c2:((k.natAbs * k.natAbs:Nat):Int)=k * k:=Int.natAbs_mul_self;rw [<- c2];constructor
 . lia
 . have:((k.natAbs * k.natAbs:Nat):Int)<((2 ^ 60 * 2 ^ 60:Nat):Int):=Int.ofNat_lt.mpr b;exact this
theorem ZfY (H:Mkr P) (n:Nat) (c k:Int) (h:Hd) (hk:-(2 ^ 60)<k/\k<2 ^ 60):run P (n+1) (O "_law_mixed") [.int c,.int k] h=.ok (.int (mixed c k)) h:=by
 rw [Zd H.mixed rfl];have hp:opB .Pow (.int 10) (.int 30) h=.ok (.int 1000000000000000000000000000000) h:=by
   show (if (0:Int)<=30/\(30:Int)<=1000000/\(10:Int).natAbs<2 ^ 64 then R.ok (D.int (10 ^ (30:Int).toNat)) h else R.bad)=_;rw [if_pos (by decide)];rfl
 have h1:0<=c % 1000000000000000000000000000057/\c % 1000000000000000000000000000057<1000000000000000000000000000057:=⟨Int.emod_nonneg _ (by decide),Int.emod_lt_of_pos _ (by decide)⟩
 have hkk:=Zj5 hk;have e1:opB .Mod (.int c) (.int 1000000000000000000000000000057) h=.ok (.int (c % 1000000000000000000000000000057)) h:=ZC (by decide);have e2:opB .Mult (.int (c % 1000000000000000000000000000057)) (.int 271828182845904523536028747135) h=.ok (.int (c % 1000000000000000000000000000057 * 271828182845904523536028747135)) h:=Zde ⟨ZT (by lia) (by lia),ZT (by decide) (by decide)⟩;have e3:opB .Mult (.int k) (.int k) h=.ok (.int (k * k)) h:=Zde ⟨ZT (by lia) (by lia),ZT (by lia) (by lia)⟩;have e4:opB .Mult (.int (k * k)) (.int 314159265358979323846264338327) h=.ok (.int (k * k * 314159265358979323846264338327)) h:=Zde ⟨ZT (by lia) (by lia),ZT (by decide) (by decide)⟩;have e5:opB .Mod (.int (c % 1000000000000000000000000000057 * 271828182845904523536028747135+k * k * 314159265358979323846264338327+577215664901532860606512090082)) (.int 1000000000000000000000000000057) h=.ok (.int (mixed c k)) h:=ZC (by decide);simp [Zcf,Zd6,Zs,hp,e1,e2,e3,e4,e5]
noncomputable def St3(h:Hd)(i j:Nat)(cs:List Int)(at' b:Int):Prop:=h[i]? = some (.lst [.ref j,.int at',.int b])/\h[j]? = some (.lst (cs.map .int))/\i≠j
theorem ZhO {P:Pg} (H:Mkr P) (n:Nat) (st:St3 h i j cs a b) (ha:0<=a/\a<2 ^ 50):∃ v,run P (n+2) (O "_law_next") [.ref i] h=.ok (.int v) (h.set i (.lst [.ref j,.int (a+1),.int b]))/\(v∈cs\/v=mixed a 7):=by
 obtain ⟨h1,h2,ne⟩:=st;rw [Zd H.next (by rfl)];have i1:=ZG h1;have i2:(h.set i (.lst [.ref j,.int (a+1),.int b]))[i]? = some (.lst [.ref j,.int (a+1),.int b]):=by rw [Ol i1]
 have i3:(h.set i (.lst [.ref j,.int (a+1),.int b]))[j]? = some (.lst (cs.map .int)):=by rw [Oc ne];exact h2
 have hput:Zaf (.ref i) (.int 1) (.int (a+1)) h=.ok () (h.set i (.lst [.ref j,.int (a+1),.int b])):=by
   simp only [Zaf,h1];rfl
 have x1:xs1 (P.tbl (n+1)) (.set (.nm 1) (.ix (.var 0) (.cst (.int 1)))) [some (.ref i),none] h=.ok (.nx,[some (.ref i),some (.int a)]) h:=Zq ((Zo rfl rfl).trans ((ZR h1).trans rfl));have x2:xs1 (P.tbl (n+1)) (.put (.var 0) (.cst (.int 1)) (.bin .Add (.var 1) (.cst (.int 1)))) [some (.ref i),some (.int a)] h=.ok (.nx,[some (.ref i),some (.int a)]) (h.set i (.lst [.ref j,.int (a+1),.int b])):=by
   rw [ZfN];show (Zaf (.ref i) (.int 1) (.int (a+1)) h).bnd _=_;rw [hput];rfl
 generalize h.set i (.lst [.ref j,.int (a+1),.int b])=h' at *;have e0:ev (P.tbl (n+1)) (.ix (.var 0) (.cst (.int 0))) [some (.ref i),some (.int a)] h'=.ok (.ref j) h':=(Zo rfl rfl).trans ((ZR i2).trans rfl);have tt:tst (P.tbl (n+1)) (.ex (.cmp .Lt (.var 1) (.blt .len (.cons (.ix (.var 0) (.cst (.int 0))) .nil)))) [some (.ref i),some (.int a)] h'=.ok (decide (a<(cs.map D.int).length)) h':=ZsT rfl (Zgp (Zb e0 rfl) (Zjk i3));rw [List.length_map] at tt;have x3:xs2 (P.tbl (n+1)) Zc5 [some (.ref i),none] h=xs2 (P.tbl (n+1)) (tlS (tlS Zc5)) [some (.ref i),some (.int a)] h':=(nx1 x1 rfl).trans (nx1 x2 rfl);by_cases hc:a<cs.length
 . obtain ⟨k,rfl⟩:∃ k:Nat,a=k:=⟨a.toNat,by lia⟩
   have hk:k<cs.length:=by lia
   have hat:atI (cs.map D.int) (k:Int)=some (.int cs[k]):=by rw [IV.ZbP,On,Og hk];rfl
   exact ⟨cs[k],(congrArg Zk x3).trans (rt1 ((Zu (Zw tt (decide_eq_true hc))).trans (Zc (Zz ((Zo e0 rfl).trans ((ZR i3).trans (by rw [hat];rfl)))))) rfl),.inl (List.getElem_mem hk)⟩
 . exact ⟨mixed a 7,(congrArg Zk (x3.trans (nx1 ((Zx (Zw tt (decide_eq_false hc))).trans rfl) rfl))).trans (rt1 (Zz (Zt (ZfY H n a 7 _ (by decide)) rfl)) rfl),.inr rfl⟩
noncomputable def Wl(n:Nat)(x:Str):Prop:=PyData.strOk x=true/\x.length<=n
noncomputable def Cl:List Str->T->Prop
 | _,.num n=>0<=n/\n<1000000
 | sc,.name x=>x∈sc
 | sc,.fn x e=>Cl (x::sc) e/\Wl 20 x
 | sc,.rcc f x e=>Cl (x::f::sc) e/\f≠x/\Wl 20 f/\Wl 20 x
 | sc,.call f a=>Cl sc f/\Cl sc a
 | sc,.iff c t e=>Cl sc c/\Cl sc t/\Cl sc e
 | sc,.op _ a b=>Cl sc a/\Cl sc b
noncomputable def dep:T->Nat
 | .num _|.name _=>0
 | .fn _ e|.rcc _ _ e=>dep e+1
 | .call f a=>max (dep f) (dep a)+1
 | .iff c t e=>max (dep c) (max (dep t) (dep e))+1
 | .op _ a b=>max (dep a) (dep b)+1
noncomputable def fw:T->Int
 | .num _|.name _=>-1
 | .fn _ e|.rcc _ _ e=>fw e+3
 | .call f a=>fw f+fw a - 1
 | .iff c t e=>fw c+fw t+fw e - 1
 | .op _ a b=>fw a+fw b - 1
noncomputable def nb:T->Nat
 | .num _|.name _=>0
 | .fn _ e=>nb e+1
 | .rcc _ _ e=>nb e+2
 | .call f a=>max (nb f) (nb a)
 | .iff c t e=>max (nb c) (max (nb t) (nb e))
 | .op _ a b=>max (nb a) (nb b)
theorem at4(k:Int)(h0:0<=k)(h4:k<4):∃ v,atI [D.int a,.int b,.int c,.int d] k=some (.int v)/\(v=a\/v=b\/v=c\/v=d):=by
 have:k=0\/k=1\/k=2\/k=3:=by lia
 rcases this with rfl|rfl|rfl|rfl
 . exact ⟨a,by simp,.inl rfl⟩
 . exact ⟨b,by simp,.inr (.inl rfl)⟩
 . exact ⟨c,by simp,.inr (.inr (.inl rfl))⟩
 . exact ⟨d,by simp,.inr (.inr (.inr rfl))⟩
theorem ZfW (H:Mkr P) (n:Nat) (w:Str) (v:Int) (h:Hd) (sc:List Str):∃ t g,run P (n+1) (O "_law_plain") [.str w,.int v] h=.ok (T.d t) (h++g)/\Cl sc t/\(nb t<=dep t/\dep t<=2)/\t.size<=4/\fw t<=0:=by
 rw [Zd H.plain (by rfl)];by_cases w1:w=O "n"
 . obtain ⟨u,e,hu⟩:=at4 (a:=0) (b:=1) (c:=2) (d:=v / 7 % 1000000) (v % 4) (by lia) (by lia);refine ⟨.num u,[.lst [.int 0,.int 1,.int 2,.int (v / 7 % 1000000)]],?_,by show 0<=u/\u<1000000;lia,⟨Oq _,by show 0<=2;lia⟩,by show 1<=4;lia,by show (-1:Int)<=0;decide⟩;exact rt1 (U:=P.tbl n) (ss:=Zaa) ((Zu (Zw (ZbH rfl rfl) (decide_eq_true w1))).trans (Zc (Zz (ZaO (Zb rfl (Zb (Zhu e (Zb rfl (Zb rfl (Zb rfl (Zb ((Zf (x:=.int (v / 7)) ((Zf rfl rfl).trans (ZaM (by decide))) rfl).trans (ZC (by decide))) rfl)))) ((Zf rfl rfl).trans (ZC (by decide))) (Nat.le_of_ble_eq_true rfl)) rfl)) (Nat.le_of_ble_eq_true rfl))))) rfl
 . have x1:xs2 (P.tbl n) Zaa [some (.str w),some (.int v)] h=xs2 (P.tbl n) (tlS Zaa) [some (.str w),some (.int v)] h:=nx1 ((Zx (Zw (ZbH rfl rfl) (decide_eq_false w1))).trans rfl) rfl;by_cases w2:w=O "f"
   . refine ⟨.fn (O "w") (.op .sub (.name (O "w")) (.num (v % 3))),[],?_,?_,by simp only [dep,nb];lia,by show 4<=4;lia,by simp only [fw];lia⟩
     . rw [List.append_nil];exact (congrArg Zk x1).trans (rt1 (U:=P.tbl n) (ss:=tlS Zaa) ((Zu (Zw (ZbH rfl rfl) (decide_eq_true w2))).trans (Zc (Zz (ZaO (Zb rfl (Zb rfl (Zb (ZaO (Zb rfl (Zb rfl (Zb (ZaO (Zb rfl (Zb ((Zf rfl rfl).trans (ZC (by decide))) rfl)) (Nat.le_of_ble_eq_true rfl)) rfl))) (Nat.le_of_ble_eq_true rfl)) rfl))) (Nat.le_of_ble_eq_true rfl))))) rfl)
     . exact ⟨⟨Oi,by show 0<=v % 3/\v % 3<1000000;lia⟩,by unfold Wl;decide +kernel⟩
   . refine ⟨.fn (O "w") (.call (.name (O "w")) (.num (v % 5))),[],?_,?_,by simp only [dep,nb];lia,by show 4<=4;lia,by simp only [fw];lia⟩
     . rw [List.append_nil];exact (congrArg Zk (x1.trans (nx1 ((Zx (Zw (ZbH rfl rfl) (decide_eq_false w2))).trans rfl) rfl))).trans (rt1 (U:=P.tbl n) (ss:=tlS (tlS Zaa)) (Zz (ZaO (Zb rfl (Zb rfl (Zb (ZaO (Zb rfl (Zb rfl (Zb (ZaO (Zb rfl (Zb ((Zf rfl rfl).trans (ZC (by decide))) rfl)) (Nat.le_of_ble_eq_true rfl)) rfl))) (Nat.le_of_ble_eq_true rfl)) rfl))) (Nat.le_of_ble_eq_true rfl))) rfl)
     . exact ⟨⟨Oi,by show 0<=v % 5/\v % 5<1000000;lia⟩,by unfold Wl;decide +kernel⟩
noncomputable def Zl:Str:=O "abcdefghijklmnopqrstuvwxyz"
theorem Zg3:Zl.length=26:=by decide +kernel
theorem Zh4:PyData.strOk Zl=true:=by decide +kernel
noncomputable def ltr(k:Int):Nat:=Zl.cps.toList.getD k.toNat 0
noncomputable def lt1(k:Int):Str:=⟨#[ltr k]⟩
theorem ZdK(k:Int)(h0:0<=k)(h1:k<26):Zag GD (.str Zl) (.int k) h=.ok (.str (lt1 k)) h/\Wl 1 (lt1 k):=by
 obtain ⟨m,rfl⟩:∃ m:Nat,k=m:=⟨k.toNat,by lia⟩
 have hl:Zl.cps.toList.length=26:=by decide +kernel
 have hm:m<Zl.cps.toList.length:=by lia
 have el:ltr m=Zl.cps.toList[m]:=by
   show Zl.cps.toList.getD (m:Int).toNat 0=_;rw [Int.toNat_natCast,List.getD_eq_getElem?_getD,Og hm];rfl
 have e:atI Zl.cps.toList (m:Int)=some Zl.cps.toList[m]:=by rw [IV.ZbP,Og hm]
 unfold lt1;rw [el];refine ⟨?_,ZlL Zh4 (List.getElem_mem hm),by show (#[Zl.cps.toList[m]]:Array Nat).size<=1;simp⟩;have q:Zag GD (.str Zl) (.int (m:Int)) h=if Zl.length<=sizeLine then R.ofO ((atI Zl.cps.toList (m:Int)).map fun c=>.str ⟨#[c]⟩) h else .bad:=rfl;rw [q,if_pos (by rw [Zg3,sizeLine_eq];decide),e];rfl
theorem len_cat{x y:Str}:(x++y).length=x.length+y.length:=by
 show (x.cps++y.cps).size=_;rw [Array.size_append];rfl
theorem Za7{x y:Str}(hx:Wl a x)(hy:Wl b y)(hz:a+b<=1000):opB .Add (.str x) (.str y) h=.ok (.str (x++y)) h/\Wl (a+b) (x++y):=by
 have hl:(x++y).length=x.length+y.length:=len_cat;refine ⟨if_pos (by rw [sizeLine_eq];have:=hx.2;have:=hy.2;lia),Zfy hx.1 hy.1,by rw [hl];have:=hx.2;have:=hy.2;lia⟩
theorem Zl1{U:Tb}:∀ (ks:List Int) (r:Int) (x:Str) (m:Nat) (k:Option D),Wl m x->x.length=m->m+ks.length<=100->∃ r' x' k',Wl (m+ks.length) x'/\x'.length=m+ks.length /\
   ZP [] (.nm 6) (xs2 U (.cons (.set (.nm 5) (.bin .Add (.var 5) (.ix (.var 1) (.bin .Mod (.var 4) (.cst (.int 26)))))) (.cons (.set (.nm 4) (.bin .FloorDiv (.var 4) (.cst (.int 26)))) .nil))) (ks.map D.int) [a,some (.str Zl),l,p,some (.int r),some (.str x),k,f,sg,wd] h
     = .ok (.nx,[a,some (.str Zl),l,p,some (.int r'),some (.str x'),k',f,sg,wd]) h
 | [],r,x,m,k,hx,hn,hm=>⟨r,x,k,hx,hn,rfl⟩
 | c::cs,r,x,m,k,hx,hn,hm=>by
   obtain ⟨e1,hy⟩:=ZdK (GD:=U.GD) (h:=h) (r % 26) (by lia) (by lia);obtain ⟨e2,hxy⟩:=Za7 (h:=h) hx hy (by simp at hm;lia);obtain ⟨r',x',k',h1,h2,e3⟩:=Zl1 (U:=U) (h:=h) (a:=a) (l:=l) (p:=p) (f:=f) (sg:=sg) (wd:=wd) cs (r / 26) (x++lt1 (r % 26)) (m+1) (some (.int c)) hxy (by rw [len_cat,hn];rfl) (by simp at hm ⊢;lia);have hcl:m+(c::cs).length=m+1+cs.length:=by rw [Os];lia
   refine ⟨r',x',k',by rw [hcl];exact h1,by rw [hcl];exact h2,?_⟩;have e4:opB .Mod (.int r) (.int 26) h=.ok (.int (r % 26)) h:=ZC (by decide);have e5:opB .FloorDiv (.int r) (.int 26) h=.ok (.int (r / 26)) h:=ZaM (by decide);rw [Op,Zbw];simp [e4,e1,e2,e5,e3]
theorem ZpN(x:Str)(l u:Option Int):(StrLaws.sliceText x l u).length<=x.length:=by
 unfold StrLaws.sliceText;split
 . exact Oq _
 . show ((Builtin.Str.strSliceIndices l u 1 x.length).filterMap (x.cps[·]?)).toArray.size<=_;rw [Of];refine OE (List.length_filterMap_le _ _) ?_;unfold Builtin.Str.strSliceIndices;refine PySem.sliceRange_length_le _ _ _ _ (fun _=>?_) (fun z=>absurd (by decide) z);cases l<;>cases u<;>simp<;>lia
theorem ZcB(hx:Wl m x)(hm:m<=1000)(l u:Option Int):Zfk (.str x) l u h=.ok (.str (StrLaws.sliceText x l u)) h/\Wl m (StrLaws.sliceText x l u):=by
 refine ⟨if_pos (by rw [sizeLine_eq];have:=hx.2;lia),ZlK hx.1 (Zet _ _ _),?_⟩;have:=hx.2;have q:(StrLaws.sliceText x l u).length<=x.length:=ZpN x l u
 lia
theorem in4:opC GD .In (.str x) (.tup [.str (O "fn"),.str (O "rec"),.str (O "call"),.str (O "if")]) h=.ok (.bl (decide (x∈[O "fn",O "rec",O "call",O "if"]))) h :=
 Zf5 (ss:=[O "fn",O "rec",O "call",O "if"])
theorem len_str(hx:Wl m x)(hm:m<=1000):Zao GD .len [.str x] h=.ok (.int x.length) h:=by
 show (if x.length<=sizeLine then _ else _)=_;exact if_pos (by rw [sizeLine_eq];have:=hx.2;lia)
theorem Zo9 (hx:Wl m x) (hm:m<=1000):opB .Mult (.str (O "q")) (.int x.length) h=.ok (.str (Zb5 (O "q") x.length)) h/\Wl m (Zb5 (O "q") x.length):=by
 have hq:(O "q").length=1:=by decide +kernel
 have:=hx.2;refine ⟨if_pos ⟨by lia,by lia,by rw [hq];decide⟩,ZhW (by decide +kernel) _,?_⟩;rw [Zb4,hq]
 lia
noncomputable def nmW(b:Str)(l p r c:Int):Str:=if r / 26 % 4=1 then StrLaws.sliceText b none (some (8 - c)) else StrLaws.sliceText b none (some p)++lt1 ((r+5 * c) % 26)++StrLaws.sliceText b (some (p+1)) (some l)
noncomputable def nmQ (w:Str):Str:=if w∈[O "fn",O "rec",O "call",O "if"] then Zb5 (O "q") w.length else w
noncomputable def nm(b:Str)(l p r c:Int):Str:=nmQ (nmW b l p r c)
theorem ZlN(hb:Wl 8 b)(l p r c:Int):Wl 20 (nmW b l p r c):=by
 unfold nmW;split
 . have q:=(ZcB (h:=[]) hb (by decide) none (some (8 - c))).2;exact ⟨q.1,by have:=q.2;lia⟩
 . have q1:=(ZcB (h:=[]) hb (by decide) none (some p)).2;have q2:=(ZdK (GD:=fun _=>none) (h:=[]) ((r+5 * c) % 26) (by lia) (by lia)).2;have q3:=(ZcB (h:=[]) hb (by decide) (some (p+1)) (some l)).2;have q:=(Za7 (h:=[]) (Za7 (h:=[]) q1 q2 (by decide)).2 q3 (by decide)).2;exact ⟨q.1,by have:=q.2;lia⟩
theorem ZsK(hb:Wl 8 b)(l p r c:Int):Wl 20 (nm b l p r c):=by
 unfold nm nmQ;split
 . exact (Zo9 (h:=[]) (ZlN hb l p r c) (by decide)).2
 . exact ZlN hb l p r c
noncomputable def ZqH:Sx:=.set (.nm 8) (.ix (.var 1) (.bin .Mod (.bin .Add (.var 4) (.bin .Mult (.cst (.int 5)) (.var 6))) (.cst (.int 26))))
noncomputable def ZqG:Sx:=.set (.nm 9) (.bin .Add (.bin .Add (.sl (.var 5) none (some (.var 3))) (.var 8)) (.sl (.var 5) (some (.bin .Add (.var 3) (.cst (.int 1)))) (some (.var 2))))
noncomputable def ZqC:Tx:=.ex (.cmp .Eq (.bin .Mod (.bin .FloorDiv (.var 4) (.cst (.int 26))) (.cst (.int 4))) (.cst (.int 1)))
noncomputable def ZsV:Sx:=.set (.nm 9) (.sl (.var 5) none (some (.bin .Sub (.cst (.int 8)) (.var 6))))
noncomputable def ZqB:Exs:=(.cons (.cst (.str (O "fn"))) (.cons (.cst (.str (O "rec"))) (.cons (.cst (.str (O "call"))) (.cons (.cst (.str (O "if"))) .nil))))
noncomputable def ZsW:Sx:=.set (.nm 9) (.bin .Mult (.cst (.str (O "q"))) (.blt .len (.cons (.var 9) .nil)))
noncomputable def ZqE:Sx:=.drp (.meth .app (.var 7) (.cons (.var 9) .nil))
noncomputable def ZqD:Sxs:=.cons (.iff (.ex (.cmp .In (.var 9) (.tupl ZqB))) (.cons ZsW .nil) .nil) (.cons ZqE .nil)
noncomputable def ZqF:Sxs:=.cons ZqH (.cons ZqG (.cons (.iff ZqC (.cons ZsV .nil) .nil) ZqD))
noncomputable def vn(a:Option D)(l p r:Int)(b:Str)(q:Nat)(k sg wd:Option D):Ev:=[a,some (.str Zl),some (.int l),some (.int p),some (.int r),some (.str b),k,some (.ref q),sg,wd]
theorem ZlX(hw:Wl 20 wd)(hz:ds.length<16777216):xs2 U ZqD (vn a l p r b h.length k sg (some (.str wd))) (h++[.lst ds])=.ok (.nx,vn a l p r b h.length k sg (some (.str (nmQ wd)))) (h++[.lst (ds++[.str (nmQ wd)])]):=by
 have ap:∀ w:Str,xs1 U ZqE (vn a l p r b h.length k sg (some (.str w))) (h++[.lst ds])=.ok (.nx,vn a l p r b h.length k sg (some (.str w))) (h++[.lst (ds++[.str w])]):=fun w=>by
   have e:=Zds (Ze4 (U:=U) (S:=vn a l p r b h.length k sg (some (.str w))) (o:=.var 7) (es:=.cons (.var 9) .nil) rfl Zb1 rfl (Zax (d:=.str w) (Zb1 (h:=h) (x:=.lst ds) (r:=[])) (by rw [sizeLine_eq];exact hz)));rw [show (h++[DO.lst ds]).set h.length (.lst (ds++[.str w]))=h++[.lst (ds++[.str w])] by simp] at e;exact e
 have i4:tst U (.ex (.cmp .In (.var 9) (.tupl ZqB))) (vn a l p r b h.length k sg (some (.str wd))) (h++[.lst ds])=.ok (decide (wd∈[O "fn",O "rec",O "call",O "if"])) (h++[.lst ds]):=Zc1 ((ZH (x:=.str wd) rfl (ZaO (xs:=[.str (O "fn"),.str (O "rec"),.str (O "call"),.str (O "if")]) rfl (by decide))).trans in4);unfold nmQ;by_cases hin:wd∈[O "fn",O "rec",O "call",O "if"]
 . rw [if_pos hin];exact (Za ((Zu (Zw i4 (decide_eq_true hin))).trans ((Za (Zq ((Zf rfl (Zgp rfl (len_str hw (by decide)))).trans (Zo9 hw (by decide)).1))).trans rfl))).trans ((Za (ap _)).trans rfl)
 . rw [if_neg hin];exact (Za ((Zx (Zw i4 (decide_eq_false hin))).trans rfl)).trans ((Za (ap _)).trans rfl)
theorem ZsX(hb:Wl 8 b)(hc:0<=c/\c<100)(hz:ds.length<16777216):xs2 U ZqF (vn a l p r b h.length (some (.int c)) sg wd) (h++[.lst ds])=.ok (.nx,vn a l p r b h.length (some (.int c)) (some (.str (lt1 ((r+5 * c) % 26)))) (some (.str (nm b l p r c)))) (h++[.lst (ds++[.str (nm b l p r c)])]):=by
 obtain ⟨e1,hy⟩:=ZdK (GD:=U.GD) (h:=h++[.lst ds]) ((r+5 * c) % 26) (by lia) (by lia);obtain ⟨f1,w1⟩:=ZcB (h:=h++[.lst ds]) hb (by decide) none (some p);obtain ⟨f2,w2⟩:=ZcB (h:=h++[.lst ds]) hb (by decide) (some (p+1)) (some l);obtain ⟨f3,w3⟩:=ZcB (h:=h++[.lst ds]) hb (by decide) none (some (8 - c));obtain ⟨c1,v1⟩:=Za7 (h:=h++[.lst ds]) w1 hy (by decide);obtain ⟨c2,v2⟩:=Za7 (h:=h++[.lst ds]) v1 w2 (by decide);have m5:opB .Mult (.int 5) (.int c) (h++[.lst ds])=.ok (.int (5 * c)) (h++[.lst ds]):=Zde ⟨ZT (by decide) (by decide),ZT (by lia) (by lia)⟩;unfold nm nmW;generalize lt1 ((r+5 * c) % 26)=y at *;have x8:xs1 U ZqH (vn a l p r b h.length (some (.int c)) sg wd) (h++[.lst ds])=.ok (.nx,vn a l p r b h.length (some (.int c)) (some (.str y)) wd) (h++[.lst ds]):=Zq ((Zo (x:=.str Zl) rfl ((Zf (x:=.int (r+5 * c)) ((Zf rfl ((Zf rfl rfl).trans m5)).trans rfl) rfl).trans (ZC (by decide)))).trans e1);have g1:ev U (.sl (.var 5) none (some (.var 3))) (vn a l p r b h.length (some (.int c)) (some (.str y)) wd) (h++[.lst ds])=.ok (.str (StrLaws.sliceText b none (some p))) (h++[.lst ds]):=f1;have g2:ev U (.sl (.var 5) (some (.bin .Add (.var 3) (.cst (.int 1)))) (some (.var 2))) (vn a l p r b h.length (some (.int c)) (some (.str y)) wd) (h++[.lst ds])=.ok (.str (StrLaws.sliceText b (some (p+1)) (some l))) (h++[.lst ds]):=f2;have g3:∀ w,ev U (.sl (.var 5) none (some (.bin .Sub (.cst (.int 8)) (.var 6)))) (vn a l p r b h.length (some (.int c)) (some (.str y)) w) (h++[.lst ds])=.ok (.str (StrLaws.sliceText b none (some (8 - c)))) (h++[.lst ds]):=fun _=>f3;have x9:xs1 U ZqG (vn a l p r b h.length (some (.int c)) (some (.str y)) wd) (h++[.lst ds])=.ok (.nx,vn a l p r b h.length (some (.int c)) (some (.str y)) (some (.str (StrLaws.sliceText b none (some p)++y++StrLaws.sliceText b (some (p+1)) (some l))))) (h++[.lst ds]):=Zq ((Zf ((Zf g1 rfl).trans c1) g2).trans c2);have tt:tst U ZqC (vn a l p r b h.length (some (.int c)) (some (.str y)) (some (.str (StrLaws.sliceText b none (some p)++y++StrLaws.sliceText b (some (p+1)) (some l))))) (h++[.lst ds])=.ok (decide (r / 26 % 4=1)) (h++[.lst ds]):=ZdR ((Zf (x:=.int (r / 26)) ((Zf rfl rfl).trans (ZaM (by decide))) rfl).trans (ZC (by decide))) rfl;refine (Za x8).trans ((Za x9).trans ?_);by_cases hr:r / 26 % 4=1
 . rw [if_pos hr];exact (Za ((Zu (Zw tt (decide_eq_true hr))).trans ((Za (Zq (g3 _))).trans rfl))).trans (ZlX ⟨w3.1,by have:=w3.2;lia⟩ hz)
 . rw [if_neg hr];exact (Za ((Zx (Zw tt (decide_eq_false hr))).trans rfl)).trans (ZlX ⟨v2.1,by have:=v2.2;lia⟩ hz)
theorem Zjm(hb:Wl 8 b):∀ (ks:List Int) (fo:List Str) (k sg wd:Option D),fo.length+ks.length<=100->(∀ c∈ks,0<=c/\c<100)->∃ k' sg' wd',
   ZP [] (.nm 6) (xs2 U ZqF) (ks.map D.int) (vn a l p r b h.length k sg wd) (h++[.lst (fo.map .str)])
     = .ok (.nx,vn a l p r b h.length k' sg' wd') (h++[.lst ((fo++ks.map (nm b l p r)).map .str)])
 | [],fo,k,sg,wd,h2,h3=>⟨k,sg,wd,by rw [Oy,Oy,List.append_nil];rfl⟩
 | c::cs,fo,k,sg,wd,h2,h3=>by
   rw [Os] at h2;obtain ⟨k',sg',wd',e3⟩:=Zjm (U:=U) (h:=h) (a:=a) (l:=l) (p:=p) (r:=r) hb cs (fo++[nm b l p r c]) (some (.int c)) (some (.str (lt1 ((r+5 * c) % 26)))) (some (.str (nm b l p r c))) (by rw [OA,List.length_singleton];lia) (fun z hz=>h3 z (.tail _ hz));refine ⟨k',sg',wd',(Zv rfl (ZsX hb (h3 c (.head _)) (by rw [List.length_map];lia))).trans ?_⟩;rw [List.map_append,Oz] at e3;exact e3
theorem ZqL:∀ k∈[[102,110],[114,101,99],[99,97,108,108],[105,102]],∀ l∈[[102,110],[114,101,99],[99,97,108,108],[105,102],List.replicate k.length 113],k=l\/k.length≠l.length\/∀ i,i<4->∃ j,j<4/\j≠i/\k[j]?≠l[j]? := by decide +kernel
theorem Zjo(ne:x≠y)(a:List Nat)(h:a++x::b∈[[102,110],[114,101,99],[99,97,108,108],[105,102]]):a++y::b ∉ [[102,110],[114,101,99],[99,97,108,108],[105,102]]/\a++y::b≠List.replicate (a++x::b).length 113:=by
 have l4:(a++x::b).length<=4:=by
   have:∀ k∈[[102,110],[114,101,99],[99,97,108,108],[105,102]],k.length<=4:=by decide
   exact this _ h
 have sl:(a++x::b).length=(a++y::b).length:=by simp
 have no:∀ l∈[[102,110],[114,101,99],[99,97,108,108],[105,102],List.replicate (a++x::b).length 113],a++y::b≠l:=fun l hl e=>by
   rcases ZqL _ h l hl with q|q|q
   . rw [<- e] at q;exact ne (List.cons.inj (List.append_cancel_left q)).1
   . exact q (by rw [<- e];exact sl)
   . obtain ⟨j,_,nj,d⟩:=q a.length (by simp at l4;lia);rw [<- e] at d;rcases Nat.lt_or_ge j a.length with z|z
     . exact d (by rw [Oe z,Oe z])
     . rw [Om z,Om z] at d;obtain ⟨m,hm⟩:∃ m,j - a.length=m+1:=⟨j - a.length - 1,by lia⟩
       rw [hm] at d;exact d rfl
 refine ⟨fun m=>no _ (List.mem_append_left [List.replicate (a++x::b).length 113] m) rfl,no _ (Ov [[102,110],[114,101,99],[99,97,108,108],[105,102]] (Ox.mpr rfl))⟩
theorem Zl3:w∈[O "fn",O "rec",O "call",O "if"]↔w.cps.toList∈[[102,110],[114,101,99],[99,97,108,108],[105,102]]:=by
 have e:[[102,110],[114,101,99],[99,97,108,108],[105,102]]=[O "fn",O "rec",O "call",O "if"].map (·.cps.toList):=by decide +kernel
 rw [e];refine ⟨fun h=>List.mem_map_of_mem h,fun h=>?_⟩;obtain ⟨v,hv,q⟩:=List.mem_map.mp h;have:v=w:=by
   obtain ⟨⟨v⟩⟩:=v;obtain ⟨⟨w⟩⟩:=w;cases q;rfl
 exact this ▸ hv
theorem ZgN:∀ n,(Zb5 (O "q") n).cps.toList=List.replicate n 113
 | n=>by
   have:∀ (n:Nat) (a:Array Nat),((List.replicate n (O "q").cps).foldl (·++·) a).toList=a.toList++List.replicate n 113:=by
     intro n;induction n with
     | zero=>intro a;simp
     | succ n ih=>intro a;rw [List.replicate_succ,List.foldl_cons,ih,Array.toList_append,Oz,List.replicate_succ];rfl
   have q:=this n #[];simpa [Zb5] using q
theorem nq(hv:v.cps.toList=a++x::b)(hw:w.cps.toList=a++y::b)(ne:x≠y):nmQ v≠nmQ w:=by
 have hl:v.length=(a++x::b).length/\w.length=(a++y::b).length:=by rw [<- hv,<- hw];exact ⟨by simp [Str.length],by simp [Str.length]⟩
 unfold nmQ;intro e;have e':=congrArg (·.cps.toList) e;simp only [Zl3] at e';split at e'
 . rename_i kv;rw [hv] at kv;obtain ⟨k1,k2⟩:=Zjo ne a kv;rw [if_neg (by rw [hw];exact k1),ZgN,hw,hl.1] at e';exact k2 e'.symm
 . split at e'
   . rename_i kw;rw [hw] at kw;obtain ⟨k1,k2⟩:=Zjo (Ne.symm ne) a kw;rw [ZgN,hv,hl.2] at e';exact k2 e'
   . rw [hv,hw] at e';have:=List.append_cancel_left e';exact ne (List.cons.inj this).1
theorem Zjd(w:Str):(nmQ w).length=w.length:=by
 unfold nmQ;split
 . rw [Zb4,show (O "q").length=1 by decide +kernel,Nat.mul_one]
 . rfl
theorem Zoa:∀ i j:Fin 26,ltr (i.val:Int)=ltr (j.val:Int)->i=j:=by decide +kernel
theorem ZsL(hb:b.length=8)(hc:0<=c/\c<5)(hd:0<=d/\d<5)(ne:c≠d):nm b l p r c≠nm b l p r d:=by
 unfold nm nmW;split
 . intro e;have e':=congrArg Str.length e;have len:∀ z:Int,0<=z/\z<5->(StrLaws.sliceText b none (some (8 - z))).length=(8 - z).toNat:=fun z hz=>by
     have h8:b.cps.toList.length=8:=by simpa [Str.length] using hb
     rw [StrLaws.sliceText_to ⟨by lia,by lia⟩];show (List.take (8 - z - 0).toNat (List.drop 0 b.cps.toList)).toArray.size=_;rw [Of,List.length_take,List.drop_zero,h8]
     lia
   rw [Zjd,Zjd,len c hc,len d hd] at e'
   lia
 . refine nq (a:=(StrLaws.sliceText b none (some p)).cps.toList) (b:=(StrLaws.sliceText b (some (p+1)) (some l)).cps.toList) (x:=ltr ((r+5 * c) % 26)) (y:=ltr ((r+5 * d) % 26)) ?_ ?_ ?_
   . show (_++#[ltr ((r+5 * c) % 26)]++_:Array Nat).toList=_;simp
   . show (_++#[ltr ((r+5 * d) % 26)]++_:Array Nat).toList=_;simp
   . intro e;have q:=Zoa ⟨((r+5 * c) % 26).toNat,by lia⟩ ⟨((r+5 * d) % 26).toNat,by lia⟩ (by
       show ltr (((r+5 * c) % 26).toNat:Int)=ltr (((r+5 * d) % 26).toNat:Int);rw [Int.toNat_of_nonneg (by lia),Int.toNat_of_nonneg (by lia)];exact e)
     have q:=Fin.mk.inj q
     lia
theorem ZlM(hb:b.length=8):(([0,1,2,3,4]:List Int).map (nm b l p r)).Nodup:=by
 refine List.pairwise_map.mpr (List.Pairwise.imp_of_mem (R:=fun x y=>x≠y) (fun {x y} hx hy ne=>ZsL hb ?_ ?_ ne) (by decide))
 . simp at hx;lia
 . simp at hy;lia
theorem Zni (H:Mkr P) (n:Nat) (v:Int) (h:Hd):∃ ns:List Str,ns.length=5/\(∀ x∈ns,Wl 20 x)/\ns.Nodup/\run P (n+1) (O "_law_names") [.int v] h=.ok (.ref h.length) (h++[.lst (ns.map .str)]):=by
 rw [Zd H.names rfl];have u8:Zac 0 8=[0,1,2,3,4,5,6,7].map D.int:=by rfl
 have u5:Zac 0 5=[0,1,2,3,4].map D.int:=by rfl
 have m8:opB .Mod (.int v) (.int 8) h=.ok (.int (v % 8)) h:=ZC (by decide);have d8:opB .FloorDiv (.int v) (.int 8) h=.ok (.int (v / 8)) h:=ZaM (by decide);have mp:opB .Mod (.int (v / 8)) (.int (1+v % 8)) h=.ok (.int (v / 8 % (1+v % 8))) h:=ZC (by lia);have d64:opB .FloorDiv (.int v) (.int 64) h=.ok (.int (v / 64)) h:=ZaM (by decide);obtain ⟨r',b,k',hb,hb8,e1⟩:=Zl1 (U:=⟨P.G,P.GD,run P n,P.L⟩) (h:=h) (a:=some (.int v)) (l:=some (.int (1+v % 8))) (p:=some (.int (v / 8 % (1+v % 8)))) (f:=none) (sg:=none) (wd:=none) [0,1,2,3,4,5,6,7] (v / 64) (O "") 0 none ⟨by decide +kernel,by decide +kernel⟩ (by decide +kernel) (by decide);obtain ⟨k2,sg',wd',e2⟩:=Zjm (U:=⟨P.G,P.GD,run P n,P.L⟩) (h:=h) (a:=some (.int v)) (l:=1+v % 8) (p:=v / 8 % (1+v % 8)) (r:=r') hb [0,1,2,3,4] [] k' none none (by decide) (by decide);refine ⟨[0,1,2,3,4].map (nm b (1+v % 8) (v / 8 % (1+v % 8)) r'),rfl,fun x hx=>?_,ZlM hb8,?_⟩
 . obtain ⟨c,_,rfl⟩:=List.mem_map.mp hx;exact ZsK hb _ _ _ _
 generalize nm b (1+v % 8) (v / 8 % (1+v % 8)) r'=F at e2 ⊢;simp only [Oy,OB] at e2;have s8:ZaL 8=true:=by decide
 have s5:ZaL 5=true:=by decide
 unfold Zl at e1;unfold vn ZqF ZqD ZqH ZqG ZqC ZsV ZqB ZsW ZqE Zl at e2;rw [<- u8] at e1;rw [<- u5] at e2
 try simp at e1
 try simp at e2
 simp [Zce,Zd5,Zs,m8,d8,mp,d64,s8,s5,e1,e2,sizeLine_eq]
end Gn
end
section
set_option tactic.hygienic false
namespace Gn
open PySem L2 IV
noncomputable abbrev Scp:=List (Str×Str)
noncomputable def pairOf(p:Str×Str):D:=.tup [.str p.1,.str p.2]
noncomputable def ZkI(h:Hd)(k:Nat)(sc:Scp):Prop:=h[k]? = some (.lst (sc.map pairOf))
structure KnOk(sc:Scp)(kn:List (Key×D)):Prop where
 key:∀ p∈kn,∃ x,p.1=Sum.inr x/\x∈sc.map (·.1)
 val:∀ p∈kn,∃ s,p.2=D.str s
theorem ZgP(h:p∈putD kn k v):p∈kn\/p=(k,v):=by
 unfold putD at h;split at h
 . obtain ⟨q,hq,e⟩:=List.mem_map.mp h;split at e
   . rename_i ek;right;rw [<- e,ek]
   . left;rw [<- e];exact hq
 . rcases OD.mp h with z|z
   . exact .inl z
   . exact .inr (Ox.mp z)
theorem Zdd:(putD kn k v).length<=kn.length+1:=by
 unfold putD;split<;>simp
theorem Znq(hz:kn.length<1000):Zaf (.ref h.length) (.str x) v (h++[.dic kn])=.ok () (h++[.dic (putD kn (.inr x) v)]):=by
 simp only [Zaf,Zb1,keyOf];rw [if_pos (by rw [sizeLine_eq];lia)];simp
theorem Zjl(hs:ZkI h k sc0):∀ (sc:Scp) (kn:List (Key×D)) (a b:Option D),(∀ p∈sc,p∈sc0)->KnOk sc0 kn->kn.length+sc.length<=500->∃ kn' a' b',KnOk sc0 kn'/\kn'.length<=kn.length+sc.length /\
   ZP [(k,sc0.map pairOf)] (.two 3 4) (xs2 U (.cons (.put (.var 2) (.var 3) (.var 4)) .nil)) (sc.map pairOf) [some (.ref k),w,some (.ref h.length),a,b] (h++[.dic kn])
     = .ok (.nx,[some (.ref k),w,some (.ref h.length),a',b']) (h++[.dic kn'])
 | [],kn,a,b,h1,h2,h3=>by
   refine ⟨kn,a,b,h2,by simp,?_⟩;have:(h++[DO.dic kn])[k]? = some (.lst (sc0.map pairOf)):=by rw [Oe (ZG hs)];exact hs
   simp [ZP,Wk.stays,this]
 | (x,s)::sc,kn,a,b,h1,h2,h3=>by
   simp only [Os] at h3;have st:(h++[DO.dic kn])[k]? = some (.lst (sc0.map pairOf)):=by rw [Oe (ZG hs)];exact hs
   have hk:KnOk sc0 (putD kn (.inr x) (.str s)):=by
     refine ⟨fun p hp=>?_,fun p hp=>?_⟩
     . rcases ZgP hp with z|rfl
       . exact h2.key p z
       . exact ⟨x,rfl,List.mem_map.mpr ⟨(x,s),h1 _ (by simp),rfl⟩⟩
     . rcases ZgP hp with z|rfl
       . exact h2.val p z
       . exact ⟨s,rfl⟩
   have pl:=Zdd (kn:=kn) (k:=.inr x) (v:=.str s);obtain ⟨kn',a',b',q1,q2,e⟩:=Zjl (U:=U) (w:=w) hs sc (putD kn (.inr x) (.str s)) (some (.str x)) (some (.str s)) (fun p hp=>h1 p (by simp [hp])) hk (by lia);refine ⟨kn',a',b',q1,by simp only [Os];lia,?_⟩;rw [Op,ZP];simp only [Wk.stays,st,decide_true,if_true];have e2:=Znq (h:=h) (kn:=kn) (x:=x) (v:=.str s) (by lia);simp [pairOf,e2];simpa [pairOf] using e
theorem find_key(hx:Sum.inr x∈kn.map (·.1)):∃ v,ZM kn (.inr x)=some v/\(Sum.inr x,v)∈kn:=by
 induction kn with
 | nil=>simp at hx
 | cons p r ih =>
   unfold ZM;by_cases e:p.1=Sum.inr x
   . refine ⟨p.2,?_,?_⟩
     . simp [List.find?_cons,e]
     . rw [<- e];exact Oi
   . obtain ⟨v,h1,h2⟩:=ih (by simpa [Ne.symm e] using hx);refine ⟨v,?_,Oh _ h2⟩;simpa [List.find?_cons,e,ZM] using h1
theorem Zjq{sc:Scp}:∀ {kn:List (Key×D)},(∀ p∈kn,∃ x,p.1=Sum.inr x/\x∈sc.map (·.1))->∃ ss,ZcE kn=some ss/\ss.length=kn.length/\(∀ x∈ss,x∈sc.map (·.1)/\Sum.inr x∈kn.map (·.1))
 | [],_=>⟨[],rfl,rfl,by simp⟩
 | (k,v)::r,h=>by
   obtain ⟨x,e,hx⟩:=h (k,v) (by simp);cases e;obtain ⟨ss,e1,e2,e3⟩:=Zjq (kn:=r) fun p hp=>h p (by simp [hp]);refine ⟨x::ss,by rw [ZcE,e1];rfl,by simp [e2],fun y hy=>?_⟩;rcases O2.mp hy with rfl|hy
   . exact ⟨hx,by simp⟩
   . exact ⟨(e3 y hy).1,by simp [(e3 y hy).2]⟩
theorem Zh6{U:Tb}{so:List Str}(hv:∀ p∈kn,∃ s,p.2=D.str s):∀ (xs:List Str) (acc:List Str),(∀ x∈xs,Sum.inr x∈kn.map (·.1))->acc.length+xs.length<=1000->∃ ys,(∀ y∈ys,y∈xs) /\
   ZF [(h.length+1,so.map D.str)] (.nm 0) (tsto U (some (.ex (.cmp .Eq (.ix (.var 2) (.var 0)) (.var 1))))) (ev U (.var 0)) (xs.map D.str) [none,some (.str w),some (.ref h.length)] (acc.map .str) (h++[.dic kn,.lst (so.map .str)])
     = .ok ((acc++ys).map .str) (h++[.dic kn,.lst (so.map .str)])
 | [],acc,h1,h2=>⟨[],by simp,by simp [ZF,Wk.stays]⟩
 | x::xs,acc,h1,h2=>by
   simp only [Os] at h2;obtain ⟨v,e1,hm⟩:=find_key (h1 x (by simp));obtain ⟨s,rfl⟩:∃ s,v=D.str s:=hv _ hm;have ix:Zag U.GD (.ref h.length) (.str x) (h++[.dic kn,.lst (so.map .str)])=.ok (.str s) (h++[.dic kn,.lst (so.map .str)]):=by
     simp [Zag,dicOf,e1]
   have hz:acc.length<sizeLine:=by rw [sizeLine_eq];lia
   by_cases hw:s=w
   . obtain ⟨ys,q1,q2⟩:=Zh6 (U:=U) (h:=h) (w:=w) (so:=so) hv xs (acc++[x]) (fun y hy=>h1 y (by simp [hy])) (by simp;lia);refine ⟨x::ys,fun y hy=>?_,?_⟩
     . rcases O2.mp hy with rfl|hy
       . simp
       . simp [q1 y hy]
     . rw [Op,ZK];simp at q2;simp [Wk.stays,hz,ix,hw,q2]
   . obtain ⟨ys,q1,q2⟩:=Zh6 (U:=U) (h:=h) (w:=w) (so:=so) hv xs acc (fun y hy=>h1 y (by simp [hy])) (by lia);refine ⟨ys,fun y hy=>by simp [q1 y hy],?_⟩;rw [Op,ZK];simp at q2;simp [Wk.stays,hz,ix,hw,q2]
theorem Znh{P:Pg}(H:Mkr P)(n:Nat){sc:Scp}(w:Str)(hs:ZkI h k sc)(hl:sc.length<=60)(hok:∀ p∈sc,PyData.strOk p.1=true):∃ (ys:List Str) (g:Hd),(∀ y∈ys,y∈sc.map (·.1))/\g.length=2 /\
   run P (n+1) (O "_law_there") [.ref k,.str w] h=.ok (.ref (h.length+2)) (h++g++[.lst (ys.map .str)]):=by
 rw [Zd H.there rfl];obtain ⟨kn,a',b',hk,hkl,e1⟩:=Zjl (U:=⟨P.G,P.GD,run P n,P.L⟩) (w:=some (.str w)) hs sc [] none none (fun _ hp=>hp) ⟨by simp,by simp⟩ (by simp;lia);obtain ⟨ss,e2,e3,e4⟩:=Zjq hk.key;have all:ss.all PyData.strOk=true:=by
   rw [OC];intro x hx;obtain ⟨p,hp,rfl⟩:=List.mem_map.mp (e4 x hx).1;exact hok p hp
 have perm:=ZcA ss;obtain ⟨ys,q1,q2⟩:=Zh6 (U:=⟨P.G,P.GD,run P n,P.L⟩) (h:=h) (kn:=kn) (w:=w) (so:=Zbo ss) hk.val (Zbo ss) [] (fun x hx=>(e4 x (perm.mem_iff.mp hx)).2) (by rw [perm.length_eq];simp at hkl ⊢;lia);refine ⟨ys,[.dic kn,.lst ((Zbo ss).map .str)],fun y hy=>(e4 y (perm.mem_iff.mp (q1 y hy))).1,rfl,?_⟩;have hsrt:Zao P.GD .srt [.ref h.length] (h++[.dic kn])=.ok (.ref (h.length+1)) (h++[.dic kn,.lst ((Zbo ss).map .str)]):=by
   show ZdB P.GD [.ref h.length] (h++[.dic kn])=_;simp only [ZdB,dicOf,Zb1,Option.bind_some,e2];rw [if_pos ⟨by simp at hkl;lia,all⟩];simp
 have hw1:Zan (.ref k) (h++[DO.dic []])=some ⟨[(k,sc.map pairOf)],sc.map pairOf⟩:=by
   have:(h++[DO.dic []])[k]? = some (.lst (sc.map pairOf)):=by rw [Oe (ZG hs)];exact hs
   simp [Zan,this]
 have hw2:Zan (.ref (h.length+1)) (h++[DO.dic kn,.lst ((Zbo ss).map .str)])=some ⟨[(h.length+1,(Zbo ss).map .str)],(Zbo ss).map .str⟩:=by
   simp [Zan]
 simp at q2 e1;simp [Zcd,Zd4,Zs,Zb7,Zbj,hw1,e1,hsrt,hw2,ZaJ,q2]
end Gn
end
section
namespace Gn
open PySem L2 IV
structure Ctx(cs:List Int)(ns:List Str)(h:Hd)(i j m k:Nat)(sc:Scp)(a b:Int):Prop where
 st:St3 h i j cs a b
 nm:h[m]? = some (.lst (ns.map .str))
 n5:ns.length=5
 nok:∀ x∈ns,Wl 20 x
 nd:ns.Nodup
 sca:ZkI h k sc
 sco:∀ p∈sc,Wl 20 p.1
 im:i≠m
 ik:i≠k
 ab:0<=a
variable {P:Pg}{cs:List Int}{ns:List Str}{h h':Hd}{i j m k:Nat}{sc:Scp}{a b a' b':Int}
theorem Ctx.up(c:Ctx cs ns h i j m k sc a b)(u:Up i h h')(st:St3 h' i j cs a' b')(ab:0<=a'):Ctx cs ns h' i j m k sc a' b' :=
 ⟨st,u.at c.nm (Ne.symm c.im),c.n5,c.nok,c.nd,u.at c.sca (Ne.symm c.ik),c.sco,c.im,c.ik,ab⟩
theorem St3.app(s:St3 h i j cs a b):St3 (h++g) i j cs a b :=
 ⟨by rw [Oe (ZG s.1)];exact s.1,by rw [Oe (ZG s.2.1)];exact s.2.1,s.2.2⟩
theorem Ctx.app(c:Ctx cs ns h i j m k sc a b):Ctx cs ns (h++g) i j m k sc a b:=c.up Up.app c.st.app c.ab
theorem Ctx.name(c:Ctx cs ns h i j m k sc a b)(v:Int)(h0:0<=v)(h5:v<5):∃ x,Zag GD (.ref m) (.int v) h=.ok (.str x) h/\Wl 20 x/\ns[v.toNat]? = some x:=by
 obtain ⟨q,rfl⟩:∃ q:Nat,v=q:=⟨v.toNat,by lia⟩
 have hq:q<ns.length:=by have:=c.n5;lia
 refine ⟨ns[q],?_,c.nok _ (List.getElem_mem hq),Og hq⟩;rw [ZR c.nm,IV.ZbP,On,Og hq];rfl
noncomputable def A(r:Nat):Int:=4 ^ (r+1)
theorem ZhD(r:Nat):0<A r:=Int.pow_pos (by decide)
theorem Zrw(r:Nat):A (r+1)=4 * A r:=by unfold A;rw [Int.pow_succ];lia
noncomputable def pz(x:Int):Int:=max x 0
inductive Made(cs:List Int)(h:Hd)(i j:Nat)(sc:Scp)(a b ex mx:Int)(dm:Nat)(r:R D):Prop
 | mk (t:T) (h':Hd) (a' b':Int) (e:r=.ok (T.d t) h') (u:Up i h h') (s:St3 h' i j cs a' b') (l1:a<=a') (l2:a'<=a+mx) (c:Cl (sc.map (·.1)) t) (p:nb t<=dep t/\dep t<=dm) (z:fw t<=3 * (pz b - pz b')+ex)
noncomputable def ZjW(P:Pg)(r n0:Nat):Prop:=∀ (n:Nat) (cs:List Int) (ns:List Str) (h:Hd) (i j m k:Nat) (sc:Scp) (a b:Int) (w:Str) (room:Int),room<=r->Ctx cs ns h i j m k sc a b->sc.length+2 * r<=50->a+A r<2 ^ 50 ->
 Made cs h i j sc a b 0 (A r) (3 * r+3) (run P (n+n0) (O "_law_any") [.str w,.ref k,.ref i,.ref m,.int room] h)
theorem ZmJ(H:Mkr P)(n:Nat)(c:Ctx cs ns h i j m k sc a b)(w:Str)(room:Int)(hl:sc.length<=50)(ha:a<2 ^ 50)(T1 T2 T3:Option D):∃ (v:Int) (w':Str) (ys:List Str) (h':Hd) (l:Nat),
   xs2 ⟨P.G,P.GD,run P (n+2),P.L⟩ (.cons ZaC (.cons Zbe (.cons ZaB (.cons Zbd (.cons ZaA .nil))))) [some (.str w),some (.ref k),some (.ref i),some (.ref m),some (.int room),T1,T2,T3,none,none] h
     = .ok (.nx,[some (.str w'),some (.ref k),some (.ref i),some (.ref m),some (.int room),some (.int v),some (.int (v / 87)),some (.ref l),none,none]) h'/\Up i h h'/\Ctx cs ns h' i j m k sc (a+1) (b - 1)/\h'[l]? = some (.lst (ys.map .str))/\(∀ y∈ys,y∈sc.map (·.1)):=by
 have i1:=c.st.1;have lt:=ZG i1;have p1:Zaf (.ref i) (.int 2) (.int (b - 1)) h=.ok () (h.set i (.lst [.ref j,.int a,.int (b - 1)])):=by
   simp only [Zaf,i1];rfl
 have s1:St3 (h.set i (.lst [.ref j,.int a,.int (b - 1)])) i j cs a (b - 1):=⟨by rw [Ol lt],by rw [Oc c.st.2.2];exact c.st.2.1,c.st.2.2⟩
 have c1:=c.up Up.set s1 c.ab;obtain ⟨v,e2,_⟩:=ZhO H n s1 ⟨c.ab,ha⟩;have lt1:i<(h.set i (.lst [.ref j,.int a,.int (b - 1)])).length:=by simpa using lt
 have s2:St3 ((h.set i (.lst [.ref j,.int a,.int (b - 1)])).set i (.lst [.ref j,.int (a+1),.int (b - 1)])) i j cs (a+1) (b - 1):=⟨by rw [Ol lt1],by rw [Oc c.st.2.2];exact s1.2.1,c.st.2.2⟩
 have c2:=c1.up Up.set s2 (by have:=c.ab;lia);generalize hh2:(h.set i (.lst [.ref j,.int a,.int (b - 1)])).set i (.lst [.ref j,.int (a+1),.int (b - 1)])=h2 at e2 s2 c2;have u2:Up i h h2:=hh2 ▸ Up.set.trans Up.set;have m29:∀ h,opB .Mod (.int v) (.int 29) h=.ok (.int (v % 29)) h:=fun h=>ZC (by decide);have d29:∀ h,opB .FloorDiv (.int v) (.int 29) h=.ok (.int (v / 29)) h:=fun h=>ZaM (by decide);have m3:∀ h,opB .Mod (.int (v / 29)) (.int 3) h=.ok (.int (v / 29 % 3)) h:=fun h=>ZC (by decide);have d87:∀ h,opB .FloorDiv (.int v) (.int 87) h=.ok (.int (v / 87)) h:=fun h=>ZaM (by decide);have hix:Zag P.GD (.ref i) (.int 2) h=.ok (.int b) h:=by rw [ZR i1];simp
 have step3:∃ (w':Str) (h3:Hd),xs1 ⟨P.G,P.GD,run P (n+2),P.L⟩ ZaB [some (.str w),some (.ref k),some (.ref i),some (.ref m),some (.int room),some (.int v),T2,T3,none,none] h2
     = .ok (.nx,[some (.str w'),some (.ref k),some (.ref i),some (.ref m),some (.int room),some (.int v),T2,T3,none,none]) h3/\Up i h2 h3/\Ctx cs ns h3 i j m k sc (a+1) (b - 1):=by
   have tt:tst (P.tbl (n+2)) (.ex (.cmp .Eq (.bin .Mod (.var 5) (.cst (.int 29))) (.cst (.int 0)))) [some (.str w),some (.ref k),some (.ref i),some (.ref m),some (.int room),some (.int v),T2,T3,none,none] h2=.ok (decide (v % 29=0)) h2:=ZdR ((Zf rfl rfl).trans (m29 h2)) rfl;by_cases hv:v % 29=0
   . have go:∀ w':Str,atI [D.str (O "n"),.str (O "f"),.str (O "g")] (v / 29 % 3)=some (D.str w')->xs1 (P.tbl (n+2)) ZaB [some (.str w),some (.ref k),some (.ref i),some (.ref m),some (.int room),some (.int v),T2,T3,none,none] h2
         = .ok (.nx,[some (.str w'),some (.ref k),some (.ref i),some (.ref m),some (.int room),some (.int v),T2,T3,none,none]) (h2++[.lst [.str (O "n"),.str (O "f"),.str (O "g")]]):=fun w' e =>
       (Zu (Zw tt (decide_eq_true hv))).trans ((Za (Zq (Zhu e rfl ((Zf (x:=.int (v / 29)) ((Zf rfl rfl).trans (d29 _)) rfl).trans (m3 _)) (by decide)))).trans rfl)
     have q:v / 29 % 3=0\/v / 29 % 3=1\/v / 29 % 3=2:=by lia
     rcases q with q|q|q
     . exact ⟨O "n",_,go _ (by rw [q];rfl),Up.app,c2.app⟩
     . exact ⟨O "f",_,go _ (by rw [q];rfl),Up.app,c2.app⟩
     . exact ⟨O "g",_,go _ (by rw [q];rfl),Up.app,c2.app⟩
   . exact ⟨w,h2,(Zx (Zw tt (decide_eq_false hv))).trans rfl,Up.refl,c2⟩
 obtain ⟨w',h3,e3,u3,c3⟩:=step3;obtain ⟨ys,g,hy,hg,e5⟩:=Znh H (n+1) w' c3.sca (by lia) (fun p hp=>(c3.sco p hp).1);refine ⟨v,w',ys,h3++g++[.lst (ys.map .str)],h3.length+2,?_,(u2.trans u3).trans (Up.app.trans Up.app),c3.app.app,?_,hy⟩
 . have x1:xs1 ⟨P.G,P.GD,run P (n+2),P.L⟩ ZaC [some (.str w),some (.ref k),some (.ref i),some (.ref m),some (.int room),T1,T2,T3,none,none] h=.ok (.nx,[some (.str w),some (.ref k),some (.ref i),some (.ref m),some (.int room),T1,T2,T3,none,none]) (h.set i (.lst [.ref j,.int a,.int (b - 1)])):=by
     have q:ev (P.tbl (n+2)) (.bin .Sub (.ix (.var 2) (.cst (.int 2))) (.cst (.int 1))) [some (.str w),some (.ref k),some (.ref i),some (.ref m),some (.int room),T1,T2,T3,none,none] h=.ok (.int (b - 1)) h:=(Zf (x:=.int b) ((Zo rfl rfl).trans hix) rfl).trans rfl;rw [ZaC,ZfN];show (ev (P.tbl (n+2)) (.bin .Sub (.ix (.var 2) (.cst (.int 2))) (.cst (.int 1))) _ h).bnd _=_;rw [q];show (Zaf (.ref i) (.int 2) (.int (b - 1)) h).bnd _=_;rw [p1];rfl
   have x2:xs1 ⟨P.G,P.GD,run P (n+2),P.L⟩ Zbe [some (.str w),some (.ref k),some (.ref i),some (.ref m),some (.int room),T1,T2,T3,none,none] (h.set i (.lst [.ref j,.int a,.int (b - 1)]))=.ok (.nx,[some (.str w),some (.ref k),some (.ref i),some (.ref m),some (.int room),some (.int v),T2,T3,none,none]) h2:=by
     exact Zq (Zt e2 rfl)
   have x4:∀ q,xs1 ⟨P.G,P.GD,run P (n+2),P.L⟩ Zbd [some (.str w'),some (.ref k),some (.ref i),some (.ref m),some (.int room),some (.int v),q,T3,none,none] h3=.ok (.nx,[some (.str w'),some (.ref k),some (.ref i),some (.ref m),some (.int room),some (.int v),some (.int (v / 87)),T3,none,none]) h3:=by
     exact fun q=>Zq ((Zf rfl rfl).trans (d87 _))
   have x5:xs1 ⟨P.G,P.GD,run P (n+2),P.L⟩ ZaA [some (.str w'),some (.ref k),some (.ref i),some (.ref m),some (.int room),some (.int v),some (.int (v / 87)),T3,none,none] h3=.ok (.nx,[some (.str w'),some (.ref k),some (.ref i),some (.ref m),some (.int room),some (.int v),some (.int (v / 87)),some (.ref (h3.length+2)),none,none]) (h3++g++[.lst (ys.map .str)]):=by
     simp only [ZaA,ZfM,Zgo,Ze3,Zjx,Zmk,O0,OJ,Option.join_some,ofO_some,Zm,bind_ok,e5];rfl
   exact (Za x1).trans ((Za x2).trans ((Za e3).trans ((Za (x4 _)).trans ((Za x5).trans rfl))))
 . have:h3.length+2=(h3++g).length:=by simp [hg]
   rw [this];simp
end Gn
end
section
set_option tactic.hygienic false
namespace Gn
open PySem L2 IV
variable {P:Pg}{cs:List Int}{ns:List Str}{h h':Hd}{i j m k:Nat}{sc:Scp}{a b a' b':Int}
theorem Cl.mono{sc sc':List Str}:∀ {t:T},(∀ x∈sc,x∈sc')->Cl sc t->Cl sc' t
 | .num n,_,c=>c
 | .name x,s,c=>s x c
 | .fn x e,s,c=>⟨Cl.mono (t:=e) (fun y hy=>by
     rcases O2.mp hy with z|z
     . rw [z];exact Oi
     . exact Oh _ (s y z)) c.1,c.2⟩
 | .rcc f x e,s,c=>⟨Cl.mono (t:=e) (fun y hy=>by
     rcases O2.mp hy with z|z
     . rw [z];exact Oi
     . rcases O2.mp z with q|q
       . rw [q];exact Oh _ Oi
       . exact Oh _ (Oh _ (s y q))) c.1,c.2⟩
 | .call f e,s,c=>⟨Cl.mono s c.1,Cl.mono s c.2⟩
 | .iff p q r,s,c=>⟨Cl.mono s c.1,Cl.mono s c.2.1,Cl.mono s c.2.2⟩
 | .op w p q,s,c=>⟨Cl.mono s c.1,Cl.mono s c.2⟩
noncomputable def ZmV(z:Int):Wd:=if z=0 then .add else if z=1 then .sub else if z=2 then .mul else .lt
theorem wd4 (z:Int) (h0:0<=z) (h4:z<4):atI [D.str (O "+"),.str (O "-"),.str (O "*"),.str (O "<")] z=some (.str (ZmV z).s):=by
 have:z=0\/z=1\/z=2\/z=3:=by lia
 rcases this with rfl|rfl|rfl|rfl<;>simp [ZmV,Wd.s]
noncomputable def me(rest:Int)(k i m:Nat)(room:Int)(a b c d:Option D):Ev:=[some (.int rest),some (.ref k),some (.ref i),some (.ref m),some (.int room),a,b,c,d]
theorem Zqv(H:Mkr P)(ih:ZjW P r n0)(hn:1<=n0)(n:Nat)(c:Ctx cs ns h i j m k sc a b)(rest:Int)(room:Int)(hr:room<=r)(hl:sc.length+2 * r<=50)(ha:a+2 * A r<2 ^ 50) :
   Made cs h i j sc a b 0 (2 * A r) (3 * r+4) (run P (n+n0+1) (O "_law_number") [.int rest,.ref k,.ref i,.ref m,.int room] h):=by
 have Ap:=ZhD r;rw [Zef H.number rfl];show Made cs h i j sc a b 0 (2 * A r) (3 * r+4) (Zk (xs2 (P.tbl (n+n0)) ZbM (me rest k i m room none none none none) h));have x1:∀ h,xs1 (P.tbl (n+n0)) Zct (me rest k i m room none none none none) h=.ok (.nx,me rest k i m room (some (.int (rest % 6))) none none none) h:=fun h=>rfl;rw [ZbM,Za (x1 h)];obtain ⟨n1,e1⟩:∃ n1,n+n0=n1+1:=⟨n+n0 - 1,by lia⟩
 by_cases h0:rest % 6=0
 . obtain ⟨t,g,e2,ct,pt⟩:=ZfW H n1 (O "n") (rest / 6) h (sc.map (·.1));refine ⟨t,h++g,a,b,?_,Up.app,c.st.app,by lia,by lia,ct,by lia,by lia⟩;rw [<- e1] at e2;have x2:xs1 (P.tbl (n+n0)) ZaX (me rest k i m room (some (.int (rest % 6))) none none none) h=.ok (.rt t.d,me rest k i m room (some (.int (rest % 6))) none none none) (h++g):=(Zu (Zw (ZdR rfl rfl) (decide_eq_true h0))).trans (Zc (ZA e2 rfl rfl));rw [Zc x2];rfl
 . have x2:xs1 (P.tbl (n+n0)) ZaX (me rest k i m room (some (.int (rest % 6))) none none none) h=.ok (.nx,me rest k i m room (some (.int (rest % 6))) none none none) h:=(Zx (Zw (ZdR rfl rfl) (decide_eq_false h0))).trans rfl;rw [Za x2];have lt:tst (P.tbl (n+n0)) (.ex (.cmp .Lt (.var 5) (.cst (.int 3)))) (me rest k i m room (some (.int (rest % 6))) none none none) h=.ok (decide (rest % 6<3)) h:=rfl;by_cases h3:rest % 6<3
   . obtain ⟨t1,g1,a1,b1,e2,u1,s1,l1,l2,c1,p1,z1⟩:=ih n cs ns h i j m k sc a b (O "n") room hr c hl (by lia);have cc:=c.up u1 s1 (by have:=c.ab;lia);obtain ⟨t2,g2,a2,b2,e3,u2,s2,l3,l4,c2,p2,z2⟩:=ih n cs ns (g1++[.lst [.str (O "+"),.str (O "-"),.str (O "*"),.str (O "<")]]) i j m k sc a1 b1 (O "n") room hr cc.app hl (by lia);refine ⟨.op (ZmV (rest / 6 % 4)) t1 t2,g2,a2,b2,?_,u1.trans (Up.app.trans u2),s2,by lia,by lia,⟨c1,c2⟩,by simp only [dep,nb];lia,by simp only [fw];clear ih hl ha;lia⟩;have w4:=wd4 (rest / 6 % 4) (by lia) (by lia);have x3:xs1 (P.tbl (n+n0)) ZaW (me rest k i m room (some (.int (rest % 6))) none none none) h=.ok (.rt (T.op (ZmV (rest / 6 % 4)) t1 t2).d,me rest k i m room (some (.int (rest % 6))) (some t1.d) none none) g2:=by
       refine (Zu (Zw lt (decide_eq_true h3))).trans ?_;refine (Za (ρ1:=me rest k i m room (some (.int (rest % 6))) (some t1.d) none none) (h1:=g1) (ZA e2 rfl rfl)).trans ?_;exact Zc (Zz (ZaO (Zb (Zhu w4 rfl rfl (by simp)) (Zb rfl (Zb (Zt e3 rfl) rfl))) (by simp)))
     rw [Zc x3];rfl
   . have w3:∃ ws,(ws=O "f" \/ ws=O "g")/\atI [D.str (O "f"),.str (O "f"),.str (O "g")] (rest % 6 - 3)=some (.str ws):=by
       have:rest % 6 - 3=0\/rest % 6 - 3=1\/rest % 6 - 3=2:=by lia
       rcases this with q|q|q<;>rw [q]<;>simp
     obtain ⟨ws,hws,w3⟩:=w3;obtain ⟨t1,g1,a1,b1,e2,u1,s1,l1,l2,c1,p1,z1⟩:=ih n cs ns (h++[.lst [.str (O "f"),.str (O "f"),.str (O "g")]]) i j m k sc a b ws room hr c.app hl (by lia);have cc:=c.app.up u1 s1 (by have:=c.ab;lia);have dd:∃ ws',Zag P.GD (.ref g1.length) (.str ws) (g1++[.dic [(.inr (O "f"),.str (O "n")),(.inr (O "g"),.str (O "f"))]])=.ok (.str ws') (g1++[.dic [(.inr (O "f"),.str (O "n")),(.inr (O "g"),.str (O "f"))]]):=by
       rcases hws with rfl|rfl
       . exact ⟨O "n",by simp [Zag,dicOf,ZM]⟩
       . exact ⟨O "f",by simp [Zag,dicOf,ZM]⟩
     obtain ⟨ws',dd⟩:=dd;obtain ⟨t2,g2,a2,b2,e3,u2,s2,l3,l4,c2,p2,z2⟩:=ih n cs ns (g1++[.dic [(.inr (O "f"),.str (O "n")),(.inr (O "g"),.str (O "f"))]]) i j m k sc a1 b1 ws' room hr cc.app hl (by lia);refine ⟨.call t1 t2,g2,a2,b2,?_,Up.app.trans (u1.trans (Up.app.trans u2)),s2,by lia,by lia,⟨c1,c2⟩,by simp only [dep,nb];lia,by simp only [fw];clear ih hl ha;lia⟩;have x3:xs1 (P.tbl (n+n0)) ZaW (me rest k i m room (some (.int (rest % 6))) none none none) h=.ok (.nx,me rest k i m room (some (.int (rest % 6))) none none none) h:=(Zx (Zw lt (decide_eq_false h3))).trans rfl;have x4:xs1 (P.tbl (n+n0)) Zcs (me rest k i m room (some (.int (rest % 6))) none none none) h=.ok (.nx,me rest k i m room (some (.int (rest % 6))) none (some (.str ws)) none) (h++[.lst [.str (O "f"),.str (O "f"),.str (O "g")]]):=Zq (i:=7) (Zhu w3 rfl rfl (by simp));have x5:xs1 (P.tbl (n+n0)) Zcr (me rest k i m room (some (.int (rest % 6))) none (some (.str ws)) none) (h++[.lst [.str (O "f"),.str (O "f"),.str (O "g")]])=.ok (.nx,me rest k i m room (some (.int (rest % 6))) none (some (.str ws)) (some t1.d)) g1:=ZA e2 rfl rfl;have p6:ev (P.tbl (n+n0)) (.ix (.dictl (.cons (.cst (.str (O "f"))) (.cons (.cst (.str (O "n"))) (.cons (.cst (.str (O "g"))) (.cons (.cst (.str (O "f"))) .nil))))) (.var 7)) (me rest k i m room (some (.int (rest % 6))) none (some (.str ws)) (some t1.d)) g1=.ok (.str ws') (g1++[.dic [(.inr (O "f"),.str (O "n")),(.inr (O "g"),.str (O "f"))]]):=dd;have x6:xs1 (P.tbl (n+n0)) Zcq (me rest k i m room (some (.int (rest % 6))) none (some (.str ws)) (some t1.d)) g1=.ok (.rt (T.call t1 t2).d,me rest k i m room (some (.int (rest % 6))) none (some (.str ws)) (some t1.d)) g2:=Zz (ZaO (Zb rfl (Zb rfl (Zb ((Zrb (Zb p6 rfl)).trans e3) rfl))) (by simp));rw [Za x3,Za x4,Za x5,Zc x6];rfl
end Gn
end
section
set_option tactic.hygienic false
namespace Gn
open PySem L2 IV
variable {P:Pg}{cs:List Int}{ns:List Str}{h h':Hd}{i j m k:Nat}{sc:Scp}{a b a' b':Int}
theorem Ctx.wider(c:Ctx cs ns h i j m k sc a b)(more:Scp)(hm:∀ p∈more,Wl 20 p.1):Ctx cs ns (h++[.lst (more.map pairOf),.lst ((sc++more).map pairOf)]) i j m (h.length+1) (sc++more) a b:=by
 have c1:=c.app (g:=[.lst (more.map pairOf),.lst ((sc++more).map pairOf)]);refine ⟨c1.st,c1.nm,c1.n5,c1.nok,c1.nd,by unfold ZkI;simp,fun p hp=>?_,c1.im,?_,c1.ab⟩
 . rcases OD.mp hp with z|z
   . exact c.sco p z
   . exact hm p z
 . have:=ZG c.st.1
   lia
theorem Zgs(c:Ctx cs ns h i j m k sc a b)(more:Scp)(hz:sc.length+more.length<=100):opB .Add (.ref k) (.ref h.length) (h++[.lst (more.map pairOf)])=.ok (.ref (h.length+1)) (h++[.lst (more.map pairOf),.lst ((sc++more).map pairOf)]):=by
 have hk:(h++[DO.lst (more.map pairOf)])[k]? = some (.lst (sc.map pairOf)):=by rw [Oe (ZG c.sca)];exact c.sca
 simp only [opB,ZmO,hk,Zb1];rw [if_pos (by simp;rw [sizeLine_eq];lia)];simp
theorem Zr6{sc:Scp}{x s:Str}:∀ y∈(sc++[(x,s)]).map (·.1),y∈x::sc.map (·.1):=fun y hy=>by
 rw [List.map_append] at hy;rcases OD.mp hy with z|z
 . exact Oh _ z
 . have:y=x:=by simpa using z
   rw [this];exact Oi
theorem unlike{ns:List Str}(n5:ns.length=5)(nd:ns.Nodup){x f:Str}{rest:Int}(ax:ns[(rest % 5).toNat]? = some x)(af:ns[((rest % 5+1+rest / 15 % 4) % 5).toNat]? = some f):f≠x:=fun e=>by
 have q:=(List.getElem?_inj (i:=(rest % 5).toNat) (j:=((rest % 5+1+rest / 15 % 4) % 5).toNat) (by rw [n5];lia) nd).mp (by rw [ax,af,e])
 lia
noncomputable def fe(w:Str)(rest:Int)(k i m:Nat)(room:Int)(a b c d:Option D):Ev:=[some (.str w),some (.int rest),some (.ref k),some (.ref i),some (.ref m),some (.int room),a,b,c,d]
theorem Zte {N:Nat}{s:Str}{w:Str}{rest:Int}{room:Int}{x:Str}{t1:T}{g1 h1:Hd} (hc:opB .Add (.ref k) (.ref h.length) (h++[.lst ([(x,s)].map pairOf)])=.ok (.ref (h.length+1)) h1) (e1:run P N (O "_law_any") [.str (O "n"),.ref (h.length+1),.ref i,.ref m,.int room] h1=.ok t1.d g1):ev (P.tbl N) (.tupl (.cons (.cst (.str (O "fn"))) (.cons (.var 6) (.cons (.call (O "_law_any") (.cons (.cst (.str (O "n"))) (.cons (.bin .Add (.var 2) (.lstl (.cons (.tupl (.cons (.var 6) (.cons (.cst (.str s)) .nil))) .nil))) (.cons (.var 3) (.cons (.var 4) (.cons (.var 5) .nil)))))) .nil)))) (fe w rest k i m room (some (.str x)) none none none) h=.ok (T.fn x t1).d g1:=by
 have b:ev (P.tbl N) (.bin .Add (.var 2) (.lstl (.cons (.tupl (.cons (.var 6) (.cons (.cst (.str s)) .nil))) .nil))) (fe w rest k i m room (some (.str x)) none none none) h=.ok (.ref (h.length+1)) h1:=(Zf (x:=.ref k) (y:=.ref h.length) (h1:=h) (h2:=h++[.lst ([(x,s)].map pairOf)]) rfl rfl).trans hc;exact ZaO (Zb rfl (Zb rfl (Zb ((Zrb (Zb rfl (Zb b rfl))).trans e1) rfl))) (by simp)
theorem Zq0(H:Mkr P){r n0:Nat}(ih:ZjW P r n0)(n:Nat)(c:Ctx cs ns h i j m k sc a b)(w:Str)(rest:Int)(room:Int)(hr:room<=r)(hl:sc.length+2+2 * r<=50)(ha:a+2 * A r<2 ^ 50) :
   Made cs h i j sc a b 3 (2 * A r) (3 * r+6) (run P (n+n0+1) (O "_law_function") [.str w,.int rest,.ref k,.ref i,.ref m,.int room] h):=by
 have Ap:=ZhD r;have hab:=c.ab;rw [Zef H.function rfl];obtain ⟨x,ex,wx,ax⟩:=c.name (GD:=P.GD) (rest % 5) (by clear ih ha hab hl hr;lia) (by clear ih ha hab hl hr;lia);show Made cs h i j sc a b 3 (2 * A r) (3 * r+6) (Zk (xs2 (P.tbl (n+n0)) (.cons Zas (.cons Z0 (.cons ZZ (.cons Zar (.cons Zaq (.cons Zap (.cons ZY (.cons ZX .nil)))))))) (fe w rest k i m room none none none none) h));have x1:xs1 (P.tbl (n+n0)) Zas (fe w rest k i m room none none none none) h=.ok (.nx,fe w rest k i m room (some (.str x)) none none none) h:=by
   exact Zq (i:=6) ex
 rw [Za x1];by_cases hg:w=O "g"
 . have hc:=Zgs c [(x,O "f")] (by simp;lia);obtain ⟨t1,g1,a1,b1,e1,u1,s1,l1,l2,c1,p1,z1⟩:=ih n cs ns _ i j m (h.length+1) (sc++[(x,O "f")]) a b (O "n") room hr (c.wider [(x,O "f")] (by simp [wx])) (by simp;lia) (by lia);refine ⟨.fn x t1,g1,a1,b1,?_,Up.app.trans u1,s1,l1,by lia,⟨Cl.mono (t:=t1) Zr6 c1,wx⟩,by simp only [dep,nb];lia,by simp only [fw];clear ih hl ha;lia⟩;have e:xs1 (P.tbl (n+n0)) Z0 (fe w rest k i m room (some (.str x)) none none none) h=.ok (.rt (T.fn x t1).d,fe w rest k i m room (some (.str x)) none none none) g1:=by
     subst hg;exact (Zu rfl).trans (Zc (Zz (Zte hc e1)))
   rw [Zc e];rfl
 have x2:xs1 (P.tbl (n+n0)) Z0 (fe w rest k i m room (some (.str x)) none none none) h=.ok (.nx,fe w rest k i m room (some (.str x)) none none none) h:=by
   exact (Zx (Zw (ZbH rfl rfl) (decide_eq_false hg))).trans rfl
 rw [Za x2];by_cases h3:rest / 5 % 3=0
 . have hc:=Zgs c [(x,O "n")] (by simp;lia);obtain ⟨t1,g1,a1,b1,e1,u1,s1,l1,l2,c1,p1,z1⟩:=ih n cs ns _ i j m (h.length+1) (sc++[(x,O "n")]) a b (O "n") room hr (c.wider [(x,O "n")] (by simp [wx])) (by simp;lia) (by lia);refine ⟨.fn x t1,g1,a1,b1,?_,Up.app.trans u1,s1,l1,by lia,⟨Cl.mono (t:=t1) Zr6 c1,wx⟩,by simp only [dep,nb];lia,by simp only [fw];clear ih hl ha;lia⟩;have e:xs1 (P.tbl (n+n0)) ZZ (fe w rest k i m room (some (.str x)) none none none) h=.ok (.rt (T.fn x t1).d,fe w rest k i m room (some (.str x)) none none none) g1:=(Zu (Zw (ZdR (x:=rest / 5 % 3) rfl rfl) (decide_eq_true h3))).trans (Zc (Zz (Zte hc e1)));rw [Zc e];rfl
 have x3:xs1 (P.tbl (n+n0)) ZZ (fe w rest k i m room (some (.str x)) none none none) h=.ok (.nx,fe w rest k i m room (some (.str x)) none none none) h:=by
   exact (Zx (Zw (ZdR (x:=rest / 5 % 3) rfl rfl) (decide_eq_false h3))).trans rfl
 obtain ⟨f,ef,wf,af⟩:=c.name (GD:=P.GD) ((rest % 5+1+rest / 15 % 4) % 5) (by clear ih ha hab hl hr;lia) (by clear ih ha hab hl hr;lia);have nfx:f≠x:=unlike c.n5 c.nd ax af;have x4:xs1 (P.tbl (n+n0)) Zar (fe w rest k i m room (some (.str x)) none none none) h=.ok (.nx,fe w rest k i m room (some (.str x)) (some (.str f)) none none) h:=by
   exact Zq (i:=7) ef
 have hc:=Zgs c [(f,O "f"),(x,O "n")] (by simp;lia);have cw:=c.wider [(f,O "f"),(x,O "n")] (by simp [wx,wf]);have sub:∀ y∈(sc++[(f,O "f"),(x,O "n")]).map (·.1),y∈x::f::sc.map (·.1):=fun y hy=>by simp at hy ⊢;rcases hy with z|z|z<;>simp [z]
 generalize hh1:(h++[DO.lst ([(f,O "f"),(x,O "n")].map pairOf),.lst ((sc++[(f,O "f"),(x,O "n")]).map pairOf)])=h1 at hc cw;have ug:Up i h h1:=by rw [<- hh1];exact Up.app
 have hl1:h1.length=h.length+2:=by rw [<- hh1];simp
 have x5:xs1 (P.tbl (n+n0)) Zaq (fe w rest k i m room (some (.str x)) (some (.str f)) none none) h=.ok (.nx,fe w rest k i m room (some (.str x)) (some (.str f)) (some (.ref (h.length+1))) none) h1:=by
   exact Zq (i:=8) ((Zf (x:=.ref k) (y:=.ref h.length) (h1:=h) (h2:=h++[.lst ([(f,O "f"),(x,O "n")].map pairOf)]) rfl rfl).trans hc)
 have x6:xs1 (P.tbl (n+n0)) Zap (fe w rest k i m room (some (.str x)) (some (.str f)) (some (.ref (h.length+1))) none) h1=.ok (.nx,fe w rest k i m room (some (.str x)) (some (.str f)) (some (.ref (h.length+1))) (some (T.call (.name f) (.op .sub (.name x) (.num 1))).d)) h1:=by
   exact rfl
 rw [Za x3,Za x4,Za x5,Za x6];generalize hsc:sc++[(f,O "f"),(x,O "n")]=sc1 at cw sub hh1;have hsl:sc1.length=sc.length+2:=by rw [<- hsc];simp
 clear x1 x2 x3 x4 x5 x6 hc hh1 hsc ex ef;have last:∀ (t1:T) (g1:Hd) (a1 b1:Int),Up i h1 g1->St3 g1 i j cs a1 b1->a<=a1->a1<=a+A r->Cl (x::f::sc.map (·.1)) t1->nb t1<=dep t1/\dep t1<=3 * r+4->fw t1<=3 * (pz b - pz b1) ->
     xs1 (P.tbl (n+n0)) ZY (fe w rest k i m room (some (.str x)) (some (.str f)) (some (.ref (h.length+1))) (some (T.call (.name f) (.op .sub (.name x) (.num 1))).d)) h1=.ok (.nx,fe w rest k i m room (some (.str x)) (some (.str f)) (some (.ref (h.length+1))) (some t1.d)) g1 ->
     Made cs h i j sc a b 3 (2 * A r) (3 * r+6) (Zk (xs2 (P.tbl (n+n0)) (.cons ZY (.cons ZX .nil)) (fe w rest k i m room (some (.str x)) (some (.str f)) (some (.ref (h.length+1))) (some (T.call (.name f) (.op .sub (.name x) (.num 1))).d)) h1)):=by
   intro t1 g1 a1 b1 u1 s1 l1 l2 c1 p1 z1 x7;rw [Za x7];obtain ⟨t2,g2,a2,b2,e2,u2,s2,l3,l4,c2,p2,z2⟩:=ih n cs ns g1 i j m (h.length+1) sc1 a1 b1 (O "n") (room - 1) (by clear ha;lia) (cw.up u1 s1 (by clear hl ha hr;lia)) (by clear ha hr;lia) (by clear hl hr;lia);refine ⟨.rcc f x (.iff (.name x) t1 t2),g2,a2,b2,?_,ug.trans (u1.trans u2),s2,Int.le_trans l1 l3,by clear hl hr ha;lia,⟨⟨Oi,c1,Cl.mono sub c2⟩,nfx,wf,wx⟩,by simp only [dep,nb];clear hl hr ha;lia,by simp only [fw];clear hl hr ha ih;lia⟩;have e:xs1 (P.tbl (n+n0)) ZX (fe w rest k i m room (some (.str x)) (some (.str f)) (some (.ref (h.length+1))) (some t1.d)) g1=.ok (.rt (T.rcc f x (.iff (.name x) t1 t2)).d,fe w rest k i m room (some (.str x)) (some (.str f)) (some (.ref (h.length+1))) (some t1.d)) g2:=by
     exact Zz (ZaO (Zb rfl (Zb rfl (Zb rfl (Zb (ZaO (Zb rfl (Zb rfl (Zb rfl (Zb (Zt e2 rfl) rfl)))) (by simp)) rfl)))) (by simp))
   rw [Zc e];rfl
 by_cases q0:rest / 60 % 3=0
 . obtain ⟨t1,g1,a1,b1,e1,u1,s1,l1,l2,c1,p1,z1⟩:=ih n cs ns h1 i j m (h.length+1) sc1 a b (O "n") room hr cw (by clear ha hr;lia) (by clear hl hr;lia);refine last t1 g1 a1 b1 u1 s1 l1 l2 (Cl.mono sub c1) (by lia) (by lia) ?_;exact (Zu (Zw (ZdR (x:=rest / 60 % 3) rfl rfl) (decide_eq_true q0))).trans (Za (ZA e1 rfl rfl))
 . by_cases q1:rest / 60 % 3=1
   . have w2:∃ wd:Wd,atI [D.str (O "+"),.str (O "*")] (rest / 180 % 2)=some (.str wd.s):=by
       have:rest / 180 % 2=0\/rest / 180 % 2=1:=by clear ih ha hl hr q0 q1;lia
       rcases this with z|z<;>rw [z]
       . exact ⟨.add,by simp [Wd.s]⟩
       . exact ⟨.mul,by simp [Wd.s]⟩
     obtain ⟨wd,w2⟩:=w2;obtain ⟨t1,g1,a1,b1,e1,u1,s1,l1,l2,c1,p1,z1⟩:=ih n cs ns _ i j m (h.length+1) sc1 a b (O "n") (room - 1) (by clear ha;lia) (cw.app (g:=[.lst [.str (O "+"),.str (O "*")]])) (by clear ha hr;lia) (by clear hl hr;lia);refine last (.op wd t1 (.call (.name f) (.op .sub (.name x) (.num 1)))) g1 a1 b1 (Up.app.trans u1) s1 l1 l2 ⟨Cl.mono sub c1,Oh _ Oi,Oi,by show (0:Int)<=1/\(1:Int)<1000000;decide⟩ (by simp only [dep,nb];clear hl hr ha;lia) (by simp only [fw];clear hl hr ha ih;lia) ?_;exact (Zx (Zw (ZdR (x:=rest / 60 % 3) rfl rfl) (decide_eq_false q0))).trans (Za ((Zu (Zw (ZdR (x:=rest / 60 % 3) rfl rfl) (decide_eq_true q1))).trans (Za (Zq (i:=9) (ZaO (Zb (Zhu w2 rfl rfl (by simp)) (Zb (Zt e1 rfl) rfl)) (by simp))))))
   . refine last (.call (.name f) (.op .sub (.name x) (.num 1))) h1 a b Up.refl cw.st (Int.le_refl _) (by lia) ⟨Oh _ Oi,Oi,by show (0:Int)<=1/\(1:Int)<1000000;decide⟩ (by simp only [dep,nb];lia) (by simp only [fw];lia) ?_;exact (Zx (Zw (ZdR (x:=rest / 60 % 3) rfl rfl) (decide_eq_false q0))).trans (Za ((Zx (Zw (ZdR (x:=rest / 60 % 3) rfl rfl) (decide_eq_false q1))).trans rfl))
end Gn
end
section
set_option tactic.hygienic false
namespace Gn
open PySem L2 IV
variable {P:Pg}{cs:List Int}{ns:List Str}{h h':Hd}{i j m k:Nat}{sc:Scp}{a b a' b':Int}
theorem Zi4(rd:Nat->Option PyData):∀ ys:List Str,D.pys rd (ys.map D.str)=some (ys.map PyData.str)
 | []=>rfl
 | y::ys=>by rw [Op,D.pys,Zi4 rd ys];rfl
theorem Zqw{l:Nat}{ys:List Str}(e:h[l]? = some (.lst (ys.map .str))):Zbr true (.ref l) (.ref h.length) (h++[.lst []])=.ok (.bl (!ys.isEmpty)) (h++[.lst []]):=by
 have e1:(h++[DO.lst []])[l]? = some (.lst (ys.map .str)):=by rw [Oe (ZG e)];exact e
 have p1:Zf1 (h++[.lst []]) (.ref l)=some (.list (ys.map .str)):=by
   show ZfV (h++[.lst []]) 4 l=_;rw [ZfV,e1];simp [Zi4]
 have p2:Zf1 (h++[DO.lst []]) (.ref h.length)=some (.list []):=by
   show ZfV (h++[.lst []]) 4 h.length=_;rw [ZfV,Zb1];rfl
 unfold IV.Zbr;rw [p1,p2];simp only;have d0:min (PyData.list (ys.map .str)).depth (PyData.list []).depth<=1100:=by
   have:(PyData.list []).depth<=1:=by decide +kernel
   lia
 rw [if_pos d0];cases ys with
 | nil=>rfl
 | cons y r=>rfl
theorem Zc8{U:Tb}{R:Sxs}{ρ':Ev}{h':Hd}{s:Sx}{A B_:Sxs}{S:Ev}{h:Hd}(e:xs2 U (.cons s A) S h=.ok (.nx,ρ') h')(q:∀ ρ1 h1,xs2 U A ρ1 h1=.ok (.nx,ρ') h'->xs2 U B_ ρ1 h1=xs2 U R ρ' h'):xs2 U (.cons s B_) S h=xs2 U R ρ' h':=by
 rw [Zek] at e ⊢;cases r1:xs1 U s S h with
 | bad=>rw [r1] at e;cases e
 | exc c h1=>rw [r1] at e;cases e
 | ok p h1 =>
   rw [r1] at e;obtain ⟨fl,ρ1⟩:=p;cases fl with
   | nx=>exact q ρ1 h1 e
   | bk=>cases e
   | ct=>cases e
   | rt d=>cases e
theorem ZrC(R:Sxs)(e:xs2 U (.cons s1 (.cons s2 (.cons s3 (.cons s4 (.cons s5 .nil))))) S h=.ok (.nx,ρ') h'):xs2 U (.cons s1 (.cons s2 (.cons s3 (.cons s4 (.cons s5 R))))) S h=xs2 U R ρ' h' :=
 Zc8 e fun _ _ e=>Zc8 e fun _ _ e=>Zc8 e fun _ _ e=>Zc8 e fun _ _ e=>Zc8 e fun _ _ e=>by cases e;rfl
noncomputable def ae(w:Str)(k i m:Nat)(room v q:Int)(l:Nat)(a b:Option D):Ev:=[some (.str w),some (.ref k),some (.ref i),some (.ref m),some (.int room),some (.int v),some (.int q),some (.ref l),a,b]
theorem any_gen(H:Mkr P)(n1:Nat)(c:Ctx cs ns h i j m k sc a b)(w:Str)(room:Int)(mx:Int)(dm:Nat)(hdm:2<=dm)(hl:sc.length<=50)(ha:a<2 ^ 50)(hmx:1<=mx)
   (rc:1<=room->∃ r n0 n',room - 1<=(r:Nat)/\ZjW P r n0/\n1+2=n'+n0+1/\1<=n0/\sc.length+2+2 * r<=50/\1+3 * A r<=mx/\a+mx<2 ^ 50/\3 * r+6<=dm) :
   Made cs h i j sc a b 0 mx dm (run P (n1+3) (O "_law_any") [.str w,.ref k,.ref i,.ref m,.int room] h):=by
 have hab:=c.ab;rw [Zef H.any rfl];obtain ⟨v,w',ys,h5,l,e5,u5,c5,hy,hys⟩:=ZmJ H n1 c w room hl ha none none none;have st:Zs ZcH.N [.str w,.ref k,.ref i,.ref m,.int room]=[some (.str w),some (.ref k),some (.ref i),some (.ref m),some (.int room),none,none,none,none,none]:=rfl;rw [st,show ZcH.body=.cons ZaC (.cons Zbe (.cons ZaB (.cons Zbd (.cons ZaA (.cons Zaz (.cons Zab (.cons Zbc (.cons Zay (.cons Zak (.cons ZaQ .nil)))))))))) from rfl,ZrC _ e5];show Made cs h i j sc a b 0 mx dm (Zk (xs2 (P.tbl (n1+2)) (.cons Zaz (.cons Zab (.cons Zbc (.cons Zay (.cons Zak (.cons ZaQ .nil)))))) (ae w' k i m room v (v / 87) l none none) h5));have nn:=Zqw hy;have t1:tst (P.tbl (n1+2)) (.ex (.cmp .NotEq (.var 7) (.lstl .nil))) (ae w' k i m room v (v / 87) l none none) h5=.ok (!ys.isEmpty) (h5++[.lst []]):=Zc1 ((ZH (x:=.ref l) (y:=.ref h5.length) (h1:=h5) (h2:=h5++[DO.lst []]) rfl rfl).trans nn);have t2:∀ h,tst (P.tbl (n1+2)) (.ex (.cmp .Eq (.bin .Mod (.var 6) (.cst (.int 3))) (.cst (.int 0)))) (ae w' k i m room v (v / 87) l none none) h=.ok (decide (v / 87 % 3=0)) h:=fun h=>ZdR rfl rfl;have t8:∀ h,tst (P.tbl (n1+2)) (.ex (.cmp .Eq (.bin .Mod (.var 6) (.cst (.int 8))) (.cst (.int 0)))) (ae w' k i m room v (v / 87 / 30) l none none) h=.ok (decide (v / 87 / 30 % 8=0)) h:=fun h=>ZdR rfl rfl;by_cases hn:ys.isEmpty=false/\v / 87 % 3=0
 ·
   have hp:0<ys.length:=by
     cases ys with
     | nil=>simp at hn
     | cons y r=>simp
   have ix:opB .Mod (.int (v / 87 / 3)) (.int ys.length) (h5++[.lst []])=.ok (.int (v / 87 / 3 % ys.length)) (h5++[.lst []]):=ZC (by lia);have hb:(0:Int)<=v / 87 / 3 % ys.length/\v / 87 / 3 % ys.length<ys.length:=⟨Int.emod_nonneg _ (by lia),Int.emod_lt_of_pos _ (by lia)⟩
   obtain ⟨q,hq⟩:∃ q:Nat,v / 87 / 3 % ys.length=q:=⟨(v / 87 / 3 % ys.length).toNat,by lia⟩
   have hql:q<ys.length:=by lia
   have hl5:(h5++[DO.lst []])[l]? = some (.lst (ys.map .str)):=by rw [Oe (ZG hy)];exact hy
   have len:Zao P.GD .len [.ref l] (h5++[.lst []])=.ok (.int ys.length) (h5++[.lst []]):=by
     simp only [Zao,ZhA,seqOf,lstOf,hl5];simp
   have at5:Zag P.GD (.ref l) (.int (q:Int)) (h5++[.lst []])=.ok (.str ys[q]) (h5++[.lst []]):=by
     rw [ZR hl5,IV.ZbP,On,Og hql];rfl
   refine ⟨.name ys[q],h5++[.lst []],a+1,b - 1,?_,u5.trans Up.app,c5.st.app,by lia,by lia,hys _ (List.getElem_mem hql),⟨Oq _,Nat.zero_le _⟩,by simp only [fw,pz];lia⟩;have x6:xs1 (P.tbl (n1+2)) Zaz (ae w' k i m room v (v / 87) l none none) h5=.ok (.rt (T.name ys[q]).d,(ae w' k i m room v (v / 87) l none none)) (h5++[.lst []]):=by
     have el:ev (P.tbl (n1+2)) (.blt .len (.cons (.var 7) .nil)) (ae w' k i m room v (v / 87) l none none) (h5++[.lst []])=.ok (.int ys.length) (h5++[.lst []]):=len;have ei:ev (P.tbl (n1+2)) (.bin .Mod (.bin .FloorDiv (.var 6) (.cst (.int 3))) (.blt .len (.cons (.var 7) .nil))) (ae w' k i m room v (v / 87) l none none) (h5++[.lst []])=.ok (.int (q:Int)) (h5++[.lst []]):=(Zf (x:=.int (v / 87 / 3)) rfl el).trans (ix.trans (by rw [hq]));rw [hn.1] at t1;exact (Zu (Zpu t1 (Zw (t2 _) (decide_eq_true hn.2)))).trans (Zc (Zz (ZaO (Zb rfl (Zb ((Zo (x:=.ref l) rfl ei).trans at5) rfl)) (by simp))))
   rw [Zc x6];rfl
 . have x6:xs1 (P.tbl (n1+2)) Zaz (ae w' k i m room v (v / 87) l none none) h5
       = .ok (.nx,(ae w' k i m room v (v / 87) l none none)) (h5++[.lst []]):=by
     cases q:ys.isEmpty with
     | true =>
       rw [q] at t1;exact (Zx (Ztw t1)).trans rfl
     | false =>
       rw [q] at t1;have h3:¬ v / 87 % 3=0:=fun z=>hn ⟨q,z⟩;exact (Zx (Zpu t1 (Zw (t2 _) (decide_eq_false h3)))).trans rfl
   have c6:=c5.app (g:=[.lst []]);have u6:=u5.trans (Up.app (i:=i) (g:=[.lst []]));clear t1 nn;generalize hh6:h5++[.lst []]=h6 at x6 c6 u6;rw [Za x6];have ix2:Zag P.GD (.ref i) (.int 2) h6=.ok (.int (b - 1)) h6:=by rw [ZR c6.st.1];simp
   have r1:tst (P.tbl (n1+2)) (.ex (.cmp .Lt (.var 4) (.cst (.int 1)))) (ae w' k i m room v (v / 87) l none none) h6=.ok (decide (room<1)) h6:=rfl;have r2:tst (P.tbl (n1+2)) (.ex (.cmp .Lt (.ix (.var 2) (.cst (.int 2))) (.cst (.int 0)))) (ae w' k i m room v (v / 87) l none none) h6=.ok (decide (b - 1<0)) h6:=Zc1 ((ZH (y:=.int 0) (h2:=h6) ((Zo (x:=.ref i) (y:=.int 2) rfl rfl).trans ix2) rfl).trans rfl);obtain ⟨t,g,ep,ct,pt⟩:=ZfW H (n1+1) w' (v / 87 / 3) h6 (sc.map (·.1));by_cases hr:room<1
   . refine ⟨t,h6++g,a+1,b - 1,?_,u6.trans Up.app,c6.st.app,by lia,by lia,ct,by lia,by simp only [pz];lia⟩;have x7:xs1 (P.tbl (n1+2)) Zab (ae w' k i m room v (v / 87) l none none) h6=.ok (.rt t.d,(ae w' k i m room v (v / 87) l none none)) (h6++g):=(Zu (ZsA (Zw r1 (decide_eq_true hr)))).trans (Zc (ZA ep rfl rfl));rw [Zc x7];rfl
   . by_cases hb:b - 1<0
     . refine ⟨t,h6++g,a+1,b - 1,?_,u6.trans Up.app,c6.st.app,by lia,by lia,ct,by lia,by simp only [pz];lia⟩;have x7:xs1 (P.tbl (n1+2)) Zab (ae w' k i m room v (v / 87) l none none) h6=.ok (.rt t.d,(ae w' k i m room v (v / 87) l none none)) (h6++g):=(Zu (ZlC (Zw r1 (decide_eq_false hr)) (Zw r2 (decide_eq_true hb)))).trans (Zc (ZA ep rfl rfl));rw [Zc x7];rfl
     . obtain ⟨r,n0,n',q1,ih,q2,q3,q4,q5,q6,q7⟩:=rc (by lia);have Ap:=ZhD r;have x7:xs1 (P.tbl (n1+2)) Zab (ae w' k i m room v (v / 87) l none none) h6
           = .ok (.nx,(ae w' k i m room v (v / 87) l none none)) h6:=by
         exact (Zx (ZlC (Zw r1 (decide_eq_false hr)) (Zw r2 (decide_eq_false hb)))).trans rfl
       have x8:xs1 (P.tbl (n1+2)) Zbc (ae w' k i m room v (v / 87) l none none) h6
           = .ok (.nx,(ae w' k i m room v (v / 87 / 30) l none none)) h6:=by
         exact rfl
       rw [Za x7,Za x8];have pb:pz b=pz (b - 1)+1:=by simp only [pz];lia
       by_cases h8:v / 87 / 30 % 8=0
       . obtain ⟨t1,g1,a1,b1,e1,u1,s1,l1,l2,c1,p1,z1⟩:=ih (n'+1) cs ns h6 i j m k sc (a+1) (b - 1) (O "n") (room - 1) q1 c6 (by lia) (by lia);have cc1:=c6.up u1 s1 (by lia);obtain ⟨t2,g2,a2,b2,e2,u2,s2,l3,l4,c2,p2,z2⟩:=ih (n'+1) cs ns g1 i j m k sc a1 b1 w' (room - 1) q1 cc1 (by lia) (by lia);have cc2:=cc1.up u2 s2 (by lia);obtain ⟨t3,g3,a3,b3,e3,u3,s3,l5,l6,c3,p3,z3⟩:=ih (n'+1) cs ns g2 i j m k sc a2 b2 w' (room - 1) q1 cc2 (by lia) (by lia);rw [show n'+1+n0=n1+2 by lia] at e1 e2 e3;refine ⟨.iff t1 t2 t3,g3,a3,b3,?_,u6.trans (u1.trans (u2.trans u3)),s3,by lia,by lia,⟨c1,c2,c3⟩,by simp only [dep,nb];lia,by simp only [fw];rw [pb];clear ih rc;lia⟩;have x9:xs1 (P.tbl (n1+2)) Zay (ae w' k i m room v (v / 87 / 30) l none none) h6=.ok (.rt (T.iff t1 t2 t3).d,(ae w' k i m room v (v / 87 / 30) l (some t1.d) (some t2.d))) g3:=by
           refine (Zu (Zw (t8 _) (decide_eq_true h8))).trans ?_;refine (Za (ρ1:=ae w' k i m room v (v / 87 / 30) l (some t1.d) none) (h1:=g1) (ZA e1 rfl rfl)).trans ?_;refine (Za (ρ1:=ae w' k i m room v (v / 87 / 30) l (some t1.d) (some t2.d)) (h1:=g2) (ZA e2 rfl rfl)).trans ?_;exact Zc (ZA e3 rfl rfl)
         rw [Zc x9];rfl
       . have x9:xs1 (P.tbl (n1+2)) Zay (ae w' k i m room v (v / 87 / 30) l none none) h6=.ok (.nx,(ae w' k i m room v (v / 87 / 30) l none none)) h6:=(Zx (Zw (t8 _) (decide_eq_false h8))).trans rfl;rw [Za x9];by_cases hw:w'=O "n"
         . obtain ⟨t1,g1,a1,b1,e1,u1,s1,l1,l2,c1,p1,z1⟩:=Zqv H ih q3 n' c6 (v / 87 / 30 / 8) (room - 1) q1 (by lia) (by lia);rw [<- q2] at e1;refine ⟨t1,g1,a1,b1,?_,u6.trans u1,s1,by lia,by lia,c1,by lia,by rw [pb];clear ih rc;lia⟩;have x10:xs1 (P.tbl (n1+2)) Zak (ae w' k i m room v (v / 87 / 30) l none none) h6=.ok (.rt t1.d,(ae w' k i m room v (v / 87 / 30) l none none)) g1:=(Zu (Zw (ZbH rfl rfl) (decide_eq_true hw))).trans (Zc (ZA e1 rfl rfl));rw [Zc x10];rfl
         . obtain ⟨t1,g1,a1,b1,e1,u1,s1,l1,l2,c1,p1,z1⟩:=Zq0 H ih n' c6 w' (v / 87 / 30 / 8) (room - 1) q1 (by lia) (by lia);rw [<- q2] at e1;refine ⟨t1,g1,a1,b1,?_,u6.trans u1,s1,by lia,by lia,c1,by lia,by rw [pb];clear ih rc;lia⟩;have x10:xs1 (P.tbl (n1+2)) Zak (ae w' k i m room v (v / 87 / 30) l none none) h6=.ok (.nx,(ae w' k i m room v (v / 87 / 30) l none none)) h6:=(Zx (Zw (ZbH rfl rfl) (decide_eq_false hw))).trans rfl;have x11:xs1 (P.tbl (n1+2)) ZaQ (ae w' k i m room v (v / 87 / 30) l none none) h6=.ok (.rt t1.d,(ae w' k i m room v (v / 87 / 30) l none none)) g1:=ZA e1 rfl rfl;rw [Za x10,Zc x11];rfl
theorem ZmI(H:Mkr P):∀ r:Nat,ZjW P r (2 * r+3)
 | 0=>fun n cs ns h i j m k sc a b w room hr c hl ha=>by
   have:=any_gen H n c w room (A 0) 3 (by decide) (by lia) (by have:=ZhD 0;lia) (by decide) (fun z=>by lia);exact this
 | r+1=>fun n cs ns h i j m k sc a b w room hr c hl ha=>by
   have Ap:=ZhD r;have As:=Zrw r;have:=any_gen H (n+2 * r+2) c w room (A (r+1)) (3 * (r+1)+3) (by lia) (by lia) (by lia) (by lia) (fun _=>⟨r,2 * r+3,n,by lia,ZmI H r,by lia,by lia,by lia,by lia,by lia,by lia⟩);rw [show n+(2 * (r+1)+3)=n+2 * r+2+3 by lia];exact this
end Gn
end
section
namespace Gn
open PySem L2 IV
noncomputable def front:T->List D
 | .num n=>[.str (O "num"),.int n]
 | .name x=>[.str (O "name"),.str x]
 | .fn x _=>[.str (O "fn"),.str x]
 | .rcc f x _=>[.str (O "rec"),.str f,.str x]
 | .call _ _=>[.str (O "call")]
 | .iff _ _ _=>[.str (O "if")]
 | .op w _ _=>[.str w.s]
theorem Zms(t:T):t.d=.tup (front t++t.parts.map T.d):=by cases t<;>rfl
noncomputable def Zgd:D->Bool
 | .str _|.int _=>true
 | _=>false
theorem Zic(t:T):∀ d∈front t,Zgd d=true:=by cases t<;>simp [front,Zgd]
theorem Zl7 (hf:Zgd d=true):Zao GD .isi [d,.ty "tuple"] h=.ok (.bl false) h:=by
 cases d with
 | str x=>rfl
 | int x=>rfl
 | _=>cases hf
theorem Zoj:Zao GD .isi [.tup xs,.ty "tuple"] h=.ok (.bl true) h:=rfl
noncomputable abbrev isT:Tx:=.ex (.blt .isi (.cons (.var 0) (.cons (.cst (.ty "tuple")) .nil)))
theorem Zfa{U:Tb}{acc rest:List D}:∀ ds:List D,(∀ d∈ds,Zgd d=true)->acc.length<sizeLine->ZF [] (.nm 0) (tsto U (some isT)) (ev U e) (ds++rest) [none] acc h=ZF [] (.nm 0) (tsto U (some isT)) (ev U e) rest [none] acc h
 | [],_,_=>rfl
 | d::ds,hd,hz=>by
   have:=Zl7 (GD:=U.GD) (h:=h) (hd d (by simp));rw [List.cons_append,ZK];simp [Wk.stays,hz,this];exact Zfa ds (fun x hx=>hd x (by simp [hx])) hz
theorem Ze8{U:Tb}{f:T->Int}:∀ (ts:List T) (acc:List D) (h:Hd),(∀ t∈ts,∀ h,∃ g,ev U e [some t.d] h=.ok (.int (f t)) (h++g))->acc.length+ts.length<=1000->∃ g,ZF [] (.nm 0) (tsto U (some isT)) (ev U e) (ts.map T.d) [none] acc h=.ok (acc++ts.map fun t=>.int (f t)) (h++g)
 | [],acc,h,_,_=>⟨[],by simp [ZF,Wk.stays]⟩
 | t::ts,acc,h,ht,hz=>by
   simp only [Os] at hz;obtain ⟨g1,e1⟩:=ht t (by simp) h;obtain ⟨g2,e2⟩:=Ze8 (U:=U) (e:=e) (f:=f) ts (acc++[.int (f t)]) (h++g1) (fun x hx=>ht x (by simp [hx])) (by simp;lia);refine ⟨g1++g2,?_⟩;have hz2:acc.length<sizeLine:=by rw [sizeLine_eq];lia
   have it:Zao U.GD .isi [t.d,.ty "tuple"] h=.ok (.bl true) h:=by rw [Zms];exact Zoj
   rw [Op,ZK];simp [Wk.stays,hz2,it,e1,e2]
theorem Zdu{U:Tb}{f:T->Int}(t:T)(h:Hd)(ht:∀ s∈t.parts,∀ h,∃ g,ev U e [some s.d] h=.ok (.int (f s)) (h++g)):∃ g,ZF [] (.nm 0) (tsto U (some isT)) (ev U e) (front t++t.parts.map T.d) [none] [] h=.ok (t.parts.map fun s=>.int (f s)) (h++g):=by
 obtain ⟨g,e1⟩:=Ze8 (f:=f) t.parts [] h ht (by cases t<;>simp [T.parts]);refine ⟨g,?_⟩;rw [Zfa _ (Zic t) (by rw [sizeLine_eq];simp),e1];simp
theorem ints_map(f:T->Int):∀ ts:List T,intsOf (ts.map fun s=>D.int (f s))=some (ts.map f)
 | []=>rfl
 | t::ts=>by rw [Op,intsOf,ints_map f ts];rfl
variable {P:Pg}
theorem ZiZ(t:T):(t.size:Int)=1+(t.parts.map fun s=>(s.size:Int)).sum:=by
 unfold T.size;rw [T.places_parts];have:∀ ts:List T,((ts.flatMap T.places).length:Int)=(ts.map fun s=>(s.places.length:Int)).sum:=by
   intro ts;induction ts with
   | nil=>rfl
   | cons t ts ih=>rw [List.flatMap_cons,OA,Op,OI,<- ih];lia
 rw [Os,<- this]
 lia
theorem Zdt{t s:T}(hs:s∈t.parts):dep s<dep t:=by
 cases t<;>simp [T.parts] at hs<;>simp only [dep]
 . subst hs;lia
 . subst hs;lia
 . rcases hs with rfl|rfl<;>lia
 . rcases hs with rfl|rfl|rfl<;>lia
 . rcases hs with rfl|rfl<;>lia
theorem Zng (H:Mkr P):∀ (d n:Nat) (t:T) (h:Hd),dep t<=d->∃ g,run P (n+d+1) (O "_law_width") [t.d] h=.ok (.int t.size) (h++g):=by
 intro d;induction d with
 | zero =>
   intro n t h hd;rw [Zd H.width rfl];obtain ⟨g,e⟩:=Zdu (U:=⟨P.G,P.GD,run P (n+0),P.L⟩) (e:=.call (O "_law_width") (.cons (.var 0) .nil)) (f:=fun s=>(s.size:Int)) t h (fun s hs=>by have:=Zdt hs;lia);refine ⟨g++[.lst (t.parts.map fun s=>.int s.size)],?_⟩;rw [ZiZ,Zms];have sm:Zao P.GD .sum [.ref (h++g).length] (h++g++[.lst (t.parts.map fun s=>D.int s.size)])=.ok (.int (t.parts.map fun s=>(s.size:Int)).sum) (h++g++[.lst (t.parts.map fun s=>D.int s.size)]):=by
     simp only [Zao,ZmD,lstOf,Zb1,Option.bind_some,ints_map];rfl
   simp at sm e;simp [Za5,Zcn,Zs,Zan,ZaJ,e,sm]
 | succ d ih =>
   intro n t h hd;rw [Zd H.width rfl];obtain ⟨g,e⟩:=Zdu (U:=⟨P.G,P.GD,run P (n+(d+1)),P.L⟩) (e:=.call (O "_law_width") (.cons (.var 0) .nil)) (f:=fun s=>(s.size:Int)) t h (fun s hs h1=>by
     have:=Zdt hs;obtain ⟨g,e⟩:=ih n s h1 (by lia);refine ⟨g,?_⟩;have e':run P (n+(d+1)) (O "_law_width") [s.d] h1=.ok (.int s.size) (h1++g):=e;simp [e'])
   refine ⟨g++[.lst (t.parts.map fun s=>.int s.size)],?_⟩;rw [ZiZ,Zms];have sm:Zao P.GD .sum [.ref (h++g).length] (h++g++[.lst (t.parts.map fun s=>D.int s.size)])=.ok (.int (t.parts.map fun s=>(s.size:Int)).sum) (h++g++[.lst (t.parts.map fun s=>D.int s.size)]):=by
     simp only [Zao,ZmD,lstOf,Zb1,Option.bind_some,ints_map];rfl
   simp at sm e;simp [Za5,Zcn,Zs,Zan,ZaJ,e,sm]
end Gn
end
section
namespace Gn
open PySem L2 IV
variable {P:Pg}
theorem max2(x y:Nat):(if (1+(y:Int)) > 1+x then 1+(y:Int) else 1+x)=((max x y+1:Nat):Int):=by
 split<;>lia
theorem Zri(t:T):Zb9 (t.parts.map fun s=>1+(dep s:Int)) 0=dep t:=by
 cases t with
 | num n=>rfl
 | name x=>rfl
 | fn x e=>simp [T.parts,Zb9,dep];lia
 | rcc f x e=>simp [T.parts,Zb9,dep];lia
 | call f a=>simp only [T.parts,Zb9,dep,Op,Oy,List.foldl_cons,List.foldl_nil];rw [max2]
 | op w f a=>simp only [T.parts,Zb9,dep,Op,Oy,List.foldl_cons,List.foldl_nil];rw [max2]
 | iff c t e =>
   simp only [T.parts,Zb9,dep,Op,Oy,List.foldl_cons,List.foldl_nil];rw [max2];split<;>lia
theorem ZpT (H:Mkr P):∀ (d n:Nat) (t:T) (h:Hd),dep t<=d->∃ g,run P (n+d+1) (O "_law_deep") [t.d] h=.ok (.int (dep t)) (h++g):=by
 have fin:∀ (t:T) (h g:Hd),ZjT (.ref (h++g).length) (.int 0) (h++g++[.lst (t.parts.map fun s=>D.int (1+(dep s:Int)))])=.ok (.int (dep t)) (h++g++[.lst (t.parts.map fun s=>D.int (1+(dep s:Int)))]):=by
   intro t h g;have q:intsOf (t.parts.map fun s=>D.int (1+(dep s:Int)))=some (t.parts.map fun s=>1+(dep s:Int)):=ints_map (fun s=>1+(dep s:Int)) t.parts;simp only [ZjT,lstOf,Zb1,Option.bind_some,q,Option.map_some,Zri,ofO_some]
 intro d;induction d with
 | zero =>
   intro n t h hd;rw [Zd H.deep rfl];obtain ⟨g,e⟩:=Zdu (U:=⟨P.G,P.GD,run P (n+0),P.L⟩) (e:=.bin .Add (.cst (.int 1)) (.call (O "_law_deep") (.cons (.var 0) .nil))) (f:=fun s=>1+(dep s:Int)) t h (fun s hs=>by have:=Zdt hs;lia);refine ⟨g++[.lst (t.parts.map fun s=>.int (1+(dep s:Int)))],?_⟩;have sm:=fin t h g;rw [Zms];simp at sm e;simp [ZbF,Zc6,Zs,Zan,ZaJ,e,sm]
 | succ d ih =>
   intro n t h hd;rw [Zd H.deep rfl];obtain ⟨g,e⟩:=Zdu (U:=⟨P.G,P.GD,run P (n+(d+1)),P.L⟩) (e:=.bin .Add (.cst (.int 1)) (.call (O "_law_deep") (.cons (.var 0) .nil))) (f:=fun s=>1+(dep s:Int)) t h (fun s hs h1=>by
     have:=Zdt hs;obtain ⟨g,e⟩:=ih n s h1 (by lia);refine ⟨g,?_⟩;have e':run P (n+(d+1)) (O "_law_deep") [s.d] h1=.ok (.int (dep s)) (h1++g):=e;simp [e'])
   refine ⟨g++[.lst (t.parts.map fun s=>.int (1+(dep s:Int)))],?_⟩;have sm:=fin t h g;rw [Zms];simp at sm e;simp [ZbF,Zc6,Zs,Zan,ZaJ,e,sm]
theorem Ze9(H:Mkr P)(hk:h[k]? = some (.lst xs0)):∀ (xs:List Int) (j:Nat) (acc:List Int),acc.length+xs.length<=1000->j+xs.length<=1000->∃ cs:List Int,cs.length=acc.length+xs.length /\
   ZF [(k,xs0)] (.two 0 1) (tsto ⟨P.G,P.GD,run P (n+1),P.L⟩ none) (ev ⟨P.G,P.GD,run P (n+1),P.L⟩ (.call (O "_law_mixed") (.cons (.var 1) (.cons (.bin .Add (.var 0) (.cst (.int 2))) .nil)))) (xs.mapIdx fun q x=>D.tup [.int ((q+j:Nat):Int),.int x]) [none,none] (acc.map .int) h
     = .ok (cs.map .int) h
 | [],j,acc,_,_=>⟨acc,by simp,by simp [ZF,Wk.stays,hk]⟩
 | x::xs,j,acc,h1,h2=>by
   simp only [Os] at h1 h2;obtain ⟨cs,q1,q2⟩:=Ze9 H hk xs (j+1) (acc++[mixed x ((j:Int)+2)]) (by simp;lia) (by lia);refine ⟨cs,by simp at q1;simp;lia,?_⟩;have e1:=ZfY H n x ((j:Int)+2) h ⟨by lia,by lia⟩;have hz:acc.length<sizeLine:=by rw [sizeLine_eq];lia
   have ei:(fun (q:Nat) (x:Int)=>D.tup [.int ((q+1+j:Nat):Int),.int x])=fun q x=>D.tup [.int ((q+(j+1):Nat):Int),.int x]:=by
     funext q x;rw [show q+1+j=q+(j+1) by lia]
   rw [List.mapIdx_cons,ZK];simp only [Wk.stays,hk,decide_true,true_and,List.length_map,hz,if_true,Zhv,List.set_cons_zero,List.set_cons_succ,Zj2,Zkh,Zm,bind_ok,Zgo,Ze3,Zjx,Zmk,O0,OJ,Option.join_some,ofO_some,Zmn,Zq9,ZnZ,Nat.zero_add,e1];rw [ei];have:=q2;rw [List.map_append] at this;exact this
end Gn
end
section
set_option tactic.hygienic false
namespace Gn
open PySem L2 IV
variable {P:Pg}{cs:List Int}{ns:List Str}{h h':Hd}{i j m:Nat}{a b:Int}
theorem ZmK(H:Mkr P)(r N:Nat)(hN:2 * r+3<=N)(c:Ctx cs ns h i j m k sc a b)(w:Str)(room:Int)(hr:room<=r)(hl:sc.length+2 * r<=50)(ha:a+A r<2 ^ 50) :
   Made cs h i j sc a b 0 (A r) (3 * r+3) (run P N (O "_law_any") [.str w,.ref k,.ref i,.ref m,.int room] h):=by
 have:=ZmI H r (N - (2 * r+3)) cs ns h i j m k sc a b w room hr c hl ha;rw [show N - (2 * r+3)+(2 * r+3)=N by lia] at this;exact this
theorem ZgG (H:Mkr P) (N:Nat) (t:T) (h:Hd) (hd:dep t<N):∃ g,run P N (O "_law_width") [t.d] h=.ok (.int t.size) (h++g):=by
 obtain ⟨g,e⟩:=Zng H (dep t) (N - dep t - 1) t h (Oq _);rw [show N - dep t - 1+dep t+1=N by lia] at e;exact ⟨g,e⟩
theorem ZoA (H:Mkr P) (N:Nat) (t:T) (h:Hd) (hd:dep t<N):∃ g,run P N (O "_law_deep") [t.d] h=.ok (.int (dep t)) (h++g):=by
 obtain ⟨g,e⟩:=ZpT H (dep t) (N - dep t - 1) t h (Oq _);rw [show N - dep t - 1+dep t+1=N by lia] at e;exact ⟨g,e⟩
theorem Ctx.bare(c:Ctx cs ns h i j m k sc a b):Ctx cs ns (h++[.lst []]) i j m h.length [] a b:=by
 have c1:=c.app (g:=[.lst []]);refine ⟨c1.st,c1.nm,c1.n5,c1.nok,c1.nd,by unfold ZkI;simp,by simp,c1.im,?_,c1.ab⟩;have:=ZG c.st.1
 lia
noncomputable def vp(ro:D)(st:Int)(o2 o3 o4 o5 o6:Option D):Ev:=[some ro,some (.int st),o2,o3,o4,o5,o6]
noncomputable def Zob:Sxs:=(.cons (.iff (.ex (.cmp .Lt (.call (O "_law_width") (.cons (.var 5) .nil)) (.cst (.int 50)))) (.cons (.put (.var 3) (.cst (.int 2)) (.cst (.int 12))) (.cons (.set (.nm 5) (.tupl (.cons (.cst (.str (O "+"))) (.cons (.var 5) (.cons (.call (O "_law_any") (.cons (.cst (.str (O "n"))) (.cons (.lstl .nil) (.cons (.var 3) (.cons (.var 4) (.cons (.cst (.int 6)) .nil)))))) .nil))))) .nil)) .nil) .nil)
inductive Turned(cs:List Int)(ns:List Str)(h:Hd)(i j m k:Nat)(sc:Scp)(a:Int)(dm:Nat)(S:Option D->Ev)(r:R (Fl×Ev))(z0:Int):Prop
 | mk (t:T) (h':Hd) (a' b':Int) (e:r=.ok (.nx,S (some t.d)) h') (c:Cl [] t) (d:nb t<=dep t/\dep t<=dm) (u:Up i h h') (x:Ctx cs ns h' i j m k sc a' b') (l:a'<=a+65536) (z:fw t<=z0+36)
theorem turn(H:Mkr P)(hN:40<=N)(c:Ctx cs ns h i j m k sc a b)(ct:Cl [] t)(hd:nb t<=dep t/\dep t<=30)(ha:a<2 ^ 45)(ro:D)(st:Int)(o2 o6:Option D):Turned cs ns h i j m k sc a (max (dep t) 21+1) (fun o=>vp ro st o2 (some (.ref i)) (some (.ref m)) o o6)
   (xs2 (P.tbl N) Zob (vp ro st o2 (some (.ref i)) (some (.ref m)) (some t.d) o6) h) (fw t):=by
 have A6:A 6=16384:=by decide
 obtain ⟨g,ew⟩:=ZgG H N t h (by lia);have c1:=c.app (g:=g);have te:tst (P.tbl N) (.ex (.cmp .Lt (.call (O "_law_width") (.cons (.var 5) .nil)) (.cst (.int 50)))) (vp ro st o2 (some (.ref i)) (some (.ref m)) (some t.d) o6) h=.ok (decide ((t.size:Int)<50)) (h++g):=ZsT (Zt ew rfl) rfl;by_cases hw:(t.size:Int)<50
 . have p1:Zaf (.ref i) (.int 2) (.int 12) (h++g)=.ok () ((h++g).set i (.lst [.ref j,.int a,.int 12])):=by
     simp only [Zaf,c1.st.1];rfl
   have s1:St3 ((h++g).set i (.lst [.ref j,.int a,.int 12])) i j cs a 12:=⟨by rw [Ol (ZG c1.st.1)],by rw [Oc c1.st.2.2];exact c1.st.2.1,c1.st.2.2⟩
   obtain ⟨h2,p1,u1,c2⟩:∃ h2,Zaf (.ref i) (.int 2) (.int 12) (h++g)=.ok () h2/\Up i h h2/\Ctx cs ns h2 i j m k sc a 12:=⟨_,p1,Up.app.trans Up.set,c1.up Up.set s1 c.ab⟩
   obtain ⟨t1,h3,a1,b1,e1,u3,s3,l1,l2,c3,p3,z3⟩:=ZmK H 6 N (by lia) c2.bare (O "n") 6 (by decide) (by simp) (by rw [A6];lia);have u4:=u1.trans ((Up.app (i:=i) (g:=[.lst []])).trans u3);have x1:xs1 (P.tbl N) (.put (.var 3) (.cst (.int 2)) (.cst (.int 12))) (vp ro st o2 (some (.ref i)) (some (.ref m)) (some t.d) o6) (h++g)=.ok (.nx,vp ro st o2 (some (.ref i)) (some (.ref m)) (some t.d) o6) h2:=by
     show R.bnd (Zaf (.ref i) (.int 2) (.int 12) (h++g)) _=_;rw [p1];rfl
   refine ⟨.op .add t t1,h3,a1,b1,?_,⟨ct,c3⟩,by simp only [dep,nb];lia,u4,c.up u4 s3 (by have:=c.ab;lia),by rw [A6] at l2;lia,by simp only [fw,pz] at *;lia⟩;refine (Za ((Zu (Zw te (decide_eq_true hw))).trans ((Za x1).trans ((Za (Zq (ZaO (Zb rfl (Zb rfl (Zb (Zt e1 (Zb rfl (Zb (ZdQ rfl (by simp)) rfl))) rfl))) (by simp)))).trans rfl)))).trans rfl
 . exact ⟨t,h++g,a,b,(Za ((Zx (Zw te (decide_eq_false hw))).trans rfl)).trans rfl,ct,by lia,Up.app,c1,by lia,by lia⟩
theorem Zsh(zs:List Int)(st:Int)(hz:zs.length<=100):∃ ys:List Int,ys.length<=100/\∀ h:Hd,Zfk (.ro (zs.map D.int)) (some st) none h=.ok (.ref h.length) (h++[.lst (ys.map .int)]):=by
 refine ⟨(zs.drop (HT.sIx zs.length 0 (some st))).take (HT.sIx zs.length zs.length none - HT.sIx zs.length 0 (some st)),?_,fun h=>?_⟩
 . rw [List.length_take,List.length_drop]
   lia
 . show Zbs (.lst (cutD (zs.map D.int) (some st) none)) h=_;simp [cutD,List.map_drop,List.map_take]
inductive Begun(h:Hd)(S:Option D->Option D->Option D->Ev)(r:Sxs->R (Fl×Ev))(U:Tb):Prop
 | mk (cs:List Int) (ns:List Str) (h':Hd) (i j m:Nat) (e:∀ s,r s=xs2 U s (S (some (.ref j)) (some (.ref i)) (some (.ref m))) h') (c:Ctx cs ns (h'++[.lst []]) i j m h'.length [] 1 26) (l:h.length<=i) (u:Up i h h')
theorem Zp6(H:Mkr P)(hN:40<=N)(zs:List Int)(st:Int)(h:Hd)(hz:zs.length<=100):Begun h (fun o2 o3 o4=>vp (.ro (zs.map .int)) st o2 o3 o4 none none) (fun s=>xs2 (P.tbl N) (.cons Z5 (.cons Zb0 (.cons ZbZ s))) (vp (.ro (zs.map .int)) st none none none none none) h) (P.tbl N):=by
 obtain ⟨N,rfl⟩:∃ N3,N=N3+2:=⟨N - 2,by lia⟩
 obtain ⟨ys,hyl,osl⟩:=Zsh zs st hz;obtain ⟨cs,hcl,ec⟩:=Ze9 H (n:=N+1) (h:=h++[.lst (ys.map .int)]) (k:=h.length) (xs0:=ys.map .int) (by simp) ys 0 [] (by simp;lia) (by lia);have en:Zch (ys.map D.int)=ys.mapIdx fun q x=>D.tup [.int ((q+0:Nat):Int),.int x]:=by
   unfold Zch;apply List.ext_getElem?;intro q;simp [List.getElem?_mapIdx];cases ys[q]?<;>rfl
 have ei:evi (P.tbl (N+2)) (.enu (.sl (.var 0) (some (.var 1)) none)) (vp (.ro (zs.map .int)) st none none none none none) h=.ok ⟨[(h.length,ys.map .int)],Zch (ys.map D.int)⟩ (h++[.lst (ys.map .int)]):=by
   rw [Zot,show ev (P.tbl (N+2)) (.sl (.var 0) (some (.var 1)) none) (vp (.ro (zs.map .int)) st none none none none none) h=.ok (.ref h.length) (h++[.lst (ys.map .int)]) from osl h,Zm];simp [Zfr]
 rw [<- en] at ec;have x1:xs1 (P.tbl (N+2)) Z5 (vp (.ro (zs.map .int)) st none none none none none) h=.ok (.nx,vp (.ro (zs.map .int)) st (some (.ref (h++[DO.lst (ys.map .int)]).length)) none none none none) (h++[.lst (ys.map .int)]++[.lst (cs.map .int)]):=Zq (Zmm ei ec);generalize D.ro (zs.map .int)=ro at *;obtain ⟨h1,j,u1,k1,lj,x1⟩:∃ (h1:Hd) (j:Nat),Up h1.length h h1/\h1[j]? = some (.lst (cs.map .int))/\j<h1.length/\xs1 (P.tbl (N+2)) Z5 (vp ro st none none none none none) h=.ok (.nx,vp ro st (some (.ref j)) none none none none) h1:=⟨_,_,Up.app.trans Up.app,Zb1,by simp,x1⟩
 have s2:St3 (h1++[.lst [.ref j,.int 0,.int 26]]) h1.length j cs 0 26:=⟨Zb1,by rw [Oe lj];exact k1,by lia⟩
 obtain ⟨v,e3,_⟩:=ZhO H N s2 (by decide);rw [Zli] at e3;obtain ⟨ns,n5,nok,nnd,e4⟩:=Zni H (N+1) v (h1++[.lst [.ref j,.int 1,.int 26]]);have hle:=u1.1;refine ⟨cs,ns,h1++[.lst [.ref j,.int 1,.int 26]]++[.lst (ns.map .str)],h1.length,j,(h1++[DO.lst [.ref j,.int 1,.int 26]]).length,fun s=>?_,⟨⟨by simp,by simp [Oe lj,k1],by lia⟩,by simp,n5,nok,nnd,by unfold ZkI;simp,by simp,by simp,by simp,by decide⟩,hle,?_⟩
 . exact (Za x1).trans ((Za (Zq (ZdQ (Zb rfl (Zb rfl (Zb rfl rfl))) (by simp)))).trans ((Za (Zq (Zt e4 (Zb (Zt e3 rfl) rfl)))).trans rfl))
 . rw [Oz];exact ⟨by simp;lia,fun m a n=>by rw [Oe (by lia)];exact u1.2 m a n⟩
inductive Sixth(h:Hd)(i:Nat)(S:Option D->Ev)(r:R (Fl×Ev)):Prop
 | mk (t:T) (h':Hd) (e:r=.ok (.nx,S (some t.d)) h') (c:Cl [] t) (s:t.size<=100) (d:dep t<=20) (u:Up i h h') (z:fw t<=150/\nb t<=dep t)
theorem Zp5(H:Mkr P)(hN:40<=N)(c:Ctx cs ns h i j m k sc a b)(ct:Cl [] t)(hd:nb t<=dep t/\dep t<=26)(hf:fw t<=150)(ha:a<2 ^ 50)(ro:D)(st:Int)(o2 o4 o6:Option D):Sixth h i (fun o=>vp ro st o2 (some (.ref i)) o4 o o6) (xs1 (P.tbl N) ZaF (vp ro st o2 (some (.ref i)) o4 (some t.d) o6) h):=by
 obtain ⟨g1,ew⟩:=ZgG H N t h (by lia);obtain ⟨g2,ed⟩:=ZoA H N t (h++g1) (by lia);have tw:tst (P.tbl N) (.ex (.cmp .Gt (.call (O "_law_width") (.cons (.var 5) .nil)) (.cst (.int 100)))) (vp ro st o2 (some (.ref i)) o4 (some t.d) o6) h=.ok (decide ((100:Int)<t.size)) (h++g1):=ZqZ (Zt ew rfl) rfl;have td:tst (P.tbl N) (.ex (.cmp .Gt (.call (O "_law_deep") (.cons (.var 5) .nil)) (.cst (.int 20)))) (vp ro st o2 (some (.ref i)) o4 (some t.d) o6) (h++g1)=.ok (decide ((20:Int)<dep t)) (h++g1++g2):=ZqZ (Zt ed rfl) rfl;have plain:∀ {q:Sxs} (g:Hd),∃ t' h',xs2 (P.tbl N) (.cons (.set (.nm 5) (.call (O "_law_plain") (.cons (.cst (.str (O "n"))) (.cons (.call (O "_law_next") (.cons (.var 3) .nil)) .nil)))) .nil) (vp ro st o2 (some (.ref i)) o4 (some t.d) o6) (h++g)=.ok (.nx,vp ro st o2 (some (.ref i)) o4 (some (T.d t')) o6) h'/\Cl [] t'/\(nb t'<=dep t'/\dep t'<=2)/\(t'.size<=4/\fw t'<=0)/\Up i h h':=fun g=>by
   obtain ⟨N,rfl⟩:∃ N3,N=N3+2:=⟨N - 2,by lia⟩
   obtain ⟨v,e8,_⟩:=ZhO H N (c.app (g:=g)).st ⟨c.ab,ha⟩;obtain ⟨tp,gp,e9,q1,q2,q3⟩:=ZfW H (N+1) (O "n") v ((h++g).set i (.lst [.ref j,.int (a+1),.int b])) [];exact ⟨tp,_,(Za (Zq (Zt e9 (Zb rfl (Zb (Zt e8 rfl) rfl))))).trans rfl,q1,q2,q3,(Up.app.trans Up.set).trans Up.app⟩
 by_cases hw:(100:Int)<t.size
 . obtain ⟨t',h',e,q1,q2,q3,u⟩:=plain (q:=.nil) g1;exact ⟨t',h',(Zu (ZsA (Zw tw (decide_eq_true hw)))).trans e,q1,by lia,by lia,u,by lia⟩
 . have tw':=Zw tw (decide_eq_false hw);by_cases hq:(20:Int)<dep t
   . obtain ⟨t',h',e,q1,q2,q3,u⟩:=plain (q:=.nil) (g1++g2);rw [<- Oz] at e;exact ⟨t',h',(Zu (ZlC tw' (Zw td (decide_eq_true hq)))).trans e,q1,by lia,by lia,u,by lia⟩
   . exact ⟨t,_,(Zx (ZlC tw' (Zw td (decide_eq_false hq)))).trans rfl,ct,by lia,by lia,Up.app.trans Up.app,hf,hd.1⟩
theorem Zkb (H:Mkr P) (hN:40<=N) (zs:List Int) (st:Int) (h:Hd) (hz:zs.length<=100):∃ t h',run P (N+1) (O "_law_program") [.ro (zs.map .int),.int st] h=.ok (T.d t) h'/\Cl [] t/\t.size<=100/\dep t<=20/\h.length<=h'.length/\(∀ q,q<h.length->h'[q]? = h[q]?)/\fw t<=150/\nb t<=dep t:=by
 rw [Zef H.program rfl];have A7:A 7=65536:=by decide
 cases Zp6 H hN zs st h hz with
 | mk cs ns h3 i j m e3 c4 li u3 =>
 cases ZmK H 7 N (by lia) c4 (O "n") 7 (by decide) (by decide) (by rw [A7];decide) with
 | mk t4 h4 a4 b4 e5 u4 s4 l1 l2 ct4 d4 z4 =>
 have z4:fw t4<=78:=by simp only [pz] at z4;lia
 rw [A7] at l2;cases turn H hN (c4.up u4 s4 (by lia)) ct4 (by lia) (by lia) (.ro (zs.map .int)) st (some (.ref j)) (some (.int 0)) with
 | mk t5 h5 a5 b5 e6 ct5 d5 u5 c6 l4 z5 =>
 cases turn H hN c6 ct5 (by lia) (by lia) (.ro (zs.map .int)) st (some (.ref j)) (some (.int 1)) with
 | mk t6 h6 a6 b6 e7 ct6 d6 u6 c7 l6 z6 =>
 cases Zp5 H hN c7 ct6 (by lia) (by lia) (by lia) (.ro (zs.map .int)) st (some (.ref j)) (some (.ref m)) (some (.int 1)) with
 | mk t hh x6 ct sz dt u z =>
 have u8:=(u3.trans ((Up.app (i:=i) (g:=[.lst []])).trans ((u4.trans u5).trans u6))).trans u;refine ⟨t,hh,?_,ct,sz,dt,u8.1,fun q hq=>u8.2 q hq (by lia),z⟩;have x5:xs1 (P.tbl N) ZaG (vp (.ro (zs.map .int)) st (some (.ref j)) (some (.ref i)) (some (.ref m)) (some t4.d) none) h4=.ok (.nx,vp (.ro (zs.map .int)) st (some (.ref j)) (some (.ref i)) (some (.ref m)) (some t6.d) (some (.int 1))) h6:=(ZdM (w:=⟨[],[.int 0,.int 1]⟩) rfl).trans ((Zv rfl e6).trans ((Zv rfl e7).trans rfl));exact (congrArg Zk ((e3 (.cons ZbY (.cons ZaG (.cons ZaF (.cons ZbX .nil))))).trans ((Za (Zq (Zt e5 (Zb rfl (Zb (ZdQ rfl (by simp)) rfl))))).trans ((Za x5).trans ((Za x6).trans rfl))))).trans rfl
end Gn
end
section
namespace Rw
open PySem L2 IV Gn
noncomputable def ZB:Sxs:=(.cons (.iff (.ors (.cons (.ex (.cmp .NotEq (.ix (.var 1) (.cst (.int 0))) (.cst (.str (O "num"))))) (.one (.ex (.cmp .NotEq (.ix (.var 2) (.cst (.int 0))) (.cst (.str (O "num")))))))) (.cons (.ret (.cst .non)) .nil) .nil) (.cons (.iff (.ex (.cmp .Eq (.var 0) (.cst (.str (O "<"))))) (.cons (.ret (.tupl (.cons (.cst (.str (O "num"))) (.cons (.ite (.ex (.cmp .Lt (.ix (.var 1) (.cst (.int 1))) (.ix (.var 2) (.cst (.int 1))))) (.cst (.int 1)) (.cst (.int 0))) .nil)))) .nil) .nil) (.cons (.iff (.ex (.cmp .Eq (.var 0) (.cst (.str (O "+"))))) (.cons (.ret (.tupl (.cons (.cst (.str (O "num"))) (.cons (.bin .Mod (.bin .Add (.ix (.var 1) (.cst (.int 1))) (.ix (.var 2) (.cst (.int 1)))) (.glo (O "BEYOND"))) .nil)))) .nil) .nil) (.cons (.iff (.ex (.cmp .Eq (.var 0) (.cst (.str (O "-"))))) (.cons (.ret (.tupl (.cons (.cst (.str (O "num"))) (.cons (.bin .Mod (.bin .Sub (.ix (.var 1) (.cst (.int 1))) (.ix (.var 2) (.cst (.int 1)))) (.glo (O "BEYOND"))) .nil)))) .nil) .nil) (.cons (.ret (.tupl (.cons (.cst (.str (O "num"))) (.cons (.bin .Mod (.bin .Mult (.ix (.var 1) (.cst (.int 1))) (.ix (.var 2) (.cst (.int 1)))) (.glo (O "BEYOND"))) .nil)))) .nil)))))
noncomputable def Zdl:Fd:=⟨[(O "word"),(O "first"),(O "second")],[(O "word"),(O "first"),(O "second")],ZB⟩
mutual
inductive Th where
 | num (n:Int)|clo (E:T) (ar:Ar)
inductive Ar where
 | nil|cons (x:Str) (v:Th) (r:Ar)
end
mutual
noncomputable def Th.d:Th->D
 | .num n=>.tup [.str (O "num"),.int n]
 | .clo E ar=>.tup [.str (O "clo"),E.d,.tup ar.ds]
noncomputable def Ar.ds:Ar->List D
 | .nil=>[]
 | .cons x v r=>.tup [.str x,v.d]::r.ds
end
noncomputable def Ar.len:Ar->Nat
 | .nil=>0
 | .cons _ _ r=>r.len+1
noncomputable def thD:Option Th->D
 | none=>.non
 | some v=>v.d
variable {P:Pg}{h:Hd}
noncomputable def wk(w:Wd)(a b:Int):Int:=match w with
 | .lt=>if a<b then 1 else 0
 | .add=>(a+b) % 1000000
 | .sub=>(a - b) % 1000000
 | .mul=>a * b % 1000000
theorem worked_nn (hw:P.tb.lookup (O "worked")=some Zdl) (hb:P.G (O "BEYOND")=some (.int 1000000)) (n:Nat) (w:Wd) (hx:0<=x/\x<1000000) (hy:0<=y/\y<1000000):run P (n+1) (O "worked") [.str w.s,(T.num x).d,(T.num y).d] h=.ok (T.num (wk w x y)).d h:=by
 rw [Zd hw (by rfl)];have gb:∀ S,ev (P.tbl n) (.glo (O "BEYOND")) S h=.ok (.int 1000000) h:=fun S=>by
   show R.ofO (P.G (O "BEYOND")) h=_;rw [hb];rfl
 have m2:opB .Mult (.int x) (.int y) h=.ok (.int (x * y)) h:=Zde ⟨ZT (by lia) (by lia),ZT (by lia) (by lia)⟩;have fin:∀ (S:Ev) (e:Ex) (z:Int),ev (P.tbl n) e S h=.ok (.int z) h->xs1 (P.tbl n) (.ret (.tupl (.cons (.cst (.str (O "num"))) (.cons (.bin .Mod e (.glo (O "BEYOND"))) .nil)))) S h=.ok (.rt (T.num (z % 1000000)).d,S) h:=fun S e z q =>
   Zz (ZaO (Zb rfl (Zb ((Zf q (gb S)).trans (ZC (by decide))) rfl)) (by simp))
 show Zk (xs2 (P.tbl n) ZB [some (.str w.s),some (T.num x).d,some (T.num y).d] h)=_;rw [nx1 (U:=P.tbl n) (ss:=ZB) (ρ1:=[some (.str w.s),some (T.num x).d,some (T.num y).d]) (h2:=h) rfl rfl];cases w with
 | lt=>by_cases e:x<y<;>simp [ZB,tlS,T.d,Wd.s,wk,e,sizeLine_eq]
 | add =>
   rw [nx1 (U:=P.tbl n) (ss:=tlS ZB) (ρ1:=[some (.str Wd.add.s),some (T.num x).d,some (T.num y).d]) (h2:=h) rfl rfl];exact rt1 (U:=P.tbl n) (ss:=tlS (tlS ZB)) ((Zu rfl).trans (Zc (fin _ _ (x+y) rfl))) rfl
 | sub =>
   rw [nx1 (U:=P.tbl n) (ss:=tlS ZB) (ρ1:=[some (.str Wd.sub.s),some (T.num x).d,some (T.num y).d]) (h2:=h) rfl rfl,nx1 (U:=P.tbl n) (ss:=tlS (tlS ZB)) (ρ1:=[some (.str Wd.sub.s),some (T.num x).d,some (T.num y).d]) (h2:=h) rfl rfl];exact rt1 (U:=P.tbl n) (ss:=tlS (tlS (tlS ZB))) ((Zu rfl).trans (Zc (fin _ _ (x - y) rfl))) rfl
 | mul =>
   rw [nx1 (U:=P.tbl n) (ss:=tlS ZB) (ρ1:=[some (.str Wd.mul.s),some (T.num x).d,some (T.num y).d]) (h2:=h) rfl rfl,nx1 (U:=P.tbl n) (ss:=tlS (tlS ZB)) (ρ1:=[some (.str Wd.mul.s),some (T.num x).d,some (T.num y).d]) (h2:=h) rfl rfl,nx1 (U:=P.tbl n) (ss:=tlS (tlS (tlS ZB))) (ρ1:=[some (.str Wd.mul.s),some (T.num x).d,some (T.num y).d]) (h2:=h) rfl rfl];exact rt1 (U:=P.tbl n) (ss:=tlS (tlS (tlS (tlS ZB)))) (fin _ _ (x * y) m2) rfl
end Rw
end
section
namespace IV
open PySem L2
mutual
noncomputable def D.pure:D->Bool
 | .non|.bl _|.int _|.str _=>true
 | .tup xs=>D.pures xs
 | _=>false
noncomputable def D.pures:List D->Bool
 | []=>true
 | x::xs=>D.pure x&&D.pures xs
end
mutual
noncomputable def D.dp:D->Nat
 | .tup xs=>D.dps xs+1
 | _=>0
noncomputable def D.dps:List D->Nat
 | []=>0
 | x::xs=>max (D.dp x) (D.dps xs)
end
mutual
theorem Zi5:∀ d:D,d.pure=true->∃ p,D.py rd d=some p/\p.depth<=d.dp/\PyData.eqv p p=true
 | .non,_=>⟨.none,rfl,Oq _,rfl⟩
 | .bl b,_=>⟨.bool b,rfl,Oq _,by simp [PyData.eqv]⟩
 | .int b,_=>⟨.int b,rfl,Oq _,by simp [PyData.eqv]⟩
 | .str b,_=>⟨.str b,rfl,Oq _,by simp [PyData.eqv]⟩
 | .tup xs,h=>by
   obtain ⟨ps,e1,e2,e3⟩:=pys_same (rd:=rd) xs (by simpa [D.pure] using h);refine ⟨.tuple ps,by simp [D.py,e1],?_,?_⟩
   . simp only [PyData.depth,D.dp];lia
   . simpa [PyData.eqv] using e3
 | .ref _,h=>by cases h
 | .ty _,h=>by cases h
 | .ro _,h=>by cases h
 | .kd _,h=>by cases h
theorem pys_same:∀ ds:List D,D.pures ds=true->∃ ps,D.pys rd ds=some ps/\PyData.depthAll ps<=D.dps ds/\PyData.eqvAll ps ps=true
 | [],_=>⟨[],rfl,Oq _,by simp [PyData.eqvAll]⟩
 | x::xs,h=>by
   rw [D.pures,Oa] at h;obtain ⟨p,a1,a2,a3⟩:=Zi5 (rd:=rd) x h.1;obtain ⟨ps,b1,b2,b3⟩:=pys_same (rd:=rd) xs h.2;refine ⟨p::ps,by simp [D.pys,a1,b1],?_,?_⟩
   . simp only [PyData.depthAll,D.dps];lia
   . simp [PyData.eqvAll,a3,b3]
end
theorem ZdI(hp:d.pure=true)(hd:d.dp<=1100):Zbr n d d h=.ok (.bl (!n)) h:=by
 obtain ⟨p,e1,e2,e3⟩:=Zi5 (rd:=ZfV h 4) d hp;unfold Zbr;rw [show Zf1 h d=some p from e1];simp only;rw [if_pos (by lia),e3];cases n<;>rfl
end IV
end
section
namespace Rw
open PySem L2 IV Gn
theorem wk_ok(w:Wd)(a b:Int):0<=wk w a b/\wk w a b<1000000:=by
 cases w<;>simp only [wk]
 . lia
 . lia
 . exact ⟨Int.emod_nonneg _ (by decide),Int.emod_lt_of_pos _ (by decide)⟩
 . split<;>lia
end Rw
end
section
namespace Tm
open PySem L2 IV
noncomputable def Z3:Sxs:=(.cons (.iff (.ex (.cmp .NotIn (.ix (.var 0) (.cst (.int 0))) (.glo (O "FORMS")))) (.cons (.ret (.tupl .nil)) .nil) .nil) (.cons (.ret (.sl (.var 0) (some (.cst (.int 1))) (some (.bin .Add (.cst (.int 1)) (.ix (.ix (.glo (O "FORMS")) (.ix (.var 0) (.cst (.int 0)))) (.cst (.int 0))))))) .nil))
noncomputable def ZcV:Fd:=⟨[(O "E")],[(O "E")],Z3⟩
noncomputable def ZaZ:Sxs:=(.cons (.iff (.ex (.cmp .NotIn (.ix (.var 0) (.cst (.int 0))) (.glo (O "FORMS")))) (.cons (.ret (.var 0)) .nil) .nil) (.cons (.ret (.sl (.var 0) none (some (.bin .Add (.cst (.int 1)) (.ix (.ix (.glo (O "FORMS")) (.ix (.var 0) (.cst (.int 0)))) (.cst (.int 0))))))) .nil))
noncomputable def Ze0:Fd:=⟨[(O "E")],[(O "E")],ZaZ⟩
noncomputable def Z2:Sxs:=(.cons (.iff (.ex (.cmp .NotIn (.ix (.var 0) (.cst (.int 0))) (.glo (O "FORMS")))) (.cons (.ret (.cst (.int 0))) .nil) .nil) (.cons (.ret (.ix (.ix (.glo (O "FORMS")) (.ix (.var 0) (.cst (.int 0)))) (.cst (.int 1)))) .nil))
noncomputable def ZcU:Fd:=⟨[(O "front")],[(O "front")],Z2⟩
noncomputable def ZjS:Sxs:=(.cons (.set (.nm 1) (.lstl .nil)) (.cons (.forr (.nm 2) (.rev (.var 0)) (.cons (.set (.nm 3) (.comp [(O "k"),(O "done")] [none,some 1] (.rng (.call (O "count_parts") (.cons (.var 2) .nil))) (.nm 0) none (.meth .pop (.var 1) .nil))) (.cons (.drp (.meth .app (.var 1) (.cons (.bin .Add (.var 2) (.blt .tup (.cons (.var 3) .nil))) .nil))) .nil))) (.cons (.ret (.ix (.var 1) (.cst (.int 0)))) .nil)))
noncomputable def Zgk:Fd:=⟨[(O "fronts")],[(O "fronts"),(O "done"),(O "front"),(O "parts")],ZjS⟩
noncomputable def ZfL:Sxs:=(.cons (.ret (.cmp .Gt (.blt .len (.cons (.call (O "places") (.cons (.var 0) .nil)) .nil)) (.glo (O "WIDEST")))) .nil)
noncomputable def ZdO:Fd:=⟨[(O "E")],[(O "E")],ZfL⟩
noncomputable def Zc7:Sxs:=(.cons (.forr (.two 2 3) (.pl (.var 1)) (.cons (.iff (.ex (.cmp .Eq (.var 2) (.var 0))) (.cons (.ret (.var 3)) .nil) .nil) .nil)) (.cons (.ret (.cst .non)) .nil))
noncomputable def Ze2:Fd:=⟨[(O "name"),(O "around")],[(O "name"),(O "around"),(O "known"),(O "thing")],Zc7⟩
noncomputable def ZmC:Sxs:=(.cons (.iff (.ex (.cmp .Eq (.ix (.var 0) (.cst (.int 0))) (.cst (.str (O "clo"))))) (.cons (.ret (.sl (.var 0) (some (.cst (.int 1))) none)) .nil) .nil) (.cons (.ret (.tupl (.cons (.var 0) (.cons (.tupl .nil) .nil)))) .nil))
noncomputable def Zhd:Fd:=⟨[(O "thing")],[(O "thing")],ZmC⟩
noncomputable def Ziy:Sxs:=(.cons (.iff (.ex (.cmp .NotEq (.ix (.var 0) (.cst (.int 0))) (.cst (.str (O "name"))))) (.cons (.ret (.cst .non)) .nil) .nil) (.cons (.ret (.call (O "bound_to") (.cons (.ix (.var 0) (.cst (.int 1))) (.cons (.var 1) .nil)))) .nil))
noncomputable def ZbE:Fd:=⟨[(O "place"),(O "around")],[(O "place"),(O "around")],Ziy⟩
noncomputable def Zhw:Sxs:=(.cons (.ret (.bin .Add (.blt .tup (.cons (.comp [(O "name")] [none] (.pl (.call (O "bound_names") (.cons (.var 0) .nil))) (.nm 0) none (.tupl (.cons (.var 0) (.cons (.cst .non) .nil)))) .nil)) (.var 1))) .nil)
noncomputable def ZeU:Fd:=⟨[(O "place"),(O "around")],[(O "place"),(O "around")],Zhw⟩
noncomputable def ZiB:Sxs:=(.cons (.ret (.cmp .In (.ix (.var 0) (.cst (.int 0))) (.glo (O "VALUES")))) .nil)
noncomputable def ZbG:Fd:=⟨[(O "E")],[(O "E")],ZiB⟩
noncomputable def ZbK:Sx:=(.set (.nm 2) (.blt .tup (.cons (.comp [(O "name"),(O "filling")] [none,some 1] (.dk (.var 1)) (.nm 0) none (.tupl (.cons (.var 0) (.cons (.tupl (.cons (.cst (.str (O "clo"))) (.cons (.ix (.var 1) (.var 0)) (.cons (.tupl .nil) .nil)))) .nil)))) .nil)))
noncomputable def ZbJ:Sx:=(.ret (.mcl (O "Pen") (O "filled") (.mk (O "Pen") (.cons (.cst .non) .nil)) (.cons (.var 0) (.cons (.var 2) .nil))))
noncomputable def ZmB:Sxs:=(.cons ZbK (.cons ZbJ .nil))
noncomputable def Zhc:Fd:=⟨[(O "E"),(O "filling")],[(O "E"),(O "filling"),(O "around")],ZmB⟩
noncomputable def Zfn:Sxs:=(.cons (.iff (.ex (.cmp .Eq (.ix (.var 0) (.cst (.int 0))) (.cst (.str (O "if"))))) (.cons (.ret (.sl (.var 0) (some (.cst (.int 1))) (some (.cst (.int 2))))) .nil) .nil) (.cons (.ret (.call (O "parts_of") (.cons (.var 0) .nil))) .nil))
noncomputable def ZU:Fd:=⟨[(O "E")],[(O "E")],Zfn⟩
noncomputable def ZgB:Sxs:=(.cons (.forr (.two 1 2) (.en1 (.call (O "parts_first") (.cons (.var 0) .nil))) (.cons (.iff (.nt (.ex (.call (O "is_value") (.cons (.var 2) .nil)))) (.cons (.ret (.var 1)) .nil) .nil) .nil)) (.cons (.ret (.cst .non)) .nil))
noncomputable def Zdp:Fd:=⟨[(O "E")],[(O "E"),(O "k"),(O "part")],ZgB⟩
noncomputable def Zfg:Sxs:=(.cons (.set (.nm 1) (.lstl (.cons (.tupl (.cons (.var 0) (.cons (.call (O "first_open") (.cons (.var 0) .nil)) .nil))) .nil))) (.cons (.whl (.ex (.cmp .IsNot (.ix (.ix (.var 1) (.neg (.cst (.int 1)))) (.cst (.int 1))) (.cst .non))) (.cons (.set (.nm 2) (.ix (.ix (.ix (.var 1) (.neg (.cst (.int 1)))) (.cst (.int 0))) (.ix (.ix (.var 1) (.neg (.cst (.int 1)))) (.cst (.int 1))))) (.cons (.drp (.meth .app (.var 1) (.cons (.tupl (.cons (.var 2) (.cons (.call (O "first_open") (.cons (.var 2) .nil)) .nil))) .nil))) .nil))) (.cons (.ret (.var 1)) .nil)))
noncomputable def ZeV:Fd:=⟨[(O "E")],[(O "E"),(O "way"),(O "inner")],Zfg⟩
noncomputable def Zcx:Sxs:=(.cons (.iff (.ex (.cmp .Eq (.ix (.var 0) (.cst (.int 0))) (.cst (.str (O "fn"))))) (.cons (.ret (.call (O "put_in") (.cons (.ix (.var 0) (.cst (.int 2))) (.cons (.dictl (.cons (.ix (.var 0) (.cst (.int 1))) (.cons (.var 1) .nil))) .nil)))) .nil) .nil) (.cons (.iff (.ex (.cmp .Eq (.ix (.var 0) (.cst (.int 0))) (.cst (.str (O "rec"))))) (.cons (.ret (.call (O "put_in") (.cons (.ix (.var 0) (.cst (.int 3))) (.cons (.dictl (.cons (.ix (.var 0) (.cst (.int 1))) (.cons (.var 0) (.cons (.ix (.var 0) (.cst (.int 2))) (.cons (.var 1) .nil))))) .nil)))) .nil) .nil) (.cons (.ret (.cst .non)) .nil)))
noncomputable def Zhf:Fd:=⟨[(O "F"),(O "A")],[(O "F"),(O "A")],Zcx⟩
noncomputable def Zhz:Sxs:=(.cons (.iff (.ex (.cmp .NotEq (.ix (.var 0) (.cst (.int 0))) (.cst (.str (O "num"))))) (.cons (.ret (.cst .non)) .nil) .nil) (.cons (.ret (.ite (.ex (.cmp .Eq (.ix (.var 0) (.cst (.int 1))) (.cst (.int 0)))) (.var 2) (.var 1))) .nil))
noncomputable def Ze1:Fd:=⟨[(O "C"),(O "T"),(O "E")],[(O "C"),(O "T"),(O "E")],Zhz⟩
noncomputable def Zff:Sx:=(.iff (.ors (.cons (.ex (.cmp .NotEq (.ix (.var 1) (.cst (.int 0))) (.cst (.str (O "num"))))) (.one (.ex (.cmp .NotEq (.ix (.var 2) (.cst (.int 0))) (.cst (.str (O "num")))))))) (.cons (.ret (.cst .non)) .nil) .nil)
noncomputable def Zir:Sx:=(.iff (.ex (.cmp .Eq (.var 0) (.cst (.str (O "<"))))) (.cons (.ret (.tupl (.cons (.cst (.str (O "num"))) (.cons (.ite (.ex (.cmp .Lt (.ix (.var 1) (.cst (.int 1))) (.ix (.var 2) (.cst (.int 1))))) (.cst (.int 1)) (.cst (.int 0))) .nil)))) .nil) .nil)
noncomputable def Ziq:Sx:=(.iff (.ex (.cmp .Eq (.var 0) (.cst (.str (O "+"))))) (.cons (.ret (.tupl (.cons (.cst (.str (O "num"))) (.cons (.bin .Mod (.bin .Add (.ix (.var 1) (.cst (.int 1))) (.ix (.var 2) (.cst (.int 1)))) (.glo (O "BEYOND"))) .nil)))) .nil) .nil)
noncomputable def Zip:Sx:=(.iff (.ex (.cmp .Eq (.var 0) (.cst (.str (O "-"))))) (.cons (.ret (.tupl (.cons (.cst (.str (O "num"))) (.cons (.bin .Mod (.bin .Sub (.ix (.var 1) (.cst (.int 1))) (.ix (.var 2) (.cst (.int 1)))) (.glo (O "BEYOND"))) .nil)))) .nil) .nil)
noncomputable def Zio:Sx:=(.ret (.tupl (.cons (.cst (.str (O "num"))) (.cons (.bin .Mod (.bin .Mult (.ix (.var 1) (.cst (.int 1))) (.ix (.var 2) (.cst (.int 1)))) (.glo (O "BEYOND"))) .nil))))
noncomputable def ZB:Sxs:=(.cons Zff (.cons Zir (.cons Ziq (.cons Zip (.cons Zio .nil)))))
noncomputable def Zdl:Fd:=⟨[(O "word"),(O "first"),(O "second")],[(O "word"),(O "first"),(O "second")],ZB⟩
noncomputable def ZiE:Sx:=(.iff (.ex (.cmp .Eq (.ix (.var 0) (.cst (.int 0))) (.cst (.str (O "call"))))) (.cons (.ret (.call (O "called") (.cons (.ix (.var 0) (.cst (.int 1))) (.cons (.ix (.var 0) (.cst (.int 2))) .nil)))) .nil) .nil)
noncomputable def ZiD:Sx:=(.iff (.ex (.cmp .Eq (.ix (.var 0) (.cst (.int 0))) (.cst (.str (O "if"))))) (.cons (.ret (.call (O "chosen") (.cons (.ix (.var 0) (.cst (.int 1))) (.cons (.ix (.var 0) (.cst (.int 2))) (.cons (.ix (.var 0) (.cst (.int 3))) .nil))))) .nil) .nil)
noncomputable def ZiC:Sx:=(.ret (.call (O "worked") (.cons (.ix (.var 0) (.cst (.int 0))) (.cons (.ix (.var 0) (.cst (.int 1))) (.cons (.ix (.var 0) (.cst (.int 2))) .nil)))))
noncomputable def Zal:Sxs:=(.cons ZiE (.cons ZiD (.cons ZiC .nil)))
noncomputable def Zhg:Fd:=⟨[(O "E")],[(O "E")],Zal⟩
noncomputable def Zfh:Sxs:=(.cons (.set (.nm 2) (.var 1)) (.cons (.forr (.two 3 4) (.rev (.var 0)) (.cons (.set (.nm 2) (.bin .Add (.bin .Add (.sl (.var 3) none (some (.var 4))) (.tupl (.cons (.var 2) .nil))) (.sl (.var 3) (some (.bin .Add (.var 4) (.cst (.int 1)))) none))) .nil)) (.cons (.ret (.var 2)) .nil)))
noncomputable def ZeW:Fd:=⟨[(O "way"),(O "E")],[(O "way"),(O "E"),(O "whole"),(O "place"),(O "inner")],Zfh⟩
noncomputable def Zba:Sx:=(.iff (.ex (.call (O "is_value") (.cons (.var 0) .nil))) (.cons (.ret (.tupl (.cons (.cst (.str (O "value"))) .nil))) .nil) .nil)
noncomputable def Zcm:Sx:=(.set (.nm 1) (.call (O "way_down") (.cons (.var 0) .nil)))
noncomputable def Zcl:Sx:=(.set (.nm 2) (.call (O "become") (.cons (.ix (.ix (.var 1) (.neg (.cst (.int 1)))) (.cst (.int 0))) .nil)))
noncomputable def Za9:Sx:=(.iff (.ex (.cmp .Is (.var 2) (.cst .non))) (.cons (.ret (.tupl (.cons (.cst (.str (O "stuck"))) .nil))) .nil) .nil)
noncomputable def Zck:Sx:=(.ret (.tupl (.cons (.cst (.str (O "loud"))) (.cons (.call (O "put_back") (.cons (.sl (.var 1) none (some (.neg (.cst (.int 1))))) (.cons (.var 2) .nil))) .nil))))
noncomputable def ZkG:Sxs:=(.cons Zba (.cons Zcm (.cons Zcl (.cons Za9 (.cons Zck .nil)))))
noncomputable def ZfD:Fd:=⟨[(O "E")],[(O "E"),(O "way"),(O "F")],ZkG⟩
noncomputable def Ziv:Sx:=(.set (.nm 2) (.lstl (.cons (.var 0) .nil)))
noncomputable def Ziu:Sx:=(.set (.nm 3) (.call (O "stepped") (.cons (.var 0) .nil)))
noncomputable def Zit:Sx:=(.whl (.ex (.cmp .Eq (.ix (.var 3) (.cst (.int 0))) (.cst (.str (O "loud"))))) (.cons (.iff (.ex (.cmp .Gt (.blt .len (.cons (.var 2) .nil)) (.var 1))) (.cons (.ret (.tupl (.cons (.var 2) (.cons (.cst (.str (O "open"))) .nil)))) .nil) .nil) (.cons (.iff (.ex (.call (O "is_wide") (.cons (.ix (.var 3) (.cst (.int 1))) .nil))) (.cons (.ret (.tupl (.cons (.var 2) (.cons (.cst (.str (O "wide"))) .nil)))) .nil) .nil) (.cons (.drp (.meth .app (.var 2) (.cons (.ix (.var 3) (.cst (.int 1))) .nil))) (.cons (.set (.nm 3) (.call (O "stepped") (.cons (.ix (.var 3) (.cst (.int 1))) .nil))) .nil)))))
noncomputable def Zis:Sx:=(.ret (.tupl (.cons (.var 2) (.cons (.ix (.var 3) (.cst (.int 0))) .nil))))
noncomputable def Zhx:Sxs:=(.cons Ziv (.cons Ziu (.cons Zit (.cons Zis .nil))))
noncomputable def Zhb:Fd:=⟨[(O "E"),(O "most")],[(O "E"),(O "most"),(O "row"),(O "step")],Zhx⟩
noncomputable def Zcy:Sxs:=(.cons (.seta [(O "Pen")] (.var 0) (O "most") (.var 1)) (.cons (.seta [(O "Pen")] (.var 0) (O "used") (.cst (.int 0))) .nil))
noncomputable def Zai:Fd:=⟨[(O "self"),(O "most")],[(O "self"),(O "most")],Zcy⟩
noncomputable def Zgz (x:Sx):Sxs:=(.cons (.iff (.ex (.cmp .Eq (.att [(O "Pen")] (.var 0) (O "used")) (.att [(O "Pen")] (.var 0) (O "most")))) (.cons x .nil) .nil) (.cons (.auga [(O "Pen")] (.var 0) (O "used") (.cst (.int 1))) .nil))
noncomputable def Zif (x:Sx):Fd:=⟨[(O "self")],[(O "self")],Zgz x⟩
noncomputable def ZdU:Sxs:=Zgz .any
noncomputable def ZdP:Fd:=⟨[(O "self")],[(O "self")],ZdU⟩
noncomputable def ZbO:Sxs:=(.cons (.set (.nm 3) (.lstl .nil)) (.cons (.set (.nm 4) (.lstl (.cons (.tupl (.cons (.var 1) (.cons (.var 2) .nil))) .nil))) (.cons (.whl (.ex (.var 4)) (.cons (.set (.nm 5) (.meth .pop (.var 4) .nil)) (.cons (.set (.nm 6) (.call (O "meant_by") (.cons (.ix (.var 5) (.cst (.int 0))) (.cons (.ix (.var 5) (.cst (.int 1))) .nil)))) (.cons (.iff (.ex (.cmp .Is (.var 6) (.cst .non))) (.cons (.drp (.mcl (O "Pen") (O "take_place") (.var 0) .nil)) (.cons (.drp (.meth .app (.var 3) (.cons (.call (O "front_of") (.cons (.ix (.var 5) (.cst (.int 0))) .nil)) .nil))) (.cons (.set (.nm 7) (.call (O "within") (.cons (.ix (.var 5) (.cst (.int 0))) (.cons (.ix (.var 5) (.cst (.int 1))) .nil)))) (.cons (.drp (.meth .ext (.var 4) (.cons (.comp [(O "part"),(O "inner")] [none,some 7] (.rev (.call (O "parts_of") (.cons (.ix (.var 5) (.cst (.int 0))) .nil))) (.nm 0) none (.tupl (.cons (.var 0) (.cons (.var 1) .nil)))) .nil))) .nil)))) (.cons (.drp (.meth .app (.var 4) (.cons (.call (O "opened") (.cons (.var 6) .nil)) .nil))) .nil)) .nil)))) (.cons (.ret (.call (O "built") (.cons (.var 3) .nil))) .nil))))
noncomputable def Zdq:Fd:=⟨[(O "self"),(O "E"),(O "around")],[(O "self"),(O "E"),(O "around"),(O "fronts"),(O "waiting"),(O "pair"),(O "thing"),(O "inner")],ZbO⟩
structure Trb(P:Pg):Prop extends Gn.Tre P where
 bound_names:P.tb.lookup (O "bound_names")=some ZcV
 front_of:P.tb.lookup (O "front_of")=some Ze0
 count_parts:P.tb.lookup (O "count_parts")=some ZcU
 built:P.tb.lookup (O "built")=some Zgk
 bound_to:P.tb.lookup (O "bound_to")=some Ze2
 opened:P.tb.lookup (O "opened")=some Zhd
 meant_by:P.tb.lookup (O "meant_by")=some ZbE
 within:P.tb.lookup (O "within")=some ZeU
 n_Pen___init__:P.tb.lookup (mnm (O "Pen") (O "__init__"))=none
 Pen___init__:P.ms.lookup (mnm (O "Pen") (O "__init__"))=some Zai
 n_Pen_take_place:P.tb.lookup (mnm (O "Pen") (O "take_place"))=none
 tk:∃ x,P.ms.lookup (mnm (O "Pen") (O "take_place"))=some (Zif x)
 n_Pen_filled:P.tb.lookup (mnm (O "Pen") (O "filled"))=none
 Pen_filled:P.ms.lookup (mnm (O "Pen") (O "filled"))=some Zdq
structure Trm(P:Pg):Prop extends Trb P where
 is_value:P.tb.lookup (O "is_value")=some ZbG
 put_in:P.tb.lookup (O "put_in")=some Zhc
 parts_first:P.tb.lookup (O "parts_first")=some ZU
 first_open:P.tb.lookup (O "first_open")=some Zdp
 way_down:P.tb.lookup (O "way_down")=some ZeV
 called:P.tb.lookup (O "called")=some Zhf
 chosen:P.tb.lookup (O "chosen")=some Ze1
 worked:P.tb.lookup (O "worked")=some Zdl
 become:P.tb.lookup (O "become")=some Zhg
 put_back:P.tb.lookup (O "put_back")=some ZeW
 stepped:P.tb.lookup (O "stepped")=some ZfD
 gv:P.G (O "VALUES")=some (.tup [.str (O "num"),.str (O "fn"),.str (O "rec")])
 gb:P.G (O "BEYOND")=some (.int 1000000)
structure Trw(P:Pg):Prop extends Trm P where
 is_wide:P.tb.lookup (O "is_wide")=some ZdO
 row_of:P.tb.lookup (O "row_of")=some Zhb
 gw:P.G (O "WIDEST")=some (.int 120)
 pl:P.tb.lookup (O "places")=some Gn.Zdm
end Tm
end
section
namespace Tm
open PySem L2 IV
variable {P:Pg}{h:Hd}
section
variable {w:Wd}
@[simp] theorem ZhF:(w.s=O "num")↔False:=by cases w<;>simp [Wd.s]
@[simp] theorem Zem:ZM Gn.Zbv (.inr w.s)=some (.tup [.int 0,.int 2]):=by cases w<;>rfl
end
noncomputable def bnd:T->List Str
 | .fn x _=>[x]
 | .rcc f x _=>[f,x]
 | _=>[]
noncomputable def fr:T->List D
 | .num n=>[.str (O "num"),.int n]
 | .name x=>[.str (O "name"),.str x]
 | .fn x _=>[.str (O "fn"),.str x]
 | .rcc f x _=>[.str (O "rec"),.str f,.str x]
 | .call _ _=>[.str (O "call")]
 | .iff _ _ _=>[.str (O "if")]
 | .op w _ _=>[.str w.s]
theorem ZuA(t:T):t.d=.tup (fr t++t.parts.map T.d):=by cases t<;>rfl
theorem Znm (H:Trb P) (n:Nat) (t:T) (h:Hd):run P (n+1) (O "bound_names") [t.d] h=.ok (.tup ((bnd t).map .str)) h:=by
 have no:∀ (w:Str) (ds:List D),ZM Gn.Zbv (.inr w)=none->run P (n+1) (O "bound_names") [.tup (.str w::ds)] h=.ok (.tup []) h:=fun w ds e=>by
   rw [Zd H.bound_names rfl];show Zk (xs2 (P.tbl n) Z3 [some (.tup (.str w::ds))] h)=_;rw [Z3,Zc ((Zu (Gn.Za3 H.toTre ⟨rfl,rfl⟩ Gn.ZcQ e)).trans (Zc (Zz (d:=.tup []) rfl)))];rfl
 have yes:∀ (w:Str) (ds:List D) (a b:Int),ZM Gn.Zbv (.inr w)=some (.tup [.int a,.int b])->run P (n+1) (O "bound_names") [.tup (.str w::ds)] h=.ok (.tup (cutD (.str w::ds) (some 1) (some (1+a)))) h:=fun w ds a b e=>by
   rw [Zd H.bound_names rfl];show Zk (xs2 (P.tbl n) Z3 [some (.tup (.str w::ds))] h)=_;have q:=Gn.Zid H.toTre (U:=P.tbl n) ⟨rfl,rfl⟩ (ds:=ds) (h:=h) e;have r:ev (P.tbl n) (.sl (.var 0) (some (.cst (.int 1))) (some (.bin .Add (.cst (.int 1)) (.ix (.ix (.glo (O "FORMS")) (.ix (.var 0) (.cst (.int 0)))) (.cst (.int 0)))))) [some (.tup (.str w::ds))] h=.ok (.tup (cutD (.str w::ds) (some 1) (some (1+a)))) h:=(Gn.ZiY (a:=.var 0) (x:=.tup (.str w::ds)) rfl rfl (Gn.Zgn q)).trans rfl;rw [Z3,Za ((Zx (Gn.Za3 H.toTre ⟨rfl,rfl⟩ Gn.ZcQ e)).trans rfl),Zc (Zz r)];rfl
 cases t with
 | num z=>exact no (O "num") _ rfl
 | name x=>exact no (O "name") _ rfl
 | fn x e=>exact yes (O "fn") _ 1 1 rfl
 | rcc f x e=>exact yes (O "rec") _ 2 1 rfl
 | call f a=>exact yes (O "call") _ 0 2 rfl
 | iff c a b=>exact yes (O "if") _ 0 3 rfl
 | op w a b=>exact yes w.s _ 0 2 Zem
theorem Zg8 (H:Trb P) (n:Nat) (h:Hd) (w:Str) (ds:List D) (e:ZM Gn.Zbv (.inr w)=none):run P (n+1) (O "front_of") [.tup (.str w::ds)] h=.ok (.tup (.str w::ds)) h:=by
 rw [Zd H.front_of rfl];show Zk (xs2 (P.tbl n) ZaZ [some (.tup (.str w::ds))] h)=_;rw [ZaZ,Zc ((Zu (Gn.Za3 H.toTre ⟨rfl,rfl⟩ Gn.ZcQ e)).trans (Zc (Zz (d:=.tup (.str w::ds)) rfl)))];rfl
theorem Zbu (H:Trb P) (n:Nat) (h:Hd) (w:Str) (ds:List D) (a b:Int) (e:ZM Gn.Zbv (.inr w)=some (.tup [.int a,.int b])):run P (n+1) (O "front_of") [.tup (.str w::ds)] h=.ok (.tup (cutD (.str w::ds) none (some (1+a)))) h:=by
 rw [Zd H.front_of rfl];show Zk (xs2 (P.tbl n) ZaZ [some (.tup (.str w::ds))] h)=_;have q:=Gn.Zid H.toTre (U:=P.tbl n) ⟨rfl,rfl⟩ (ds:=ds) (h:=h) e;have r:ev (P.tbl n) (.sl (.var 0) none (some (.bin .Add (.cst (.int 1)) (.ix (.ix (.glo (O "FORMS")) (.ix (.var 0) (.cst (.int 0)))) (.cst (.int 0)))))) [some (.tup (.str w::ds))] h=.ok (.tup (cutD (.str w::ds) none (some (1+a)))) h:=(Gn.ZiY (a:=.var 0) (x:=.tup (.str w::ds)) rfl rfl (Gn.Zgn q)).trans rfl;rw [ZaZ,Za ((Zx (Gn.Za3 H.toTre ⟨rfl,rfl⟩ Gn.ZcQ e)).trans rfl),Zc (Zz r)];rfl
theorem Znj (H:Trb P) (n:Nat) (t:T) (h:Hd):run P (n+1) (O "front_of") [t.d] h=.ok (.tup (fr t)) h:=by
 cases t with
 | num z=>exact Zg8 H n h (O "num") _ rfl
 | name x=>exact Zg8 H n h (O "name") _ rfl
 | fn x e=>exact Zbu H n h (O "fn") _ 1 1 rfl
 | rcc f x e=>exact Zbu H n h (O "rec") _ 2 1 rfl
 | call f a=>exact Zbu H n h (O "call") _ 0 2 rfl
 | iff c a b=>exact Zbu H n h (O "if") _ 0 3 rfl
 | op w a b=>exact Zbu H n h w.s _ 0 2 Zem
theorem Znk (H:Trb P) (n:Nat) (t:T) (h:Hd):run P (n+1) (O "count_parts") [.tup (fr t)] h=.ok (.int t.parts.length) h:=by
 have no:∀ (w:Str) (ds:List D),ZM Gn.Zbv (.inr w)=none->run P (n+1) (O "count_parts") [.tup (.str w::ds)] h=.ok (.int 0) h:=fun w ds e=>by
   rw [Zd H.count_parts rfl];show Zk (xs2 (P.tbl n) Z2 [some (.tup (.str w::ds))] h)=_;rw [Z2,Zc ((Zu (Gn.Za3 H.toTre ⟨rfl,rfl⟩ Gn.ZcQ e)).trans (Zc (Zz (d:=.int 0) rfl)))];rfl
 have yes:∀ (w:Str) (ds:List D) (a b:Int),ZM Gn.Zbv (.inr w)=some (.tup [.int a,.int b])->run P (n+1) (O "count_parts") [.tup (.str w::ds)] h=.ok (.int b) h:=fun w ds a b e=>by
   rw [Zd H.count_parts rfl];show Zk (xs2 (P.tbl n) Z2 [some (.tup (.str w::ds))] h)=_;have r:ev (P.tbl n) (.ix (.ix (.glo (O "FORMS")) (.ix (.var 0) (.cst (.int 0)))) (.cst (.int 1))) [some (.tup (.str w::ds))] h=.ok (.int b) h:=by
     rw [Zhh,Gn.Zjw H.toTre ⟨rfl,rfl⟩ Gn.ZcQ e];rfl
   rw [Z2,Za ((Zx (Gn.Za3 H.toTre ⟨rfl,rfl⟩ Gn.ZcQ e)).trans rfl),Zc (Zz r)];rfl
 cases t with
 | num z=>exact no (O "num") _ rfl
 | name x=>exact no (O "name") _ rfl
 | fn x e=>exact yes (O "fn") _ 1 1 rfl
 | rcc f x e=>exact yes (O "rec") _ 2 1 rfl
 | call f a=>exact yes (O "call") _ 0 2 rfl
 | iff c a b=>exact yes (O "if") _ 0 3 rfl
 | op w a b=>exact yes w.s _ 0 2 Zem
noncomputable abbrev Ar:=List (Str×Option T)
noncomputable def thd (V:T):D:=.tup [.str (O "clo"),V.d,.tup []]
noncomputable def ard(p:Str×Option T):D:=.tup [.str p.1,match p.2 with|some V=>thd V|none=>.non]
noncomputable def get:Ar->Str->Option T
 | [],_=>none
 | (y,v)::r,x=>if y=x then v else get r x
noncomputable abbrev En:=List (Str×Option Rw.Th)
noncomputable def edd(p:Str×Option Rw.Th):D:=.tup [.str p.1,Rw.thD p.2]
noncomputable def Zc3:En->Str->Option Rw.Th
 | [],_=>none
 | (y,v)::r,x=>if y=x then v else Zc3 r x
noncomputable def ZlW:Sxs:=(.cons (.iff (.ex (.cmp .Eq (.var 2) (.var 0))) (.cons (.ret (.var 3)) .nil) .nil) .nil)
theorem ZsY:∀ (ar:En) (a b:Option D),(∃ S,ZP [] (.two 2 3) (xs2 U ZlW) (ar.map edd) [some (.str x),some o,a,b] h=.ok (.rt (Rw.thD (Zc3 ar x)),S) h)\/(Zc3 ar x=none/\∃ S,ZP [] (.two 2 3) (xs2 U ZlW) (ar.map edd) [some (.str x),some o,a,b] h=.ok (.nx,S) h)
 | [],a,b=>.inr ⟨rfl,_,rfl⟩
 | (y,v)::r,a,b=>by
   have tt:tst U (.ex (.cmp .Eq (.var 2) (.var 0))) [some (.str x),some o,some (.str y),some (Rw.thD v)] h=.ok (decide (y=x)) h:=ZbH rfl rfl;by_cases e:y=x
   . refine .inl ⟨[some (.str x),some o,some (.str y),some (Rw.thD v)],?_⟩;rw [Zc3,if_pos e];exact Zq2 rfl (Zc ((Zu (Zw tt (decide_eq_true e))).trans (Zc (Zz rfl))))
   . have b1:xs2 U ZlW [some (.str x),some o,some (.str y),some (Rw.thD v)] h=.ok (.nx,[some (.str x),some o,some (.str y),some (Rw.thD v)]) h:=(Za ((Zx (Zw tt (decide_eq_false e))).trans rfl)).trans rfl;have s1:=Zv (g:=.two 2 3) (ds:=r.map edd) (S:=[some (.str x),some o,a,b]) (d:=edd (y,v)) rfl b1;rw [Zc3,if_neg e];rcases ZsY (U:=U) (x:=x) (o:=o) r (some (.str y)) (some (Rw.thD v)) with ⟨S,q⟩|⟨q0,S,q⟩
     . exact .inl ⟨S,s1.trans q⟩
     . exact .inr ⟨q0,S,s1.trans q⟩
theorem Zua (H:Trb P) (n:Nat) (x:Str) (ar:En):run P (n+1) (O "bound_to") [.str x,.tup (ar.map edd)] h=.ok (Rw.thD (Zc3 ar x)) h:=by
 rw [Zd H.bound_to (by rfl)];rcases ZsY (U:=P.tbl n) (h:=h) (x:=x) (o:=.tup (ar.map edd)) ar none none with ⟨S,q⟩|⟨q0,S,q⟩
 . have w:xs2 (P.tbl n) Zc7 [some (.str x),some (.tup (ar.map edd)),none,none] h=.ok (.rt (Rw.thD (Zc3 ar x)),S) h:=Zc ((ZdM (Zgm rfl)).trans q);exact congrArg Zk w
 . have w:xs2 (P.tbl n) Zc7 [some (.str x),some (.tup (ar.map edd)),none,none] h=.ok (.rt .non,S) h:=(Za ((ZdM (Zgm rfl)).trans q)).trans (Zc (Zz rfl));rw [q0];exact congrArg Zk w
noncomputable def mean(ar:Ar):T->Option T
 | .name x=>get ar x
 | _=>none
noncomputable def Zbx(ar:En):T->Option Rw.Th
 | .name x=>Zc3 ar x
 | _=>none
theorem ZfZ (H:Trb P) (n:Nat) (t:T) (ar:En):run P (n+2) (O "meant_by") [t.d,.tup (ar.map edd)] h=.ok (Rw.thD (Zbx ar t)) h:=by
 rw [Zd H.meant_by (by cases t<;>rfl)];cases t with
 | name x =>
   exact Zfe (U:=P.tbl (n+1)) (fun U=>Zk (xs2 U ZbE.body (Zs ZbE.N [(T.name x).d,.tup (ar.map edd)]) h)) (Zua H n (h:=h) x ar) rfl rfl
 | op w a b=>cases w<;>exact rfl
 | _=>exact rfl
noncomputable def inn(t:T)(ar:Ar):Ar:=(bnd t).map (fun x=>(x,none))++ar
noncomputable def Zbk(t:T)(ar:En):En:=(bnd t).map (fun x=>(x,none))++ar
theorem Zht:∀ (xs:List Str) (acc:List D),acc.length+xs.length<=1000->ZF [] (.nm 0) (tsto U none) (ev U (.tupl (.cons (.var 0) (.cons (.cst .non) .nil)))) (xs.map .str) [none] acc h=.ok (acc++(xs.map fun x=>D.tup [.str x,.non])) h
 | [],acc,_=>by simp [ZF,Wk.stays]
 | x::xs,acc,hz=>by
   have ih:=Zht (U:=U) xs (acc++[.tup [.str x,.non]]) (by simp at hz ⊢;lia);have hl:acc.length<16777216:=by simp at hz;lia
   rw [Op,ZK];simp [Wk.stays,hl,sizeLine_eq];simpa using ih
theorem Zk9 (H:Trb P) (n:Nat) (t:T) (ar:En) (hz:ar.length<=100000):run P (n+2) (O "within") [t.d,.tup (ar.map edd)] h=.ok (.tup ((Zbk t ar).map edd)) (h++[.lst ((bnd t).map fun x=>.tup [.str x,.non])]):=by
 rw [Zd H.within (by cases t<;>rfl)];have e:=Znm H n t h;have hb:(bnd t).length<=2:=by cases t<;>simp [bnd]
 have c:=Zht (U:=⟨P.G,P.GD,run P (n+1),P.L⟩) (h:=h) (bnd t) [] (by simp;lia);have cat:∀ h',opB .Add (.tup ((bnd t).map fun x=>D.tup [.str x,.non])) (.tup (ar.map edd)) h'=.ok (.tup ((Zbk t ar).map edd)) h':=by
   intro h';rw [Zf6 (by rw [sizeLine_eq];simp;lia)];simp [Zbk,edd,Rw.thD,Function.comp_def]
 simp at c;simp [ZeU,Zhw,Zs,e,Zan,ZaJ,c,Zao,ZiG,lstOf,cat]
noncomputable def opn:Rw.Th->T×Rw.Ar
 | .num n=>(.num n,.nil)
 | .clo E ar=>(E,ar)
theorem Zlc (H:Trb P) (n:Nat) (v:Rw.Th):run P (n+1) (O "opened") [v.d] h=.ok (.tup [(opn v).1.d,.tup (opn v).2.ds]) h:=by
 rw [Zd H.opened (by cases v<;>rfl)];cases v<;>exact rfl
end Tm
end
section
namespace Tm
open PySem L2 IV
variable {P:Pg}
noncomputable def sub:Ar->T->T
 | _,.num n=>.num n
 | ar,.name x=>(get ar x).getD (.name x)
 | ar,.fn x e=>.fn x (sub ((x,none)::ar) e)
 | ar,.rcc f x e=>.rcc f x (sub ((f,none)::(x,none)::ar) e)
 | ar,.call f a=>.call (sub ar f) (sub ar a)
 | ar,.iff c t e=>.iff (sub ar c) (sub ar t) (sub ar e)
 | ar,.op w a b=>.op w (sub ar a) (sub ar b)
noncomputable def NN(ar:Ar):Prop:=∀ x,get ar x=none
theorem NN.cons(h:NN ar)(y:Str):NN ((y,none)::ar):=fun x=>by
 unfold get;split
 . rfl
 . exact h x
theorem Zbf:∀ (t:T) {ar:Ar},NN ar->sub ar t=t
 | .num _,_,_=>rfl
 | .name x,_,h=>by rw [sub,h x];rfl
 | .fn x e,_,h=>by rw [sub,Zbf e (h.cons x)]
 | .rcc f x e,_,h=>by rw [sub,Zbf e ((h.cons x).cons f)]
 | .call f a,_,h=>by rw [sub,Zbf f h,Zbf a h]
 | .iff c t e,_,h=>by rw [sub,Zbf c h,Zbf t h,Zbf e h]
 | .op w a b,_,h=>by rw [sub,Zbf a h,Zbf b h]
theorem Ze(t:T):t.size=1+(t.parts.map T.size).sum:=by
 unfold T.size;rw [T.places_parts];simp only [Os,List.length_flatMap]
 lia
theorem Zb3(t:T):1<=t.size:=by rw [Ze];lia
theorem Zj4(t:T)(ar:Ar)(h:mean ar t=none):(sub ar t).parts=t.parts.map (sub (inn t ar))/\fr (sub ar t)=fr t:=by
 cases t with
 | name x=>rw [sub,show get ar x=none from h];exact ⟨rfl,rfl⟩
 | _=>exact ⟨rfl,rfl⟩
theorem Zkt{t:T}{V:T}(h:mean ar t=some V):sub ar t=V:=by
 cases t with
 | name x=>rw [sub,show get ar x=some V from h];rfl
 | _=>cases h
end Tm
namespace Rw
open PySem L2 IV
mutual
noncomputable def rd:Th->T
 | .num n=>.num n
 | .clo E ar=>Tm.sub (ra ar) E
noncomputable def ra:Ar->List (Str×Option T)
 | .nil=>[]
 | .cons x v r=>(x,some (rd v))::ra r
end
end Rw
namespace Tm
open PySem L2 IV
variable {P:Pg}
noncomputable def er(e:En):Ar:=e.map fun p=>(p.1,p.2.map Rw.rd)
noncomputable def up:Rw.Ar->En
 | .nil=>[]
 | .cons x v r=>(x,some v)::up r
theorem Zo1:∀ ar:Rw.Ar,(up ar).map edd=ar.ds
 | .nil=>by rw [up,Rw.Ar.ds];rfl
 | .cons x v r=>by rw [up,Rw.Ar.ds,Op,Zo1 r];rfl
theorem Zpl:∀ ar:Rw.Ar,er (up ar)=Rw.ra ar
 | .nil=>by rw [up,Rw.ra];rfl
 | .cons x v r=>by rw [up,Rw.ra,<- Zpl r];rfl
theorem ZkP:∀ ar:Rw.Ar,(up ar).length=ar.len
 | .nil=>rfl
 | .cons x v r=>by rw [up,Rw.Ar.len,Os,ZkP r]
theorem Zib(x:Str):∀ e:En,get (er e) x=(Zc3 e x).map Rw.rd
 | []=>rfl
 | (y,v)::r=>by
   show (if y=x then v.map Rw.rd else get (er r) x)=(if y=x then v else Zc3 r x).map Rw.rd;split
   . rfl
   . exact Zib x r
theorem Zrd(t:T)(e:En):er (Zbk t e)=inn t (er e):=by simp [er,Zbk,inn,Function.comp_def]
noncomputable def tel(p:T×En):T:=sub (er p.2) p.1
theorem Zij(h:Zbx e t=none):mean (er e) t=none:=by
 cases t with
 | name x=>show get (er e) x=none;rw [Zib,show Zc3 e x=none from h];rfl
 | _=>rfl
theorem ZiU(v:Rw.Th):tel ((opn v).1,up (opn v).2)=Rw.rd v:=by
 cases v with
 | num n=>rw [Rw.rd];rfl
 | clo E ar=>show sub (er (up ar)) E=_;rw [Zpl,Rw.rd]
theorem Ze5{t:T}{v:Rw.Th}(h:Zbx e t=some v):tel (t,e)=Rw.rd v:=by
 cases t with
 | name x=>refine Zkt ?_;show get (er e) x=_;rw [Zib,show Zc3 e x=some v from h];rfl
 | _=>cases h
theorem Zft(h:Zbx e t=none):(tel (t,e)).parts=t.parts.map (fun s=>tel (s,Zbk t e))/\fr (tel (t,e))=fr t:=by
 obtain ⟨a,b⟩:=Zj4 t (er e) (Zij h);refine ⟨a.trans ?_,b⟩;rw [<- Zrd];rfl
noncomputable def tf(t:T):D:=.tup (fr t)
theorem ZeE{h:Hd}(e:h[i]? = some o):i<h.length:=(Ob.mp e).1
theorem keep{h:Hd}{i:Nat}{g:Hd}(e:h[i]? = some o):(h++g)[i]? = some o:=by
 rw [Oe (ZeE e)];exact e
structure B_(h0 h:Hd)(fk dk:Nat)(fs ds:List D):Prop where
 f:h[fk]? = some (.lst fs)
 d:h[dk]? = some (.lst ds)
 ne:dk≠fk
 o1:h0.length<=dk
 ol:h0.length<=h.length
 old:∀ i,i<h0.length->h[i]? = h0[i]?
theorem B_.set{h0 h:Hd}(b:B_ h0 h fk dk fs ds)(es:List D):B_ h0 (h.set dk (.lst es)) fk dk fs es :=
 ⟨by rw [Oc b.ne];exact b.f,by rw [Ol (ZeE b.d)],b.ne,b.o1,by simpa using b.ol,fun i hi=>by rw [Oc (by have:=b.o1;lia)];exact b.old i hi⟩
theorem B_.app{h0 h g:Hd}{fk dk:Nat}{fs ds:List D}(b:B_ h0 h fk dk fs ds):B_ h0 (h++g) fk dk fs ds :=
 ⟨keep b.f,keep b.d,b.ne,b.o1,by have:=b.ol;simp;lia,fun i hi=>by rw [Oe (by have:=b.ol;lia)];exact b.old i hi⟩
theorem Zpq:∀ (ks xs D0 acc:List D) (h:Hd),ks.length=xs.length->acc.length+xs.length<=1000->B_ h0 h fk dk fs (D0++xs.reverse)->∃ h',
   ZF [] (.nm 0) (tsto U none) (ev U (.meth .pop (.var 1) .nil)) ks [none,some (.ref dk)] acc h=.ok (acc++xs) h'/\B_ h0 h' fk dk fs D0
 | [],[],D0,acc,h,_,_,b=>⟨h,by simp [ZF,Wk.stays],by simpa using b⟩
 | [],_::_,_,_,_,e,_,_=>by cases e
 | _::_,[],_,_,_,e,_,_=>by cases e
 | k::ks,x::xs,D0,acc,h,e,hz,b=>by
   have b1:B_ h0 h fk dk fs ((D0++xs.reverse)++[x]):=by simpa using b
   obtain ⟨h',q,b2⟩:=Zpq (U:=U) ks xs D0 (acc++[x]) _ (by simpa using e) (by simp at hz ⊢;lia) (b1.set (D0++xs.reverse));refine ⟨h',?_,b2⟩;have pp:=Zg0 b1.d;have il:=ZcG b1.d;have hl:acc.length<16777216:=by simp at hz;lia
   rw [ZK];simp [Wk.stays,hl,sizeLine_eq,il,pp];simpa using q
noncomputable def Zdf:Sxs:=(.cons (.set (.nm 3) (.comp [(O "k"),(O "done")] [none,some 1] (.rng (.call (O "count_parts") (.cons (.var 2) .nil))) (.nm 0) none (.meth .pop (.var 1) .nil))) (.cons (.drp (.meth .app (.var 1) (.cons (.bin .Add (.var 2) (.blt .tup (.cons (.var 3) .nil))) .nil))) .nil))
theorem Zm7(H:Trb P)(n:Nat){h0 h:Hd}{fk dk:Nat}{fs D0:List D}(t:T)(b:B_ h0 h fk dk fs (D0++(t.parts.map T.d).reverse))(hz:D0.length<=1000000)(o0 o3:Option D):∃ h' o3',
   xs2 (P.tbl (n+1)) Zdf [o0,some (.ref dk),some (tf t),o3] h=.ok (.nx,[o0,some (.ref dk),some (tf t),o3']) h'/\B_ h0 h' fk dk fs (D0++[t.d]):=by
 have hp:t.parts.length<=3:=by cases t<;>simp [T.parts]
 have hf:(fr t).length<=3:=by cases t<;>simp [fr]
 have ec:=Znk H n t h;obtain ⟨h1,q1,b1⟩:=Zpq (U:=P.tbl (n+1)) (Zac 0 t.parts.length) (t.parts.map T.d) D0 [] h (by simp [Zac]) (by simp;lia) b;have s62:ZaL (t.parts.length:Int)=true:=by simp [ZaL];lia
 have b2:=(b1.app (g:=[.lst (t.parts.map T.d)])).set (D0++[t.d]);refine ⟨_,some (.ref h1.length),?_,b2⟩;have k1:(h1++[DO.lst (t.parts.map T.d)])[dk]? = some (.lst D0):=keep b1.d;have x1:xs1 (P.tbl (n+1)) (.set (.nm 3) (.comp [(O "k"),(O "done")] [none,some 1] (.rng (.call (O "count_parts") (.cons (.var 2) .nil))) (.nm 0) none (.meth .pop (.var 1) .nil))) [o0,some (.ref dk),some (tf t),o3] h=.ok (.nx,[o0,some (.ref dk),some (tf t),some (.ref h1.length)]) (h1++[.lst (t.parts.map T.d)]):=by
   have ei:evi (P.tbl (n+1)) (.rng (.call (O "count_parts") (.cons (.var 2) .nil))) [o0,some (.ref dk),some (tf t),o3] h=.ok ⟨[],Zac 0 t.parts.length⟩ h:=by
     have e1:ev (P.tbl (n+1)) (.call (O "count_parts") (.cons (.var 2) .nil)) [o0,some (.ref dk),some (tf t),o3] h=.ok (.int t.parts.length) h:=ec;rw [Zor,e1,Zm];exact (if_pos s62).trans (by rw [Int.toNat_natCast])
   rw [ZfM,Zej,ei,Zm];simp only [ZaJ,Op,Oy,Option.bind_none,Option.bind_some];rw [show ([o0,some (D.ref dk),some (tf t),o3][1]?).join=some (.ref dk) from rfl,q1];rfl
 have x2:xs1 (P.tbl (n+1)) (.drp (.meth .app (.var 1) (.cons (.bin .Add (.var 2) (.blt .tup (.cons (.var 3) .nil))) .nil))) [o0,some (.ref dk),some (tf t),some (.ref h1.length)] (h1++[.lst (t.parts.map T.d)])=.ok (.nx,[o0,some (.ref dk),some (tf t),some (.ref h1.length)]) (List.set (h1++[.lst (t.parts.map T.d)]) dk (.lst (D0++[t.d]))):=by
   have ap:=Zax (d:=t.d) k1 (by rw [sizeLine_eq];lia);have il:=ZcG k1;have ad:∀ h',opB .Add (tf t) (.tup (t.parts.map T.d)) h'=.ok t.d h':=fun h'=>by rw [ZuA];exact Zf6 (by rw [sizeLine_eq];simp;lia)
   simp [il,Zao,ZiG,lstOf,ad,ap]
 rw [Zdf,Za x1,Za x2];rfl
end Tm
end
section
namespace Tm
open PySem L2 IV
variable {P:Pg}
theorem Zg9(e:h[j]? = some (.lst L))(b:Za8 g d S=some ρ1)(q:body ρ1 h=.ok (.nx,ρ2) h2):ZP [(j,L)] g body (d::ds) S h=ZP [(j,L)] g body ds ρ2 h2:=by
 have:Wk.stays [(j,L)] h=true:=by simp [Wk.stays,e]
 rw [ZP,if_pos this,b];simp only;rw [q];rfl
theorem Zha(e:h[j]? = some (.lst L)):ZP [(j,L)] g body [] S h=.ok (.nx,S) h:=by
 have:Wk.stays [(j,L)] h=true:=by simp [Wk.stays,e]
 rw [ZP,if_pos this]
noncomputable def wb(P:Pg)(n fk dk:Nat)(fs:List D)(o0:Option D)(rest:List D)(o2 o3:Option D)(h:Hd):R (Fl×Ev):=ZP [(fk,fs)] (.nm 2) (xs2 (P.tbl (n+1)) Zdf) rest [o0,some (.ref dk),o2,o3] h
noncomputable def Bt(P:Pg)(n:Nat)(h0:Hd)(fk dk:Nat)(fs:List D)(o0:Option D)(xs D0 D1:List D):Prop:=∀ (rest:List D) (h:Hd) (o2 o3:Option D),B_ h0 h fk dk fs D0->∃ h' o2' o3',wb P n fk dk fs o0 (xs++rest) o2 o3 h=wb P n fk dk fs o0 rest o2' o3' h'/\B_ h0 h' fk dk fs D1
section
variable {n:Nat}{h0:Hd}{fk dk:Nat}{fs:List D}{o0:Option D}{xs ys D0 D1 D2:List D}
theorem Bt.trans(a:Bt P n h0 fk dk fs o0 xs D0 D1)(b:Bt P n h0 fk dk fs o0 ys D1 D2):Bt P n h0 fk dk fs o0 (xs++ys) D0 D2:=fun rest h o2 o3 q=>by
 obtain ⟨h1,o21,o31,e1,q1⟩:=a (ys++rest) h o2 o3 q;obtain ⟨h2,o22,o32,e2,q2⟩:=b rest h1 o21 o31 q1;exact ⟨h2,o22,o32,by rw [Oz,e1,e2],q2⟩
theorem Bt.front(H:Trb P)(t:T)(hz:D0.length<=1000000):Bt P n h0 fk dk fs o0 [tf t] (D0++(t.parts.map T.d).reverse) (D0++[t.d]):=fun rest h o2 o3 b=>by
 obtain ⟨h',o3',e,b'⟩:=Zm7 H n t b hz o0 o3;exact ⟨h',some (tf t),o3',Zg9 b.f rfl e,b'⟩
end
theorem Zbi(H:Trb P):∀ (t:T) (D0:List D),D0.length+t.size<=1000000->Bt P n h0 fk dk fs o0 (t.places.map tf).reverse D0 (D0++[t.d])
 | .num m,D0,hz=>by simpa [T.places,T.parts] using Bt.front (P:=P) (n:=n) (h0:=h0) (fk:=fk) (dk:=dk) (fs:=fs) (o0:=o0) (D0:=D0) H (.num m) (by lia)
 | .name m,D0,hz=>by simpa [T.places,T.parts] using Bt.front (P:=P) (n:=n) (h0:=h0) (fk:=fk) (dk:=dk) (fs:=fs) (o0:=o0) (D0:=D0) H (.name m) (by lia)
 | .fn x e,D0,hz=>by
   rw [Ze] at hz;simp only [T.parts,Op,Oy,OI,List.sum_nil] at hz;have a:=(Zbi H (n:=n) (h0:=h0) (fk:=fk) (dk:=dk) (fs:=fs) (o0:=o0) e D0 (by lia)).trans (Bt.front H (.fn x e) (by lia));simpa [T.places,T.parts] using a
 | .rcc f x e,D0,hz=>by
   rw [Ze] at hz;simp only [T.parts,Op,Oy,OI,List.sum_nil] at hz;have a:=(Zbi H (n:=n) (h0:=h0) (fk:=fk) (dk:=dk) (fs:=fs) (o0:=o0) e D0 (by lia)).trans (Bt.front H (.rcc f x e) (by lia));simpa [T.places,T.parts] using a
 | .call f a,D0,hz=>by
   rw [Ze] at hz;simp only [T.parts,Op,Oy,OI,List.sum_nil] at hz;have s1:=Zb3 f;have q:=(Zbi H (n:=n) (h0:=h0) (fk:=fk) (dk:=dk) (fs:=fs) (o0:=o0) a D0 (by lia)).trans (Zbi H f (D0++[a.d]) (by simp;lia));have r:=Bt.front (P:=P) (n:=n) (h0:=h0) (fk:=fk) (dk:=dk) (fs:=fs) (o0:=o0) (D0:=D0) H (.call f a) (by lia);simp only [T.parts,Op,Oy,List.reverse_cons,List.reverse_nil,OB] at r;rw [<- Oz] at r;simpa [T.places] using q.trans r
 | .op w f a,D0,hz=>by
   rw [Ze] at hz;simp only [T.parts,Op,Oy,OI,List.sum_nil] at hz;have s1:=Zb3 f;have q:=(Zbi H (n:=n) (h0:=h0) (fk:=fk) (dk:=dk) (fs:=fs) (o0:=o0) a D0 (by lia)).trans (Zbi H f (D0++[a.d]) (by simp;lia));have r:=Bt.front (P:=P) (n:=n) (h0:=h0) (fk:=fk) (dk:=dk) (fs:=fs) (o0:=o0) (D0:=D0) H (.op w f a) (by lia);simp only [T.parts,Op,Oy,List.reverse_cons,List.reverse_nil,OB] at r;rw [<- Oz] at r;simpa [T.places] using q.trans r
 | .iff c t e,D0,hz=>by
   rw [Ze] at hz;simp only [T.parts,Op,Oy,OI,List.sum_nil] at hz;have s1:=Zb3 c;have s2:=Zb3 t;have q:=((Zbi H (n:=n) (h0:=h0) (fk:=fk) (dk:=dk) (fs:=fs) (o0:=o0) e D0 (by lia)).trans (Zbi H t (D0++[e.d]) (by simp;lia))).trans (Zbi H c (D0++[e.d]++[t.d]) (by simp;lia));have r:=Bt.front (P:=P) (n:=n) (h0:=h0) (fk:=fk) (dk:=dk) (fs:=fs) (o0:=o0) (D0:=D0) H (.iff c t e) (by lia);simp only [T.parts,Op,Oy,List.reverse_cons,List.reverse_nil,OB] at r;rw [<- Oz,<- Oz] at r;simpa [T.places] using q.trans r
theorem Znl (H:Trb P) (n:Nat) (t:T) (hf:h[fk]? = some (.lst (t.places.map tf))) (hz:t.size<=500000):∃ g,run P (n+2) (O "built") [.ref fk] h=.ok t.d (h++g):=by
 rw [Zd H.built (by rfl)];have b0:B_ h (h++[.lst []]) fk h.length (t.places.map tf) []:=⟨keep hf,by simp,by have:=ZeE hf;lia,Oq _,by simp,fun i hi=>Oe hi⟩
 obtain ⟨h1,o2,o3,e1,b1⟩:=Zbi H (n:=n) (o0:=some (.ref fk)) t [] (by simp;lia) [] _ none none b0;have e2:wb P n fk h.length (t.places.map tf) (some (.ref fk)) [] o2 o3 h1=.ok (.nx,[some (.ref fk),some (.ref h.length),o2,o3]) h1:=Zha b1.f;rw [e2,List.append_nil] at e1;have ex:∃ g,h1=h++g:=⟨h1.drop h.length,by
   apply List.ext_getElem?;intro i;rcases Nat.lt_or_ge i h.length with q|q
   . rw [b1.old i q,Oe q]
   . rw [Om q,List.getElem?_drop];congr 1
     lia⟩
 obtain ⟨g,rfl⟩:=ex;refine ⟨g,?_⟩;have x0:=ZR (GD:=P.GD) (k:=0) b1.d;have hw:Zfq (.ref fk) (h++[.lst []])=some ⟨[(fk,t.places.map tf)],t.places.map tf⟩:=by simp [Zfq,b0.f]
 unfold wb Zdf at e1;simp only [Pg.tbl] at e1;simp only [OB] at x0;simp [Zgk,ZjS,Zs,sizeLine_eq,hw,e1,x0]
end Tm
end
section
namespace Tm
open PySem L2 IV
variable {P:Pg}
noncomputable def ZcJ (mo:D) (u:Int):DO:=.ins (O "Pen") [(O "most",mo),(O "used",.int u)]
noncomputable def Lim(mo:D)(z:Int):Prop:=mo=.non\/∃ m:Int,mo=.int m/\z<=m
theorem Zse (H:Trb P) (n:Nat) (mo:D) (h:Hd):ZlO (run P (n+1)) (O "Pen") [mo] h=.ok (.ref h.length) (h++[ZcJ mo 0]):=by
 unfold ZlO;rw [ZfU H.n_Pen___init__ H.Pen___init__ (by rfl)];simp [Zai,Zcy,Zs,ZfT,Zkd,sizeLine_eq,ZcJ]
theorem Zok:IV.Zbr false (D.int u) D.non h=.ok (D.bl false) h:=by
 have e:PyData.eqv (.int u) .none=false:=by simp [PyData.eqv]
 show (if min (PyData.int u).depth PyData.none.depth<=1100 then R.ok (D.bl (if false then !PyData.eqv (.int u) .none else PyData.eqv (.int u) .none)) h else .bad)=_;rw [if_pos (by simp [PyData.depth]),e];rfl
theorem ZpR (H:Trb P) (n:Nat) (lm:Lim mo (u+1)) (hp:h[pk]? = some (ZcJ mo u)):run P (n+1) (mnm (O "Pen") (O "take_place")) [.ref pk] h=.ok .non (h.set pk (ZcJ mo (u+1))):=by
 obtain ⟨x,ht⟩:=H.tk;rw [ZfU H.n_Pen_take_place ht (by rfl)];have ne:IV.Zbr false (D.int u) mo h=.ok (D.bl false) h:=by
   rcases lm with rfl|⟨m,rfl,q⟩
   . exact Zok
   . have:¬ u=m:=by lia
     simp [this]
 unfold ZcJ at hp ⊢;simp [Zif,Zgz,Zs,Zfl,ZW,hp,List.lookup,ne,ZfT,Zkd]
noncomputable def Wid (P:Pg):Prop:=∃ m,P.ms.lookup (mnm (O "Pen") (O "take_place"))=some (Zif (.rai (O "Wide") (.cst m)))
theorem Zla (H:Trb P) (w:Wid P) (n:Nat) (hp:h[pk]? = some (ZcJ (.int u) u)):run P (n+1) (mnm (O "Pen") (O "take_place")) [.ref pk] h=.exc (O "Wide") h:=by
 obtain ⟨m,ht⟩:=w;rw [ZfU H.n_Pen_take_place ht (by rfl)];have t1:tst (P.tbl n) (.ex (.cmp .Eq (.att [(O "Pen")] (.var 0) (O "used")) (.att [(O "Pen")] (.var 0) (O "most")))) [some (.ref pk)] h=.ok true h:=by
   unfold ZcJ at hp;simp [Zfl,ZW,hp,List.lookup]
 exact congrArg Zk (ZgF (r:=tlS (Zgz (.rai (O "Wide") (.cst m)))) ((Zu t1).trans (ZgF (Zsc rfl))))
noncomputable def pr(p:T×En):D:=.tup [p.1.d,.tup (p.2.map edd)]
structure Fi(mo:D)(h0 h:Hd)(pk fk wk:Nat)(u:Int)(F:List D)(W:List D):Prop where
 p:h[pk]? = some (ZcJ mo u)
 f:h[fk]? = some (.lst F)
 w:h[wk]? = some (.lst W)
 ne:fk≠wk
 o2:h0.length<=fk
 o3:h0.length<=wk
 ol:h0.length<=h.length
 old:∀ i,i<h0.length->i≠pk->h[i]? = h0[i]?
section
variable {mo:D}{h0 h g:Hd}{pk fk wk:Nat}{u:Int}{F W:List D}
theorem Fi.app(q:Fi mo h0 h pk fk wk u F W):Fi mo h0 (h++g) pk fk wk u F W:=⟨keep q.p,keep q.f,keep q.w,q.ne,q.o2,q.o3,by have:=q.ol;simp;lia,fun i hi hn=>by rw [Oe (by have:=q.ol;lia)];exact q.old i hi hn⟩
theorem Zf8{i j:Nat}{l:List D}(a:h[i]? = some (ZcJ mo u))(b:h[j]? = some (.lst l)):i≠j:=fun z=>by
 rw [z,b] at a;cases a
theorem Fi.setP(q:Fi mo h0 h pk fk wk u F W)(v:Int):Fi mo h0 (h.set pk (ZcJ mo v)) pk fk wk v F W :=
 ⟨by rw [Ol (ZeE q.p)],by rw [Oc (Zf8 q.p q.f)];exact q.f,by rw [Oc (Zf8 q.p q.w)];exact q.w,q.ne,q.o2,q.o3,by simpa using q.ol,fun i hi hn=>by rw [Oc (Ne.symm hn)];exact q.old i hi hn⟩
theorem Fi.setF(q:Fi mo h0 h pk fk wk u F W)(G:List D):Fi mo h0 (h.set fk (.lst G)) pk fk wk u G W :=
 ⟨by rw [Oc (Zf8 q.p q.f).symm];exact q.p,by rw [Ol (ZeE q.f)],by rw [Oc q.ne];exact q.w,q.ne,q.o2,q.o3,by simpa using q.ol,fun i hi hn=>by rw [Oc (by have:=q.o2;lia)];exact q.old i hi hn⟩
theorem Fi.setW(q:Fi mo h0 h pk fk wk u F W)(G:List D):Fi mo h0 (h.set wk (.lst G)) pk fk wk u F G :=
 ⟨by rw [Oc (Zf8 q.p q.w).symm];exact q.p,by rw [Oc q.ne.symm];exact q.f,by rw [Ol (ZeE q.w)],q.ne,q.o2,q.o3,by simpa using q.ol,fun i hi hn=>by rw [Oc (by have:=q.o3;lia)];exact q.old i hi hn⟩
theorem Fi.pop{d:D}(q:Fi mo h0 h pk fk wk u F (W++[d])):∃ h1,ZaI .pop (.ref wk) [] h=.ok d h1/\Fi mo h0 h1 pk fk wk u F W:=⟨_,Zg0 q.w,q.setW W⟩
theorem Fi.push(q:Fi mo h0 h pk fk wk u F W)(d:D)(hF:F.length<=1000000):∃ h1,ZaI .app (.ref fk) [d] h=.ok .non h1/\Fi mo h0 h1 pk fk wk u (F++[d]) W:=⟨_,Zax q.f (by rw [sizeLine_eq];lia),q.setF _⟩
theorem Fi.wait(q:Fi mo h0 h pk fk wk u F W)(d:D)(hW:W.length<=1000000):∃ h1,ZaI .app (.ref wk) [d] h=.ok .non h1/\Fi mo h0 h1 pk fk wk u F (W++[d]):=⟨_,Zax q.w (by rw [sizeLine_eq];lia),q.setW _⟩
theorem Fi.ext(q:Fi mo h0 h pk fk wk u F W)(xs:List D)(hW:W.length+xs.length<=1001000):∃ h1,ZaI .ext (.ref wk) [.ref h.length] (h++[.lst xs])=.ok .non h1/\Fi mo h0 h1 pk fk wk u F (W++xs):=by
 have q1:=q.app (g:=[.lst xs]);refine ⟨_,?_,q1.setW (W++xs)⟩;simp only [ZaI,q1.w,ZeD,ZqA,Zb1];rw [if_pos (by rw [sizeLine_eq];lia)]
theorem Fi.take (H:Trb P) (n:Nat) (lm:Lim mo (u+1)) (q:Fi mo h0 h pk fk wk u F W):∃ h1,run P (n+1) (mnm (O "Pen") (O "take_place")) [.ref pk] h=.ok .non h1/\Fi mo h0 h1 pk fk wk (u+1) F W:=⟨_,ZpR H n lm q.p,q.setP _⟩
end
noncomputable def ve(pk fk wk:Nat)(o1 o2 o5 o6 o7:Option D):Ev:=[some (.ref pk),o1,o2,some (.ref fk),some (.ref wk),o5,o6,o7]
noncomputable def fl1:Sx:=(.set (.nm 5) (.meth .pop (.var 4) .nil))
noncomputable def fl2:Sx:=(.set (.nm 6) (.call (O "meant_by") (.cons (.ix (.var 5) (.cst (.int 0))) (.cons (.ix (.var 5) (.cst (.int 1))) .nil))))
noncomputable def fa1:Sx:=(.drp (.mcl (O "Pen") (O "take_place") (.var 0) .nil))
noncomputable def fa2:Sx:=(.drp (.meth .app (.var 3) (.cons (.call (O "front_of") (.cons (.ix (.var 5) (.cst (.int 0))) .nil)) .nil)))
noncomputable def fa3:Sx:=(.set (.nm 7) (.call (O "within") (.cons (.ix (.var 5) (.cst (.int 0))) (.cons (.ix (.var 5) (.cst (.int 1))) .nil))))
noncomputable def fa4:Sx:=(.drp (.meth .ext (.var 4) (.cons (.comp [(O "part"),(O "inner")] [none,some 7] (.rev (.call (O "parts_of") (.cons (.ix (.var 5) (.cst (.int 0))) .nil))) (.nm 0) none (.tupl (.cons (.var 0) (.cons (.var 1) .nil)))) .nil)))
noncomputable def fb1:Sx:=(.drp (.meth .app (.var 4) (.cons (.call (O "opened") (.cons (.var 6) .nil)) .nil)))
noncomputable def fl3:Sx:=(.iff (.ex (.cmp .Is (.var 6) (.cst .non))) (.cons fa1 (.cons fa2 (.cons fa3 (.cons fa4 .nil)))) (.cons fb1 .nil))
noncomputable def ZcD:Sxs:=.cons fl1 (.cons fl2 (.cons fl3 .nil))
theorem Zop:ZbO=.cons (.set (.nm 3) (.lstl .nil)) (.cons (.set (.nm 4) (.lstl (.cons (.tupl (.cons (.var 1) (.cons (.var 2) .nil))) .nil))) (.cons (.whl (.ex (.var 4)) ZcD) (.cons (.ret (.call (O "built") (.cons (.var 3) .nil))) .nil))):=rfl
theorem ZmA:∀ (ds acc:List D),acc.length+ds.length<=1000->ZF [] (.nm 0) (tsto U none) (ev U (.tupl (.cons (.var 0) (.cons (.var 1) .nil)))) ds [none,some a] acc h=.ok (acc++ds.map fun d=>D.tup [d,a]) h
 | [],acc,_=>by simp [ZF,Wk.stays]
 | x::xs,acc,hz=>by
   have ih:=ZmA (U:=U) (h:=h) (a:=a) xs (acc++[.tup [x,a]]) (by simp at hz ⊢;lia);have hl:acc.length<16777216:=by simp at hz;lia
   rw [ZK];simp [Wk.stays,hl,sizeLine_eq];simpa using ih
theorem Zm6(H:Trb P)(n:Nat)(t:T)(ar:En)(hm:Zbx ar t=none)(lm:Lim mo (u+1))(q:Fi mo h0 h pk fk wk u F (W++[pr (t,ar)]))(hF:F.length<=1000000)(hW:W.length<=1000000)(ha:ar.length<=90000)(o1 o2 o5 o6 o7:Option D):∃ h' o5' o6' o7',
   xs2 (P.tbl (n+2)) ZcD (ve pk fk wk o1 o2 o5 o6 o7) h=.ok (.nx,ve pk fk wk o1 o2 o5' o6' o7') h'/\Fi mo h0 h' pk fk wk (u+1) (F++[tf t]) (W++(t.parts.reverse.map fun s=>pr (s,Zbk t ar))):=by
 obtain ⟨h1,pp,q1⟩:=q.pop;have em:=ZfZ H n (h:=h1) t ar;rw [hm] at em;obtain ⟨h2,e2,q2⟩:=q1.take H (n+1) lm;obtain ⟨h3,e3,q3⟩:=q2.push (tf t) hF;obtain ⟨h4,e4,q4⟩:∃ h4,run P (n+2) (O "within") [t.d,.tup (ar.map edd)] h3=.ok (.tup ((Zbk t ar).map edd)) h4/\Fi mo h0 h4 pk fk wk (u+1) (F++[tf t]) W:=⟨_,Zk9 H n t ar (by lia),q3.app⟩
 have hp:t.parts.length<=3:=by cases t<;>simp [T.parts]
 obtain ⟨h5,e5,q5⟩:=q4.ext ((t.parts.map T.d).reverse.map fun d=>D.tup [d,.tup ((Zbk t ar).map edd)]) (by simp;lia);have ec:=ZmA (U:=P.tbl (n+2)) (h:=h4) (a:=.tup ((Zbk t ar).map edd)) (t.parts.map T.d).reverse [] (by simp;lia);refine ⟨h5,some (pr (t,ar)),some .non,some (.tup ((Zbk t ar).map edd)),?_,by simpa [pr,List.map_reverse,Function.comp_def] using q5⟩;refine (Za (Zq (Ze4 rfl q.w rfl pp))).trans ((Za (Zq (Zt em rfl))).trans ((Za ((Zu (ZqU rfl)).trans ?_)).trans rfl));refine (Za (Zds (Zpk rfl q1.p rfl rfl e2))).trans ((Za (Zds (Ze4 rfl q2.f (Zb (Zt (Znj H (n+1) t h2) rfl) rfl) e3))).trans ?_);exact (Za (Zq (Zt e4 rfl))).trans ((Za (Zds (Ze4 rfl q4.w (Zb (Zmm (Zq5 (Zt (Gn.ZfX H.toTre (n+1) t h4) rfl)) ec) rfl) e5))).trans rfl)
theorem ZpG(H:Trb P)(w:Wid P)(n:Nat)(t:T)(ar:En)(hm:Zbx ar t=none)(q:Fi (.int u) h0 h pk fk wk u F (W++[pr (t,ar)]))(o1 o2 o5 o6 o7:Option D):∃ h',
   xs2 (P.tbl (n+2)) ZcD (ve pk fk wk o1 o2 o5 o6 o7) h=.exc (O "Wide") h'/\Fi (.int u) h0 h' pk fk wk u F W:=by
 obtain ⟨h1,pp,q1⟩:=q.pop;have em:=ZfZ H n (h:=h1) t ar;rw [hm] at em;refine ⟨h1,?_,q1⟩;exact (Za (Zq (Ze4 rfl q.w rfl pp))).trans ((Za (Zq (Zt em rfl))).trans (ZgF ((Zu (ZqU rfl)).trans (ZgF (Ztl (Zpk rfl q1.p rfl rfl (Zla H w (n+1) q1.p)))))))
theorem Zm5(H:Trb P)(n:Nat)(t:T)(ar:En)(hm:Zbx ar t=some v)(q:Fi mo h0 h pk fk wk u F (W++[pr (t,ar)]))(hW:W.length<=1000000)(o1 o2 o5 o6 o7:Option D):∃ h' o5' o6' o7',
   xs2 (P.tbl (n+2)) ZcD (ve pk fk wk o1 o2 o5 o6 o7) h=.ok (.nx,ve pk fk wk o1 o2 o5' o6' o7') h'/\Fi mo h0 h' pk fk wk u F (W++[pr ((opn v).1,up (opn v).2)]):=by
 obtain ⟨h1,pp,q1⟩:=q.pop;have em:=ZfZ H n (h:=h1) t ar;rw [hm] at em;obtain ⟨h2,e2,q2⟩:=q1.wait (pr ((opn v).1,up (opn v).2)) hW;have eo:=Zlc H (n+1) (h:=h1) v;rw [<- Zo1] at eo;refine ⟨h2,some (pr (t,ar)),some v.d,o7,?_,q2⟩;refine (Za (Zq (Ze4 rfl q.w rfl pp))).trans ((Za (Zq (Zt em rfl))).trans ((Za ((Zx (Zs2 rfl (fun z=>by cases v<;>cases z))).trans ?_)).trans rfl));exact (Za (Zds (Ze4 rfl q1.w (Zb (Zt eo rfl) rfl) e2))).trans rfl
end Tm
end
section
namespace Rw
open PySem L2 IV
mutual
noncomputable def ThG(N:Nat):Th->Prop
 | .num _=>True
 | .clo E ar=>(∀ x,E≠.name x)/\ar.len+2 * E.size<=2 * N/\ArG N ar
noncomputable def ArG(N:Nat):Ar->Prop
 | .nil=>True
 | .cons _ v r=>ThG N v/\ArG N r
end
end Rw
namespace Tm
open PySem L2 IV
variable {P:Pg}
theorem Zah:∀ (xs:List Str) (ar:Ar) {x:Str}{V:T},get (xs.map (fun y=>(y,none))++ar) x=some V->get ar x=some V
 | [],ar,x,V,e=>e
 | y::xs,ar,x,V,e=>by
   rw [Op,List.cons_append,get] at e;split at e
   . cases e
   . exact Zah xs ar e
theorem Zja{t s:T}(hs:s∈t.parts):s.size+1<=t.size:=by
 rw [Ze t];have:∀ l:List T,s∈l->s.size<=(l.map T.size).sum:=by
   intro l;induction l with
   | nil=>intro z;cases z
   | cons a r ih =>
     intro z;rw [Op,OI];rcases O2.mp z with rfl|z
     . lia
     . have:=ih z;lia
 have:=this _ hs
 lia
noncomputable def Wok(N:Nat)(p:T×En):Prop:=p.2.length+2 * p.1.size<=2 * N/\∀ q∈p.2,∀ v,q.2=some v->Rw.ThG N v
theorem Wok.part{N:Nat}(w:Wok N (t,ar))(hs:s∈t.parts):Wok N (s,Zbk t ar):=by
 have h1:=Zja hs;have hb:(bnd t).length<=2:=by cases t<;>simp [bnd]
 have h2:=w.1;have:(Zbk t ar).length=(bnd t).length+ar.length:=by simp [Zbk]
 refine ⟨?_,fun q hq v e=>?_⟩
 . simp only at h2 ⊢
   lia
 . rcases OD.mp hq with hq|hq
   . obtain ⟨y,_,rfl⟩:=List.mem_map.mp hq;cases e
   . exact w.2 q hq v e
theorem ZrN:∀ {ar:Rw.Ar},Rw.ArG N ar->∀ q∈up ar,∀ v,q.2=some v->Rw.ThG N v
 | .nil,_,q,hq,_,_=>by cases hq
 | .cons x w r,h,q,hq,v,e=>by
   rcases O2.mp hq with rfl|hq
   . cases e;exact h.1
   . exact ZrN h.2 q hq v e
theorem Wok.thing(hN:1<=N)(h:Rw.ThG N v):Wok N ((opn v).1,up (opn v).2):=by
 cases v with
 | num n=>refine ⟨?_,fun q hq=>by cases hq⟩;show 0+2 * 1<=2 * N;lia
 | clo E ar=>refine ⟨?_,ZrN h.2.2⟩;have:=h.2.1;show (up ar).length+2 * E.size<=2 * N;rw [ZkP];exact this
theorem Zhi:∀ {e:En},Zc3 e x=some v->∃ q∈e,q.2=some v
 | [],h=>by cases h
 | (y,o)::r,h=>by
   rw [Zc3] at h;split at h
   . exact ⟨_,Oi,h⟩
   . obtain ⟨q,hq,e⟩:=Zhi h;exact ⟨q,Oh _ hq,e⟩
theorem Wok.mean(w:Wok N (t,e))(h:Zbx e t=some v):Rw.ThG N v:=by
 cases t with
 | name x=>obtain ⟨q,hq,e⟩:=Zhi (show Zc3 e x=some v from h);exact w.2 q hq v e
 | _=>cases h
theorem ZlD(h:Rw.ThG N v):Zbx (up (opn v).2) (opn v).1=none:=by
 cases v with
 | num n=>rfl
 | clo E ar=>cases E with
   | name x=>exact absurd rfl (h.1 x)
   | _=>rfl
noncomputable def tot(W:List (T×En)):Nat:=(W.map fun p=>(tel p).size).sum
theorem ZfQ(A B_:List (T×En)):tot (A++B_)=tot A+tot B_:=by simp [tot]
theorem ZfP(p:T×En):tot [p]=(tel p).size:=by simp [tot]
theorem Zj3(h:Zbx e t=none):(tel (t,e)).size=1+tot (t.parts.reverse.map fun s=>(s,Zbk t e)):=by
 rw [Ze,(Zft h).1];simp [tot,List.map_reverse,Function.comp_def]
noncomputable def com(W:List (T×En)):List D:=(W.reverse.flatMap fun p=>(tel p).places).map tf
theorem Zgr(W:List (T×En))(p:T×En):com (W++[p])=(tel p).places.map tf++com W:=by simp [com]
theorem ZkE(W:List (T×En))(h:Zbx e t=none):com (W++[(t,e)])=tf t::com (W++t.parts.reverse.map fun s=>(s,Zbk t e)):=by
 obtain ⟨h1,h2⟩:=Zft h;rw [Zgr,T.places_parts,Op,show tf (tel (t,e))=tf t by unfold tf;rw [h2],h1];simp [com,List.flatMap_append,List.map_reverse,List.flatMap_map]
noncomputable def Bud(P:Pg)(mo:D)(u:Int)(K n:Nat):Prop:=(mo=.non/\n<=K)\/(mo=.int (u+(K:Int))/\(n<=K\/Wid P))
noncomputable def nb(e:En)(t:T):Nat:=match Zbx e t with
 | some _=>1
 | none=>0
noncomputable def nbs(W:List (T×En)):Nat:=match W.getLast? with
 | some p=>nb p.2 p.1
 | none=>0
theorem ZsM(e:En)(t:T):nb e t<=1:=by unfold nb;split<;>lia
theorem ZlP(W:List (T×En)):nbs W<=1:=by unfold nbs;split;exact ZsM _ _;lia
theorem Zjf(W:List (T×En))(p:T×En):nbs (W++[p])=nb p.2 p.1:=by simp [nbs]
noncomputable def Old(h0 h:Hd)(pk:Nat):Prop:=h0.length<=h.length/\∀ i,i<h0.length->i≠pk->h[i]? = h0[i]?
inductive Fld(P:Pg)(n:Nat)(mo:D)(h0:Hd)(pk fk wk:Nat)(o1 o2:Option D)(u:Int)(F:List D)(W:List (T×En))(K:Nat):R (Fl×Ev)->Prop
 | ok {h':Hd}{o5 o6 o7:Option D} (le:tot W<=K) (q:Fi mo h0 h' pk fk wk (u+(tot W:Int)) (F++com W) []):Fld P n mo h0 pk fk wk o1 o2 u F W K (.ok (.nx,ve pk fk wk o1 o2 o5 o6 o7) h')
 | ex {h':Hd} (lt:K<tot W) (q:Old h0 h' pk):Fld P n mo h0 pk fk wk o1 o2 u F W K (.exc (O "Wide") h')
theorem Zh5(H:Trb P)(n:Nat)(hN:1<=N)(hN2:N<=45000):∀ (fuel:Nat) (W:List (T×En)) (F:List D) (u:Int) (h:Hd) (o5 o6 o7:Option D) (K:Nat),Bud P mo u K (tot W)->2 * K+1+nbs W<=fuel->F.length+K<=400000->W.length+3 * K<=1000000->(∀ p∈W,Wok N p)->Fi mo h0 h pk fk wk u F (W.map pr) ->
   Fld P n mo h0 pk fk wk o1 o2 u F W K (ZI (tst (P.tbl (n+2)) (.ex (.var 4))) (xs2 (P.tbl (n+2)) ZcD) fuel (ve pk fk wk o1 o2 o5 o6 o7) h)
 | 0,W,F,u,h,o5,o6,o7,K,_,hf,_,_,_,_=>by lia
 | fuel+1,W,F,u,h,o5,o6,o7,K,bu,hf,hz,hw,ok,q=>by
   rcases List.eq_nil_or_concat W with rfl|⟨V,p,rfl⟩
   . rw [ZfO (Zo3 rfl q.w)];exact .ok (Nat.zero_le _) (by simpa [com,tot] using q)
   . obtain ⟨t,ar⟩:=p;rw [List.concat_eq_append] at bu hf hw ok q ⊢;have q':Fi mo h0 h pk fk wk u F (V.map pr++[pr (t,ar)]):=by simpa using q
     have hW:=ok (t,ar) (by simp);have okV:∀ p∈V,Wok N p:=fun p hp=>ok p (by simp [hp]);rw [Zjf] at hf;simp only at hf;rw [OA,List.length_singleton] at hw;have hV:(V.map pr).length<=1000000:=by rw [List.length_map];lia
     have ha:ar.length<=90000:=by have:=hW.1;simp only at this;lia
     have tt:=Zw (Zo3 (U:=P.tbl (n+2)) (S:=ve pk fk wk o1 o2 o5 o6 o7) (e:=.var 4) rfl q'.w) (c:=true) (by simp);have e1:tot (V++[(t,ar)])=tot V+(tel (t,ar)).size:=by rw [ZfQ,ZfP]
     cases hm:Zbx ar t with
     | none =>
       have t1:=Zj3 hm;rw [show nb ar t=0 by unfold nb;rw [hm]] at hf;cases K with
       | zero =>
         rcases bu with ⟨_,z⟩|⟨rfl,z⟩
         . lia
         . rcases z with z|z
           . lia
           . have q2:Fi (.int u) h0 h pk fk wk u F (V.map pr++[pr (t,ar)]):=by simpa using q'
             obtain ⟨h1,x,q1⟩:=ZpG H z n t ar hm q2 o1 o2 o5 o6 o7;rw [ZmU tt x];exact .ex (by lia) ⟨q1.ol,q1.old⟩
       | succ K =>
         have lm:Lim mo (u+1):=by
           rcases bu with ⟨e,_⟩|⟨e,_⟩
           . exact .inl e
           . exact .inr ⟨_,e,by lia⟩
         obtain ⟨h1,o51,o61,o71,x,q1⟩:=Zm6 H n t ar hm lm q' (by lia) hV ha o1 o2 o5 o6 o7;rw [Zee tt x];have e2:tot (V++t.parts.reverse.map fun s=>(s,Zbk t ar))=tot V+tot (t.parts.reverse.map fun s=>(s,Zbk t ar)):=ZfQ _ _;have hp:t.parts.length<=3:=by cases t<;>simp [T.parts]
         have nl:=ZlP (V++t.parts.reverse.map fun s=>(s,Zbk t ar));have ih:=Zh5 H n hN hN2 (o1:=o1) (o2:=o2) fuel (V++t.parts.reverse.map fun s=>(s,Zbk t ar)) (F++[tf t]) (u+1) h1 o51 o61 o71 K (by
           rcases bu with ⟨e,z⟩|⟨e,z⟩
           . exact .inl ⟨e,by lia⟩
           . exact .inr ⟨by rw [e];congr 1;lia,z.imp (fun z=>by lia) id⟩) (by lia) (by rw [OA,List.length_singleton];lia) (by rw [OA,List.length_map,List.length_reverse];lia) (fun p hp=>by
           rcases OD.mp hp with hp|hp
           . exact okV p hp
           . obtain ⟨s,hs,rfl⟩:=List.mem_map.mp hp;exact hW.part (by simpa using hs)) (by simpa [List.map_map,Function.comp_def] using q1)
         generalize ZI _ _ _ _ _=r at ih ⊢;cases ih with
         | ok le q =>
           refine .ok (by lia) ?_;rw [ZkE V hm,show u+((tot (V++[(t,ar)]):Nat):Int)=u+1+((tot (V++t.parts.reverse.map fun s=>(s,Zbk t ar)):Nat):Int) by rw [e1,e2,t1];lia];simpa using q
         | ex lt q=>exact .ex (by lia) q
     | some v =>
       rw [show nb ar t=1 by unfold nb;rw [hm]] at hf;have g:=hW.mean hm;have s1:(tel (t,ar)).size=(tel ((opn v).1,up (opn v).2)).size:=by rw [Ze5 hm,ZiU]
       have e2:tot (V++[((opn v).1,up (opn v).2)])=tot (V++[(t,ar)]):=by rw [e1,ZfQ,ZfP,s1]
       obtain ⟨h1,o51,o61,o71,x,q1⟩:=Zm5 H n t ar hm q' hV o1 o2 o5 o6 o7;rw [Zee tt x];have ih:=Zh5 H n hN hN2 (o1:=o1) (o2:=o2) fuel (V++[((opn v).1,up (opn v).2)]) F u h1 o51 o61 o71 K (by rw [e2];exact bu) (by rw [Zjf];unfold nb;rw [ZlD g];simp only;lia) hz (by rw [OA,List.length_singleton];lia) (fun p hp=>by
         rcases OD.mp hp with hp|hp
         . exact okV p hp
         . rw [Ox.mp hp];exact Wok.thing hN g) (by simpa using q1)
       have e3:com (V++[((opn v).1,up (opn v).2)])=com (V++[(t,ar)]):=by rw [Zgr,Zgr,Ze5 hm,ZiU]
       generalize ZI _ _ _ _ _=r at ih ⊢;cases ih with
       | ok le q =>
         rw [e2,e3] at q;exact .ok (by lia) q
       | ex lt q=>exact .ex (by lia) q
end Tm
end
section
namespace Tm
open PySem L2 IV
variable {P:Pg}
theorem grown{h0 h:Hd}(hl:h0.length<=h.length)(old:∀ i,i<h0.length->h[i]? = h0[i]?):∃ g,h=h0++g:=⟨h.drop h0.length,by
 apply List.ext_getElem?;intro i;rcases Nat.lt_or_ge i h0.length with q|q
 . rw [old i q,Oe q]
 . rw [Om q,List.getElem?_drop];congr 1
   lia⟩
noncomputable def Aft(h0 h:Hd)(pk:Nat)(mo:D)(u:Int):Prop:=h[pk]? = some (ZcJ mo u)/\h0.length<=h.length/\∀ i,i<h0.length->i≠pk->h[i]? = h0[i]?
inductive Out(h0:Hd)(pk:Nat)(mo:D)(t:T)(u:Int)(K:Nat):R D->Prop
 | ok {h':Hd} (le:t.size<=K) (a:Aft h0 h' pk mo (u+(t.size:Int))):Out h0 pk mo t u K (.ok t.d h')
 | ex {h':Hd} (lt:K<t.size) (a:Old h0 h' pk):Out h0 pk mo t u K (.exc (O "Wide") h')
theorem ZpS(H:Trb P)(n:Nat)(hN:1<=N)(hN2:N<=45000)(t:T)(e:En)(a:Aft h0 h pk mo u)(bu:Bud P mo u K (tel (t,e)).size)(hK:K<=300000)(hw:Wok N (t,e)) :
   Out h0 pk mo (tel (t,e)) u K (run P (n+3) (mnm (O "Pen") (O "filled")) [.ref pk,t.d,.tup (e.map edd)] h):=by
 obtain ⟨hp,hl,old⟩:=a;rw [ZfU H.n_Pen_filled H.Pen_filled (by rfl)];have q0:Fi mo h0 (h++[.lst [],.lst ([(t,e)].map pr)]) pk h.length (h.length+1) u [] ([(t,e)].map pr):=⟨keep hp,by simp,by simp,by lia,hl,by lia,by simp;lia,fun i hi hn=>by rw [Oe (by lia)];exact old i hi hn⟩
 have e1:=ZfP (t,e);have big:=H.big;have nl:=ZlP [(t,e)];have x:=Zh5 H n hN hN2 (o1:=some t.d) (o2:=some (.tup (e.map edd))) P.L [(t,e)] [] u _ none none none K (by rw [e1];exact bu) (by lia) (by simp only [List.length_nil];lia) (by simp only [Os,List.length_nil];lia) (fun p hp=>by rw [Ox.mp hp];exact hw) q0;have x1:xs1 (P.tbl (n+2)) (.set (.nm 3) (.lstl .nil)) [some (.ref pk),some t.d,some (.tup (e.map edd)),none,none,none,none,none] h=.ok (.nx,[some (.ref pk),some t.d,some (.tup (e.map edd)),some (.ref h.length),none,none,none,none]) (h++[.lst []]):=Zq (ZdQ rfl (by decide));have x2:xs1 (P.tbl (n+2)) (.set (.nm 4) (.lstl (.cons (.tupl (.cons (.var 1) (.cons (.var 2) .nil))) .nil))) [some (.ref pk),some t.d,some (.tup (e.map edd)),some (.ref h.length),none,none,none,none] (h++[.lst []])=.ok (.nx,[some (.ref pk),some t.d,some (.tup (e.map edd)),some (.ref h.length),some (.ref (h.length+1)),none,none,none]) (h++[.lst [],.lst ([(t,e)].map pr)]):=by
   have:=Zq (U:=P.tbl (n+2)) (i:=4) (ZdQ (S:=[some (.ref pk),some t.d,some (.tup (e.map edd)),some (.ref h.length),none,none,none,none]) (h:=h++[.lst []]) (es:=.cons (.tupl (.cons (.var 1) (.cons (.var 2) .nil))) .nil) (Zb (ZaO (Zb rfl (Zb rfl rfl)) (by simp)) rfl) (by simp));simpa [pr] using this
 have key:∀ y,Fld P n mo h0 pk h.length (h.length+1) (some t.d) (some (.tup (e.map edd))) u [] [(t,e)] K y->xs1 (P.tbl (n+2)) (.whl (.ex (.var 4)) ZcD) [some (.ref pk),some t.d,some (.tup (e.map edd)),some (.ref h.length),some (.ref (h.length+1)),none,none,none] (h++[.lst [],.lst ([(t,e)].map pr)])=y->Out h0 pk mo (tel (t,e)) u K (Zk (xs2 (P.tbl (n+2)) ZbO [some (.ref pk),some t.d,some (.tup (e.map edd)),none,none,none,none,none] h)):=by
   intro y x z;rw [Zop,Za x1,Za x2];cases x with
   | ex lt q =>
     rw [ZgF z];exact .ex (by rw [e1] at lt;exact lt) q
   | @ok h1 o5 o6 o7 le q1 =>
     have qf:=q1.f;have ec:com [(t,e)]=(tel (t,e)).places.map tf:=by simp [com]
     rw [ec,OB] at qf;rw [e1] at le q1;obtain ⟨g2,e3⟩:=Znl H n (tel (t,e)) qf (by lia);have q2:=q1.app (g:=g2);have x4:xs1 (P.tbl (n+2)) (.ret (.call (O "built") (.cons (.var 3) .nil))) (ve pk h.length (h.length+1) (some t.d) (some (.tup (e.map edd))) o5 o6 o7) h1=.ok (.rt (tel (t,e)).d,ve pk h.length (h.length+1) (some t.d) (some (.tup (e.map edd))) o5 o6 o7) (h1++g2):=Zz (Zt e3 rfl);rw [Za z,Zc x4];exact .ok le ⟨q2.p,q2.ol,q2.old⟩
 exact key _ x rfl
noncomputable abbrev Fil:=List (Str×T)
noncomputable def Fil.ar(f:Fil):Ar:=f.map fun p=>(p.1,some p.2)
noncomputable def fen(f:Fil):En:=f.map fun p=>(p.1,some (Rw.Th.clo p.2 .nil))
theorem Zoq(f:Fil):f.ar.map ard=(fen f).map edd:=by simp [Fil.ar,fen,ard,edd,thd,Rw.thD,Rw.Th.d,Rw.Ar.ds,Function.comp_def]
theorem Zre(f:Fil):er (fen f)=f.ar:=by simp [er,fen,Fil.ar,Rw.rd,Rw.ra,Zbf _ (show NN [] from fun _=>rfl),Function.comp_def]
noncomputable def Fil.kv(f:Fil):List (Key×D):=f.map fun p=>(.inr p.1,p.2.d)
theorem ZiO:∀ {f:Fil}{x:Str}{V:T},(f.map (·.1)).Nodup->(x,V)∈f->ZM f.kv (.inr x)=some V.d
 | (y,W)::r,x,V,nd,hm=>by
   rw [Op,List.nodup_cons] at nd;unfold ZM Fil.kv;rw [Op,List.find?_cons];rcases O2.mp hm with e|hm
   . cases e;simp
   . have ne:y≠x:=fun z=>nd.1 (by rw [z];exact List.mem_map.mpr ⟨(x,V),hm,rfl⟩);have:¬ (Sum.inr y:Key)=Sum.inr x:=fun z=>ne (Sum.inr.inj z);simp only [this,decide_false];exact ZiO nd.2 hm
noncomputable def fe1:Ex:=(.tupl (.cons (.var 0) (.cons (.tupl (.cons (.cst (.str (O "clo"))) (.cons (.ix (.var 1) (.var 0)) (.cons (.tupl .nil) .nil)))) .nil)))
theorem Zpr{U:Tb}{f:Fil}(nd:(f.map (·.1)).Nodup)(hd:h[dk]? = some (.fdic f.kv)):∀ (r:Fil) (acc:List D),(∀ p∈r,p∈f)->acc.length+r.length<=1000 ->
   ZF [] (.nm 0) (tsto U none) (ev U fe1) (r.map fun p=>D.str p.1) [none,some (.ref dk)] acc h=.ok (acc++r.ar.map ard) h
 | [],acc,_,_=>by simp [ZF,Wk.stays,Fil.ar]
 | (x,V)::r,acc,hm,hz=>by
   have ih:=Zpr (U:=U) nd hd r (acc++[ard (x,some V)]) (fun p hp=>hm p (Oh _ hp)) (by simp at hz ⊢;lia);have hl:acc.length<16777216:=by simp at hz;lia
   have hv:=ZiO nd (hm (x,V) Oi);have ix:Zag U.GD (.ref dk) (.str x) h=.ok V.d h:=by simp [Zag,dicOf,hd,hv]
   have ee:ev U fe1 [some (.str x),some (.ref dk)] h=.ok (ard (x,some V)) h:=by simp [fe1,ix,sizeLine_eq,ard,thd]
   rw [Op,ZK];simp [Wk.stays,hl,sizeLine_eq,ee];simpa [Fil.ar] using ih
theorem Zpb(H:Trm P)(n:Nat)(t:T)(f:Fil){h0 h:Hd}(nd:(f.map (·.1)).Nodup)(hf:f.length<=100)(hd:h[dk]? = some (.dic f.kv))(ho:h0.length<=dk)(hl:h0.length<=h.length)(old:∀ i,i<h0.length->h[i]? = h0[i]?){N:Nat}(hN:1<=N)(hN2:N<=45000)(hw:Wok N (t,fen f))(hz:(sub f.ar t).size<=300000) :
   ∃ g,run P (n+4) (O "put_in") [t.d,.ref dk] h=.ok (sub f.ar t).d (h0++g):=by
 rw [Zd H.put_in (by rfl)];have hdl:=ZeE hd;generalize hh1:h.set dk (.fdic f.kv)=h1;have d1:h1[dk]? = some (.fdic f.kv):=by rw [<- hh1,Ol hdl]
 have l1:h1.length=h.length:=by rw [<- hh1];simp
 have old1:∀ i,i<h0.length->h1[i]? = h0[i]? := fun i hi=>by rw [<- hh1,Oc (by lia)];exact old i hi
 have ec:=Zpr (U:=P.tbl (n+3)) nd d1 f [] (fun p hp=>hp) (by simp;lia);have ks:(f.kv.map fun p=>Zl5 p.1)=f.map fun p=>D.str p.1:=by simp [Fil.kv,Zl5,Function.comp_def]
 have x1:xs1 (P.tbl (n+3)) ZbK [some t.d,some (.ref dk),none] h=.ok (.nx,[some t.d,some (.ref dk),some (.tup (f.ar.map ard))]) (h1++[.lst (f.ar.map ard)]):=by
   have ei:evi (P.tbl (n+3)) (.dk (.var 1)) [some t.d,some (.ref dk),none] h=.ok ⟨[],f.map fun p=>D.str p.1⟩ h1:=by
     show Zoo (.ref dk) h=_;simp [Zoo,hd,hh1,ks]
   have ev1:ev (P.tbl (n+3)) (.comp [(O "name"),(O "filling")] [none,some 1] (.dk (.var 1)) (.nm 0) none fe1) [some t.d,some (.ref dk),none] h=.ok (.ref h1.length) (h1++[.lst (f.ar.map ard)]):=by
     rw [Zej,ei,Zm];simp only [ZaJ,Op,Oy,Option.bind_none,Option.bind_some];rw [show ([some t.d,some (D.ref dk),none][1]?).join=some (.ref dk) from rfl,ec];rfl
   unfold fe1 at ev1;simp [-Zej,ZbK,ev1,Zao,ZiG,lstOf]
 generalize hh2:h1++[DO.lst (f.ar.map ard)]=h2 at x1;have l2:h2.length=h.length+1:=by rw [<- hh2];simp [l1]
 have old2:∀ i,i<h0.length->(h2++[ZcJ .non 0])[i]? = h0[i]? := fun i hi=>by
   rw [Oe (by lia),<- hh2,Oe (by lia)];exact old1 i hi
 have ep:=Zse H.toTrb (n+2) .non h2;have et:tel (t,fen f)=sub f.ar t:=by show sub (er (fen f)) t=_;rw [Zre]
 have o:=ZpS H.toTrb n hN hN2 t (fen f) (mo:=.non) (h0:=h0) (h:=h2++[ZcJ .non 0]) (pk:=h2.length) (u:=0) (K:=(sub f.ar t).size) ⟨by simp,by simp;lia,fun i hi _=>old2 i hi⟩ (.inl ⟨rfl,by rw [et];exact Oq _⟩) hz hw;rw [et,<- Zoq] at o;obtain ⟨h3,e,a3⟩:∃ h3,run P (n+3) (mnm (O "Pen") (O "filled")) [.ref h2.length,t.d,.tup (f.ar.map ard)] (h2++[ZcJ .non 0])=.ok (sub f.ar t).d h3/\Aft h0 h3 h2.length .non (0+((sub f.ar t).size:Int)):=by
   generalize run P (n+3) _ _ _=r at o;cases o with
   | ok le a=>exact ⟨_,rfl,a⟩
   | ex lt a=>lia
 obtain ⟨g,rfl⟩:=grown a3.2.1 (fun i hi=>a3.2.2 i hi (by lia));refine ⟨g,?_⟩;have io:ZW (.ref h2.length) (h2++[ZcJ .non 0])=some (O "Pen",[(O "most",.non),(O "used",.int 0)]):=by simp [ZW,ZcJ]
 have x2:xs1 (P.tbl (n+3)) ZbJ [some t.d,some (.ref dk),some (.tup (f.ar.map ard))] h2=.ok (.rt (sub f.ar t).d,[some t.d,some (.ref dk),some (.tup (f.ar.map ard))]) (h0++g):=by
   simp [ZbJ,Pg.tbl,ep,io,List.lookup,e]
 show Zk (xs2 (P.tbl (n+3)) (.cons ZbK (.cons ZbJ .nil)) [some t.d,some (.ref dk),none] h)=_;rw [Za x1,Zc x2];rfl
end Tm
end
section
namespace Tm
open PySem L2 IV
variable {P:Pg}{h:Hd}
noncomputable def isV:T->Bool
 | .num _|.fn _ _|.rcc _ _ _=>true
 | _=>false
noncomputable def pf:T->List T
 | .iff c _ _=>[c]
 | t=>t.parts
noncomputable def Zdk:Nat->List T->Option Nat
 | _,[]=>none
 | k,t::r=>if isV t then Zdk (k+1) r else some k
noncomputable def fo(t:T):Option Nat:=Zdk 1 (pf t)
noncomputable def oN:Option Nat->D
 | some k=>.int (k:Int)
 | none=>.non
theorem Zpc (H:Trm P) (n:Nat) (t:T):run P (n+1) (O "is_value") [t.d] h=.ok (.bl (isV t)) h:=by
 rw [Zd H.is_value (by cases t<;>rfl)];refine Ztr (U:=P.tbl n) (fun U=>Zk (xs2 U ZbG.body (Zs ZbG.N [t.d]) h)) H.gv ?_ ?_
 . cases t with
   | op w a b=>cases w<;>exact rfl
   | _=>exact rfl
 . cases t with
   | op w a b=>cases w<;>exact rfl
   | _=>exact rfl
theorem Zub (H:Trm P) (n:Nat) (t:T):run P (n+2) (O "parts_first") [t.d] h=.ok (.tup ((pf t).map T.d)) h:=by
 rw [Zd H.parts_first (by cases t<;>rfl)];have ep:=Gn.ZfX H.toTre n t h;cases t with
 | iff c a b=>exact rfl
 | op w a b=>exact Zfe (U:=P.tbl (n+1)) (fun U=>Zk (xs2 U ZU.body (Zs ZU.N [(T.op w a b).d]) h)) ep (by cases w<;>rfl) (by cases w<;>rfl)
 | _=>exact Zfe (U:=P.tbl (n+1)) (fun U=>Zk (xs2 U ZU.body (Zs ZU.N [T.d _]) h)) ep rfl rfl
noncomputable def ZdW:Sxs:=(.cons (.iff (.nt (.ex (.call (O "is_value") (.cons (.var 2) .nil)))) (.cons (.ret (.var 1)) .nil) .nil) .nil)
noncomputable def cnt(k:Nat):List T->List D
 | []=>[]
 | t::r=>.tup [.int ((k+1:Nat):Int),t.d]::cnt (k+1) r
theorem Zhp:∀ (ts:List T) (k:Nat),((ts.map T.d).mapIdx fun i x=>D.tup [.int ((k+i+1:Nat):Int),x])=cnt k ts
 | [],_=>rfl
 | t::r,k=>by
   rw [Op,List.mapIdx_cons,cnt,<- Zhp r (k+1)];congr 1
   . congr 1;funext i x;congr 4
     lia
theorem ZsZ(H:Trm P)(n:Nat):∀ (ts:List T) (k:Nat) (a b:Option D),(∃ S,ZP [] (.two 1 2) (xs2 (P.tbl (n+1)) ZdW) (cnt k ts) [some E,a,b] h=.ok (.rt (oN (Zdk (k+1) ts)),S) h)\/(Zdk (k+1) ts=none/\∃ S,ZP [] (.two 1 2) (xs2 (P.tbl (n+1)) ZdW) (cnt k ts) [some E,a,b] h=.ok (.nx,S) h)
 | [],k,a,b=>.inr ⟨rfl,_,rfl⟩
 | t::r,k,a,b=>by
   have ev:=Zpc H n (h:=h) t;rw [cnt,Zbw];cases hv:isV t with
   | false =>
     rw [hv] at ev;refine .inl ⟨[some E,some (.int ((k+1:Nat):Int)),some t.d],?_⟩;simp [ZdW,Pg.tbl,ev,Zdk,hv,oN]
   | true =>
     rw [hv] at ev;have x:xs2 (P.tbl (n+1)) ZdW [some E,some (.int ((k+1:Nat):Int)),some t.d] h=.ok (.nx,[some E,some (.int ((k+1:Nat):Int)),some t.d]) h:=by simp [ZdW,Pg.tbl,ev]
     have ih:=ZsZ H n (E:=E) r (k+1) (some (.int ((k+1:Nat):Int))) (some t.d);simp only [Zhv,List.set_cons_zero,List.set_cons_succ,x,Zm,Zdk,hv,if_true];exact ih
theorem Zsg (H:Trm P) (n:Nat) (t:T):run P (n+3) (O "first_open") [t.d] h=.ok (oN (fo t)) h:=by
 rw [Zd H.first_open (by cases t<;>rfl)];have ep:=Zub H n (h:=h) t;have ei:evi (P.tbl (n+2)) (.en1 (.call (O "parts_first") (.cons (.var 0) .nil))) [some t.d,none,none] h=.ok ⟨[],cnt 0 (pf t)⟩ h:=by
   have e1:ev (P.tbl (n+2)) (.call (O "parts_first") (.cons (.var 0) .nil)) [some t.d,none,none] h=.ok (.tup ((pf t).map T.d)) h:=ep;rw [Zou,e1,Zm];have:=Zhp (pf t) 0;simp only [Nat.zero_add] at this;simp only [Zc2,this]
 show Zk (xs2 (P.tbl (n+2)) (.cons (.forr (.two 1 2) (.en1 (.call (O "parts_first") (.cons (.var 0) .nil))) ZdW) (.cons (.ret (.cst .non)) .nil)) [some t.d,none,none] h)=_;rcases ZsZ H (n+1) (E:=t.d) (h:=h) (pf t) 0 none none with ⟨S,q⟩|⟨q0,S,q⟩
 . have x:xs1 (P.tbl (n+2)) (.forr (.two 1 2) (.en1 (.call (O "parts_first") (.cons (.var 0) .nil))) ZdW) [some t.d,none,none] h=.ok (.rt (oN (fo t)),S) h:=by
     rw [Zel,ei,Zm];exact q
   rw [Zc x];rfl
 . have x:xs1 (P.tbl (n+2)) (.forr (.two 1 2) (.en1 (.call (O "parts_first") (.cons (.var 0) .nil))) ZdW) [some t.d,none,none] h=.ok (.nx,S) h:=by
     rw [Zel,ei,Zm];exact q
   rw [Za x];have:fo t=none:=q0;rw [this];rfl
noncomputable def pth:T->List (T×Nat)
 | .call f a=>if isV f then (if isV a then [] else (.call f a,2)::pth a) else (.call f a,1)::pth f
 | .op w f a=>if isV f then (if isV a then [] else (.op w f a,2)::pth a) else (.op w f a,1)::pth f
 | .iff c t e=>if isV c then [] else (.iff c t e,1)::pth c
 | _=>[]
noncomputable def bot:T->T
 | .call f a=>if isV f then (if isV a then .call f a else bot a) else bot f
 | .op w f a=>if isV f then (if isV a then .op w f a else bot a) else bot f
 | .iff c t e=>if isV c then .iff c t e else bot c
 | t=>t
noncomputable def Za2(t:T):List D:=(pth t).map (fun p=>D.tup [p.1.d,.int (p.2:Int)])++[.tup [(bot t).d,.non]]
theorem ZmW(t:T)(nv:isV t=false)(nn:∀ x,t≠.name x):(fo t=none/\pth t=[]/\bot t=t)\/∃ k s,fo t=some k/\pth t=(t,k)::pth s/\bot t=bot s/\isV s=false/\s∈t.parts/\(∀ GD,Zag GD t.d (.int (k:Int)) h=.ok s.d h):=by
 cases t with
 | num _=>cases nv
 | fn _ _=>cases nv
 | rcc _ _ _=>cases nv
 | name x=>exact absurd rfl (nn x)
 | call f a =>
   cases hf:isV f with
   | false=>exact .inr ⟨1,f,by simp [fo,pf,T.parts,Zdk,hf],by simp [pth,hf],by simp [bot,hf],hf,by simp [T.parts],fun GD=>by simp [T.d]⟩
   | true =>
     cases ha:isV a with
     | false=>exact .inr ⟨2,a,by simp [fo,pf,T.parts,Zdk,hf,ha],by simp [pth,hf,ha],by simp [bot,hf,ha],ha,by simp [T.parts],fun GD=>by simp [T.d]⟩
     | true=>exact .inl ⟨by simp [fo,pf,T.parts,Zdk,hf,ha],by simp [pth,hf,ha],by simp [bot,hf,ha]⟩
 | op w f a =>
   cases hf:isV f with
   | false=>exact .inr ⟨1,f,by simp [fo,pf,T.parts,Zdk,hf],by simp [pth,hf],by simp [bot,hf],hf,by simp [T.parts],fun GD=>by simp [T.d]⟩
   | true =>
     cases ha:isV a with
     | false=>exact .inr ⟨2,a,by simp [fo,pf,T.parts,Zdk,hf,ha],by simp [pth,hf,ha],by simp [bot,hf,ha],ha,by simp [T.parts],fun GD=>by simp [T.d]⟩
     | true=>exact .inl ⟨by simp [fo,pf,T.parts,Zdk,hf,ha],by simp [pth,hf,ha],by simp [bot,hf,ha]⟩
 | iff c a b =>
   cases hf:isV c with
   | false=>exact .inr ⟨1,c,by simp [fo,pf,Zdk,hf],by simp [pth,hf],by simp [bot,hf],hf,by simp [T.parts],fun GD=>by simp [T.d]⟩
   | true=>exact .inl ⟨by simp [fo,pf,Zdk,hf],by simp [pth,hf],by simp [bot,hf]⟩
end Tm
end
section
namespace Tm
open PySem L2 IV
variable {P:Pg}{h:Hd}
theorem Zpf{a:D}:atI (l++[a]) (-1)=some a:=ZmG
theorem Zrj:cutD (l++[a]) none (some (-1))=l:=by
 have e:HT.sIx (l++[a]).length (l++[a]).length (some (-1))=l.length:=by simp [HT.sIx];lia
 have e0:HT.sIx (l++[a]).length 0 none=0:=by simp [HT.sIx]
 unfold cutD;rw [e,e0];simp
theorem ZoC(c:Gn.Cl [] t)(nv:isV t=false)(hs:s∈t.parts):Gn.Cl [] s:=by
 cases t with
 | num _=>cases nv
 | fn _ _=>cases nv
 | rcc _ _ _=>cases nv
 | name _=>cases hs
 | call f a=>simp [T.parts] at hs;rcases hs with rfl|rfl;exact c.1;exact c.2
 | op w f a=>simp [T.parts] at hs;rcases hs with rfl|rfl;exact c.1;exact c.2
 | iff f a b=>simp [T.parts] at hs;rcases hs with rfl|rfl|rfl;exact c.1;exact c.2.1;exact c.2.2
theorem Ztn(c:Gn.Cl [] t):∀ x,t≠.name x:=fun x e=>by subst e;cases c
noncomputable def wd(t:T):D:=.tup [t.d,oN (fo t)]
noncomputable def wc:Tx:=(.ex (.cmp .IsNot (.ix (.ix (.var 1) (.neg (.cst (.int 1)))) (.cst (.int 1))) (.cst .non)))
noncomputable def ZlV:Sxs:=(.cons (.set (.nm 2) (.ix (.ix (.ix (.var 1) (.neg (.cst (.int 1)))) (.cst (.int 0))) (.ix (.ix (.var 1) (.neg (.cst (.int 1)))) (.cst (.int 1))))) (.cons (.drp (.meth .app (.var 1) (.cons (.tupl (.cons (.var 2) (.cons (.call (O "first_open") (.cons (.var 2) .nil)) .nil))) .nil))) .nil))
theorem Zpg(H:Trm P)(n:Nat):∀ (fuel:Nat) (t:T) (A:List D) (o2:Option D),t.size<=fuel->A.length+t.size<=1000000->Gn.Cl [] t->isV t=false->∃ o2',
   ZI (tst (P.tbl (n+3)) wc) (xs2 (P.tbl (n+3)) ZlV) fuel [some E,some (.ref h.length),o2] (h++[.lst (A++[wd t])])=.ok (.nx,[some E,some (.ref h.length),o2']) (h++[.lst (A++Za2 t)])
 | 0,t,A,o2,hf,_,_,_=>by have:=Zb3 t;lia
 | fuel+1,t,A,o2,hf,hz,c,nv=>by
   have e1:ev (P.tbl (n+3)) (.ix (.var 1) (.neg (.cst (.int 1)))) [some E,some (.ref h.length),o2] (h++[.lst (A++[wd t])])=.ok (wd t) (h++[.lst (A++[wd t])]):=(Zo rfl rfl).trans (by rw [ZR Zb1,Zpf];rfl);have e2:ev (P.tbl (n+3)) (.ix (.ix (.var 1) (.neg (.cst (.int 1)))) (.cst (.int 1))) [some E,some (.ref h.length),o2] (h++[.lst (A++[wd t])])=.ok (oN (fo t)) (h++[.lst (A++[wd t])]):=(Zo e1 rfl).trans rfl;rcases ZmW (h:=h++[.lst (A++[wd t])]) t nv (Ztn c) with ⟨h1,h2,h3⟩|⟨k,s,h1,h2,h3,h4,h5,h6⟩
   . refine ⟨o2,(ZfO (Zw (Zl6 e2) (by rw [h1];simp [oN]))).trans ?_⟩;simp [Za2,h2,h3,wd,h1,oN]
   . have sl:=Zja h5;obtain ⟨o2',e⟩:=Zpg H n (E:=E) fuel s (A++[wd t]) (some s.d) (by lia) (by simp;lia) (ZoC c nv h5) h4;rw [h1] at e2;have ap:=Zax (d:=wd s) (Zb1 (h:=h) (x:=.lst (A++[wd t])) (r:=[])) (by rw [sizeLine_eq];simp;lia);rw [Zli] at ap;refine ⟨o2',(Zee (Zw (Zl6 e2) (by simp [oN])) ((Za (Zq ((Zo ((Zo e1 rfl).trans rfl) e2).trans (h6 P.GD)))).trans ((Za (Zds (Ze4 rfl Zb1 (Zb (ZaO (Zb rfl (Zb (Zt (Zsg H n s) rfl) rfl)) (by simp)) rfl) ap))).trans rfl))).trans (Eq.trans e ?_)⟩;simp [Za2,h2,h3,wd,h1,oN]
theorem Zsd (H:Trm P) (n:Nat) (t:T) (c:Gn.Cl [] t) (nv:isV t=false) (hz:t.size<=100000):run P (n+4) (O "way_down") [t.d] h=.ok (.ref h.length) (h++[.lst (Za2 t)]):=by
 rw [Zd H.way_down (by rfl)];have big:=H.big;obtain ⟨o2,e⟩:=Zpg H n (h:=h) (E:=t.d) P.L t [] none (by lia) (by simp;lia) c nv;have w:xs2 (P.tbl (n+3)) Zfg [some t.d,none,none] h=.ok (.rt (.ref h.length),[some t.d,some (.ref h.length),o2]) (h++[.lst ([]++Za2 t)]):=(Za (Zq (ZdQ (Zb (ZaO (Zb rfl (Zb (Zt (Zsg H n t) rfl) rfl)) (by simp)) rfl) (by simp)))).trans ((Za (s:=.whl wc ZlV) e).trans (Zc (Zz rfl)));exact congrArg Zk w
noncomputable def ZbQ:T->Nat->T->T
 | .call _ a,1,u=>.call u a
 | .call f _,2,u=>.call f u
 | .op w _ a,1,u=>.op w u a
 | .op w f _,2,u=>.op w f u
 | .iff _ t e,1,u=>.iff u t e
 | s,_,_=>s
noncomputable def ZQ:List (T×Nat)->T->T
 | [],u=>u
 | (s,k)::r,u=>ZbQ s k (ZQ r u)
theorem p1c:ZbQ (.call f a) 1 u=.call u a:=rfl
theorem p2c:ZbQ (.call f a) 2 u=.call f u:=rfl
theorem p1o:ZbQ (.op w f a) 1 u=.op w u a:=rfl
theorem p2o:ZbQ (.op w f a) 2 u=.op w f u:=rfl
theorem p1i:ZbQ (.iff c t e) 1 u=.iff u t e:=rfl
inductive Vp:T×Nat->Prop
 | c1 {f a:T}:Vp (.call f a,1)
 | c2 {f a:T}:Vp (.call f a,2)
 | o1 {w:Wd}{f a:T}:Vp (.op w f a,1)
 | o2 {w:Wd}{f a:T}:Vp (.op w f a,2)
 | i1 {c t e:T}:Vp (.iff c t e,1)
theorem ZdG:∀ t:T,∀ p∈pth t,Vp p
 | .num _,p,hp=>by cases hp
 | .name _,p,hp=>by cases hp
 | .fn _ _,p,hp=>by cases hp
 | .rcc _ _ _,p,hp=>by cases hp
 | .call f a,p,hp=>by
   simp only [pth] at hp;split at hp
   . split at hp
     . cases hp
     . rcases O2.mp hp with rfl|hp
       . exact .c2
       . exact ZdG a p hp
   . rcases O2.mp hp with rfl|hp
     . exact .c1
     . exact ZdG f p hp
 | .op w f a,p,hp=>by
   simp only [pth] at hp;split at hp
   . split at hp
     . cases hp
     . rcases O2.mp hp with rfl|hp
       . exact .o2
       . exact ZdG a p hp
   . rcases O2.mp hp with rfl|hp
     . exact .o1
     . exact ZdG f p hp
 | .iff c t e,p,hp=>by
   simp only [pth] at hp;split at hp
   . cases hp
   . rcases O2.mp hp with rfl|hp
     . exact .i1
     . exact ZdG c p hp
noncomputable def pd(p:T×Nat):D:=.tup [p.1.d,.int (p.2:Int)]
noncomputable def lb1:Sx:=(.set (.nm 2) (.bin .Add (.bin .Add (.sl (.var 3) none (some (.var 4))) (.tupl (.cons (.var 2) .nil))) (.sl (.var 3) (some (.bin .Add (.var 4) (.cst (.int 1)))) none)))
noncomputable def Zdg:Sxs:=(.cons lb1 .nil)
theorem ZpH(p:T×Nat)(v:Vp p)(u:T):xs2 U Zdg [some a,some b,some u.d,some p.1.d,some (.int (p.2:Int))] h=.ok (.nx,[some a,some b,some (ZbQ p.1 p.2 u).d,some p.1.d,some (.int (p.2:Int))]) h:=by
 have o:∀ (xs ys:List D),xs.length+ys.length<=10->opB .Add (.tup xs) (.tup ys) h=.ok (.tup (xs++ys)) h:=fun xs ys q=>Zf6 (by rw [sizeLine_eq];lia);obtain ⟨s,k⟩:=p;have go:∀ r,xs1 U lb1 [some a,some b,some u.d,some s.d,some (.int (k:Int))] h=.ok (.nx,[some a,some b,some r,some s.d,some (.int (k:Int))]) h->xs2 U Zdg [some a,some b,some u.d,some s.d,some (.int (k:Int))] h=.ok (.nx,[some a,some b,some r,some s.d,some (.int (k:Int))]) h:=fun r e=>by
   rw [Zdg,Za e];rfl
 cases v with
 | c1=>exact go _ rfl
 | c2=>exact go _ rfl
 | o1=>exact go _ rfl
 | o2=>exact go _ rfl
 | i1=>exact go _ rfl
theorem Zl2(hw:h[wk]? = some (.lst L)):∀ (ps:List (T×Nat)) (rest:List D) (u:T) (o3 o4:Option D),(∀ p∈ps,Vp p)->∃ o3' o4',
   ZP [(wk,L)] (.two 3 4) (xs2 U Zdg) ((ps.map pd).reverse++rest) [some a,some b,some u.d,o3,o4] h=ZP [(wk,L)] (.two 3 4) (xs2 U Zdg) rest [some a,some b,some (ZQ ps u).d,o3',o4'] h
 | [],rest,u,o3,o4,_=>⟨o3,o4,rfl⟩
 | p::ps,rest,u,o3,o4,v=>by
   obtain ⟨o31,o41,e⟩:=Zl2 (U:=U) (a:=a) (b:=b) hw ps (pd p::rest) u o3 o4 (fun q hq=>v q (Oh _ hq));refine ⟨some p.1.d,some (.int (p.2:Int)),?_⟩;rw [Op,List.reverse_cons,Oz,List.cons_append,OB,e];exact Zg9 hw rfl (ZpH p (v p Oi) (ZQ ps u))
theorem ZpV (H:Trm P) (n:Nat) (ps:List (T×Nat)) (u:T) (hw:h[wk]? = some (.lst (ps.map pd))) (v:∀ p∈ps,Vp p):run P (n+1) (O "put_back") [.ref wk,u.d] h=.ok (ZQ ps u).d h:=by
 rw [Zd H.put_back (by rfl)];obtain ⟨o3,o4,e⟩:=Zl2 (U:=P.tbl n) (a:=.ref wk) (b:=u.d) hw ps [] u none none v;rw [List.append_nil,Zha hw] at e;have ei:evi (P.tbl n) (.rev (.var 0)) [some (.ref wk),some u.d,some u.d,none,none] h=.ok ⟨[(wk,ps.map pd)],(ps.map pd).reverse⟩ h:=by simp [Zfq,hw]
 have w:xs2 (P.tbl n) Zfh [some (.ref wk),some u.d,none,none,none] h=.ok (.rt (ZQ ps u).d,[some (.ref wk),some u.d,some (ZQ ps u).d,o3,o4]) h:=(Za (Zq rfl)).trans ((Za ((ZdM ei).trans e)).trans (Zc (Zz rfl)));exact congrArg Zk w
end Tm
end
section
namespace Tm
open PySem L2 IV
variable {P:Pg}{h:Hd}
noncomputable def Z1(f:Str)(F:T)(x:Str)(A:T):Fil:=if f=x then [(x,A)] else [(f,F),(x,A)]
noncomputable def bec:T->Option T
 | .call F A=>match F with
   | .fn x e=>some (sub (Fil.ar [(x,A)]) e)
   | .rcc f x e=>some (sub (Fil.ar (Z1 f (.rcc f x e) x A)) e)
   | _=>none
 | .iff c t e=>match c with
   | .num z=>some (if z=0 then e else t)
   | _=>none
 | .op w a b=>match a,b with
   | .num a,.num b=>some (.num (_root_.Rw.wk w a b))
   | _,_=>none
 | _=>none
noncomputable def next(t:T):Option T:=(bec (bot t)).map (ZQ (pth t))
noncomputable def oT:Option T->D
 | some t=>t.d
 | none=>.non
theorem Zbg(hM:1<=M):∀ (t:T) (ar:Ar),(∀ x V,get ar x=some V->V.size<=M)->(sub ar t).size<=t.size * M
 | .num _,_,_=>by simp [sub,T.size,T.places];lia
 | .name x,ar,hv=>by
   cases e:get ar x with
   | none=>simp [sub,e,T.size,T.places];lia
   | some V=>have:=hv x V e;simp [sub,e];simp [T.size,T.places] at *;lia
 | .fn x e,ar,hv=>by
   have ih:=Zbg hM e ((x,none)::ar) (fun y V q=>hv y V (Zah [x] ar q));rw [sub,Ze,Ze (.fn x e)];simp [T.parts,Nat.add_mul] at ih ⊢
   lia
 | .rcc f x e,ar,hv=>by
   have ih:=Zbg hM e ((f,none)::(x,none)::ar) (fun y V q=>hv y V (Zah [f,x] ar q));rw [sub,Ze,Ze (.rcc f x e)];simp [T.parts,Nat.add_mul] at ih ⊢
   lia
 | .call f a,ar,hv=>by
   have i1:=Zbg hM f ar hv;have i2:=Zbg hM a ar hv;rw [sub,Ze,Ze (.call f a)];simp [T.parts,Nat.add_mul] at i1 i2 ⊢
   lia
 | .op w f a,ar,hv=>by
   have i1:=Zbg hM f ar hv;have i2:=Zbg hM a ar hv;rw [sub,Ze,Ze (.op w f a)];simp [T.parts,Nat.add_mul] at i1 i2 ⊢
   lia
 | .iff c t e,ar,hv=>by
   have i1:=Zbg hM c ar hv;have i2:=Zbg hM t ar hv;have i3:=Zbg hM e ar hv;rw [sub,Ze,Ze (.iff c t e)];simp [T.parts,Nat.add_mul] at i1 i2 i3 ⊢
   lia
theorem Zgi:∀ (f:Fil) {x:Str}{V:T},get f.ar x=some V->(x,V)∈f
 | [],x,V,e=>by cases e
 | (y,W)::r,x,V,e=>by
   rw [Fil.ar,Op,get] at e;split at e
   . rename_i q;cases e;rw [<- q];exact Oi
   . exact Oh _ (Zgi r e)
theorem Zie{t:T}{f:Fil}(hs:∀ p∈f,p.2.size<=300):(sub f.ar t).size<=t.size * 300:=Zbg (M:=300) (by lia) t f.ar fun x V e=>hs (x,V) (Zgi f e)
theorem Zmh{t:T}{f:Fil}(ht:t.size<=300)(hf:f.length<=2)(hs:∀ p∈f,p.2.size<=300/\∀ x,p.2≠.name x):Wok 301 (t,fen f)/\(sub f.ar t).size<=300000:=by
 have:=Zie (t:=t) (f:=f) fun p hp=>(hs p hp).1;refine ⟨⟨?_,fun q hq v e=>?_⟩,by lia⟩
 . have:(fen f).length=f.length:=by simp [fen]
   simp only
   lia
 . obtain ⟨p,hp,rfl⟩:=List.mem_map.mp hq;cases e;refine ⟨(hs p hp).2,?_,trivial⟩;have:=(hs p hp).1;show 0+2 * p.2.size<=602
   lia
theorem Zew (H:Trm P) (n:Nat) (F A:T) (hv:isV F=true) (hF:F.size<=300) (hA:A.size<=300) (nA:∀ x,A≠.name x):∃ g,run P (n+5) (O "called") [F.d,A.d] h=.ok (oT (bec (.call F A))) (h++g):=by
 rw [Zd H.called (by cases F<;>rfl)];have gr:∀ (f:Fil),∃ k,k=h.length/\(h++[DO.dic f.kv])[k]? = some (.dic f.kv):=fun f=>⟨_,rfl,by simp⟩
 cases F with
 | num z=>exact ⟨[],by rw [List.append_nil];exact rfl⟩
 | fn x e =>
   have he:e.size<=300:=by rw [Ze] at hF;simp [T.parts] at hF;lia
   obtain ⟨w1,w2⟩:=Zmh (t:=e) (f:=[(x,A)]) he (by simp) (by simp;exact ⟨by lia,nA⟩);obtain ⟨g,q⟩:=Zpb H n e [(x,A)] (h0:=h) (h:=h++[.dic (Fil.kv [(x,A)])]) (dk:=h.length) (by simp) (by simp) (by simp) (Oq _) (by simp) (fun i hi=>Oe hi) (by lia) (by lia) w1 w2;refine ⟨g,?_⟩;exact rt1 (U:=P.tbl (n+4)) (ss:=Zcx) (S:=[some (T.fn x e).d,some A.d]) (ZA q rfl rfl) rfl
 | rcc f x e =>
   have he:e.size<=300:=by rw [Ze] at hF;simp [T.parts] at hF;lia
   have hlen:(Z1 f (.rcc f x e) x A).length<=2:=by unfold Z1;split<;>simp
   have hnd:((Z1 f (.rcc f x e) x A).map (·.1)).Nodup:=by
     unfold Z1;split
     . simp
     . simpa using (by assumption)
   obtain ⟨w1,w2⟩:=Zmh (t:=e) (f:=Z1 f (.rcc f x e) x A) he hlen (by
     unfold Z1;split
     . simp;exact ⟨by lia,nA⟩
     . simp;exact ⟨hF,hA,nA⟩)
   obtain ⟨g,q⟩:=Zpb H n e (Z1 f (.rcc f x e) x A) (h0:=h) (h:=h++[.dic (Fil.kv (Z1 f (.rcc f x e) x A))]) (dk:=h.length) hnd (by lia) (by simp) (Oq _) (by simp) (fun i hi=>Oe hi) (by lia) (by lia) w1 w2;refine ⟨g,?_⟩;have mg:Zbj [] [(Sum.inr f,(T.rcc f x e).d),(Sum.inr x,A.d)]=Fil.kv (Z1 f (.rcc f x e) x A):=by
     unfold Z1;by_cases z:f=x
     . subst z;simp [Zbj,putD,Fil.kv]
     . have:¬ (Sum.inr f:Key)=Sum.inr x:=fun q=>z (Sum.inr.inj q);simp [Zbj,putD,Fil.kv,z]
   rw [<- mg] at q;show Zk (xs2 (P.tbl (n+4)) Zcx [some (T.rcc f x e).d,some A.d] h)=_;rw [nx1 (U:=P.tbl (n+4)) (ss:=Zcx) (S:=[some (T.rcc f x e).d,some A.d]) (ρ1:=[some (T.rcc f x e).d,some A.d]) (h2:=h) rfl rfl];exact rt1 (U:=P.tbl (n+4)) (ss:=tlS Zcx) (ZA q rfl rfl) rfl
 | _=>cases hv
theorem Zld (H:Trm P) (n:Nat) (c a b:T) (hv:isV c=true):run P (n+1) (O "chosen") [c.d,a.d,b.d] h=.ok (oT (bec (.iff c a b))) h:=by
 rw [Zd H.chosen (by rfl)];cases c with
 | num z=>by_cases e:z=0<;>simp [Ze1,Zhz,Zs,T.d,bec,oT,e]
 | fn x e=>exact rfl
 | rcc f x e=>exact rfl
 | _=>cases hv
theorem Zk8 (H:Trm P) (n:Nat) (w:Wd) (a b:T) (va:isV a=true) (vb:isV b=true) (ca:Gn.Cl [] a) (cb:Gn.Cl [] b):run P (n+1) (O "worked") [.str w.s,a.d,b.d] h=.ok (oT (bec (.op w a b))) h:=by
 have no:∀ (a b:T),xs1 (P.tbl n) Zff [some (.str w.s),some a.d,some b.d] h=.ok (.rt .non,[some (.str w.s),some a.d,some b.d]) h->run P (n+1) (O "worked") [.str w.s,a.d,b.d] h=.ok .non h:=fun a b e=>by
   rw [Zd H.worked (by rfl)];exact rt1 (U:=P.tbl n) (ss:=ZB) e rfl
 cases a with
 | num x =>
   cases b with
   | num y =>
     exact _root_.Rw.worked_nn H.worked H.gb n w ca cb
   | fn _ _=>exact no (.num x) (.fn _ _) rfl
   | rcc _ _ _=>exact no (.num x) (.rcc _ _ _) rfl
   | _=>cases vb
 | fn _ _=>exact no (.fn _ _) b rfl
 | rcc _ _ _=>exact no (.rcc _ _ _) b rfl
 | _=>cases va
noncomputable def Red:T->Prop
 | .call f a=>isV f=true/\isV a=true
 | .op _ f a=>isV f=true/\isV a=true
 | .iff c _ _=>isV c=true
 | _=>False
theorem ZbI:∀ t:T,isV t=false->Gn.Cl [] t->Red (bot t)/\Gn.Cl [] (bot t)/\(bot t).size<=t.size
 | .num _,nv,_=>by cases nv
 | .name x,_,c=>by cases c
 | .fn _ _,nv,_=>by cases nv
 | .rcc _ _ _,nv,_=>by cases nv
 | .call f a,_,c=>by
   have z:(T.call f a).size=1+(f.size+a.size):=by rw [Ze];simp [T.parts]
   simp only [bot];split
   . split
     . exact ⟨⟨by assumption,by assumption⟩,c,Oq _⟩
     . rename_i q;have ih:=ZbI a (by simpa using q) c.2;exact ⟨ih.1,ih.2.1,by lia⟩
   . rename_i q;have ih:=ZbI f (by simpa using q) c.1;exact ⟨ih.1,ih.2.1,by lia⟩
 | .op w f a,_,c=>by
   have z:(T.op w f a).size=1+(f.size+a.size):=by rw [Ze];simp [T.parts]
   simp only [bot];split
   . split
     . exact ⟨⟨by assumption,by assumption⟩,c,Oq _⟩
     . rename_i q;have ih:=ZbI a (by simpa using q) c.2;exact ⟨ih.1,ih.2.1,by lia⟩
   . rename_i q;have ih:=ZbI f (by simpa using q) c.1;exact ⟨ih.1,ih.2.1,by lia⟩
 | .iff f a b,_,c=>by
   have z:(T.iff f a b).size=1+(f.size+(a.size+b.size)):=by rw [Ze];simp [T.parts]
   simp only [bot];split
   . exact ⟨by assumption,c,Oq _⟩
   . rename_i q;have ih:=ZbI f (by simpa using q) c.1;exact ⟨ih.1,ih.2.1,by lia⟩
theorem Zle (H:Trm P) (n:Nat) (t:T) (r:Red t) (c:Gn.Cl [] t) (hz:t.size<=300):∃ g,run P (n+6) (O "become") [t.d] h=.ok (oT (bec t)) (h++g):=by
 rw [Zd H.become (by rfl)];cases t with
 | call F A =>
   have z:(T.call F A).size=1+(F.size+A.size):=by rw [Ze];simp [T.parts]
   obtain ⟨g,e⟩:=Zew H n (h:=h) F A r.1 (by lia) (by lia) (fun x z=>by have:=r.2;rw [z] at this;cases this);exact ⟨g,rt1 (U:=P.tbl (n+5)) (ss:=Zal) (S:=[some (T.call F A).d]) (ZA e rfl rfl) rfl⟩
 | iff a b d =>
   have e:=Zld H (n+4) (h:=h) a b d r;exact ⟨[],by
     rw [List.append_nil];show Zk (xs2 (P.tbl (n+5)) Zal [some (T.iff a b d).d] h)=_;rw [nx1 (U:=P.tbl (n+5)) (ss:=Zal) (S:=[some (T.iff a b d).d]) (ρ1:=[some (T.iff a b d).d]) (h2:=h) rfl rfl];exact rt1 (U:=P.tbl (n+5)) (ss:=tlS Zal) (ZA e rfl rfl) rfl⟩
 | op w a b =>
   have e:=Zk8 H (n+4) (h:=h) w a b r.1 r.2 c.1 c.2;exact ⟨[],by
     rw [List.append_nil];show Zk (xs2 (P.tbl (n+5)) Zal [some (T.op w a b).d] h)=_;rw [nx1 (U:=P.tbl (n+5)) (ss:=Zal) (S:=[some (T.op w a b).d]) (ρ1:=[some (T.op w a b).d]) (h2:=h) (by cases w<;>rfl) rfl,nx1 (U:=P.tbl (n+5)) (ss:=tlS Zal) (S:=[some (T.op w a b).d]) (ρ1:=[some (T.op w a b).d]) (h2:=h) (by cases w<;>rfl) rfl];exact rt1 (U:=P.tbl (n+5)) (ss:=tlS (tlS Zal)) (ZA e rfl rfl) rfl⟩
 | _=>cases r
noncomputable def ans (t:T):D:=if isV t then .tup [.str (O "value")] else match next t with
 | some u=>.tup [.str (O "loud"),u.d]
 | none=>.tup [.str (O "stuck")]
theorem Zfw (H:Trm P) (n:Nat) (t:T) (c:Gn.Cl [] t) (hz:t.size<=300):∃ g,run P (n+7) (O "stepped") [t.d] h=.ok (ans t) (h++g):=by
 rw [Zd H.stepped (by rfl)];have ev:=Zpc H (n+5) (h:=h) t;show ∃ g,Zk (xs2 (P.tbl (n+6)) (.cons Zba (.cons Zcm (.cons Zcl (.cons Za9 (.cons Zck .nil))))) [some t.d,none,none] h)=_;cases nv:isV t with
 | true =>
   rw [nv] at ev;refine ⟨[],?_⟩;have x1:xs1 (P.tbl (n+6)) Zba [some t.d,none,none] h=.ok (.rt (.tup [.str (O "value")]),[some t.d,none,none]) h:=ZA ev rfl rfl;rw [Zc x1,List.append_nil,ans,nv];rfl
 | false =>
   rw [nv] at ev;have x1:xs1 (P.tbl (n+6)) Zba [some t.d,none,none] h=.ok (.nx,[some t.d,none,none]) h:=ZA ev rfl rfl;have ew:=Zsd H (n+2) (h:=h) t c nv (by lia);have x2:xs1 (P.tbl (n+6)) Zcm [some t.d,none,none] h=.ok (.nx,[some t.d,some (.ref h.length),none]) (h++[.lst (Za2 t)]):=ZA ew rfl rfl;obtain ⟨r1,r2,r3⟩:=ZbI t nv c;obtain ⟨g,eb⟩:=Zle H n (h:=h++[.lst (Za2 t)]) (bot t) r1 r2 (by lia);have ix:Zag P.GD (.ref h.length) (.int (-1)) (h++[.lst (Za2 t)])=.ok (.tup [(bot t).d,.non]) (h++[.lst (Za2 t)]):=by rw [ZR (xs:=Za2 t) (by simp),Za2,Zpf];rfl
   have x3:xs1 (P.tbl (n+6)) Zcl [some t.d,some (.ref h.length),none] (h++[.lst (Za2 t)])=.ok (.nx,[some t.d,some (.ref h.length),some (oT (bec (bot t)))]) (h++[.lst (Za2 t)]++g):=Zq (Zt eb (Zb ((Zo ((Zo rfl rfl).trans ix) rfl).trans rfl) rfl));rw [Za x1,Za x2,Za x3];have kw:(h++[DO.lst (Za2 t)]++g)[h.length]? = some (.lst (Za2 t)):=by simp
   cases hb:bec (bot t) with
   | none =>
     refine ⟨[.lst (Za2 t)]++g,?_⟩;have x4:xs1 (P.tbl (n+6)) Za9 [some t.d,some (.ref h.length),some (oT none)] (h++[.lst (Za2 t)]++g)=.ok (.rt (.tup [.str (O "stuck")]),[some t.d,some (.ref h.length),some (oT none)]) (h++[.lst (Za2 t)]++g):=(Zu (ZqU rfl)).trans (Zc (Zz rfl));rw [Zc x4,ans,nv,next,hb,<- Oz];rfl
   | some u =>
     generalize hh:h++[DO.lst (Za2 t)]++g=h1 at *;have nn:u.d≠.non:=by cases u<;>simp [T.d]
     have x4:xs1 (P.tbl (n+6)) Za9 [some t.d,some (.ref h.length),some (oT (some u))] h1=.ok (.nx,[some t.d,some (.ref h.length),some (oT (some u))]) h1:=(Zx (Zs2 rfl nn)).trans rfl;have ep:=ZpV H (n+5) (h:=h1++[.lst ((pth t).map pd)]) (wk:=h1.length) (pth t) u (by simp) (ZdG t);have sl:Zfk (.ref h.length) none (some (-1)) h1=.ok (.ref h1.length) (h1++[.lst ((pth t).map pd)]):=by
       have:cutD (Za2 t) none (some (-1))=(pth t).map pd:=by rw [Za2,Zrj];rfl
       simp [Zfk,lstOf,kw,this]
     refine ⟨[.lst (Za2 t)]++g++[.lst ((pth t).map pd)],?_⟩;have x5:xs1 (P.tbl (n+6)) Zck [some t.d,some (.ref h.length),some (oT (some u))] h1=.ok (.rt (.tup [.str (O "loud"),(ZQ (pth t) u).d]),[some t.d,some (.ref h.length),some (oT (some u))]) (h1++[.lst ((pth t).map pd)]):=Zz (ZaO (Zb rfl (Zb (Zt ep (Zb ((Gn.ZiY rfl rfl rfl).trans sl) rfl)) rfl)) (by simp));rw [Za x4,Zc x5,ans,nv,next,hb,<- Oz,<- Oz,hh];rfl
end Tm
end
section
namespace Tm
open PySem L2 IV
variable {P:Pg}{h:Hd}
noncomputable def Kp(ar:Ar)(sc sc':List Str):Prop:=∀ x∈sc,(∃ V,get ar x=some V/\Gn.Cl [] V)\/(get ar x=none/\x∈sc')
theorem Kp.bind(k:Kp ar sc sc')(y:Str):Kp ((y,none)::ar) (y::sc) (y::sc'):=fun x hx=>by
 unfold get;by_cases e:y=x
 . rw [if_pos e];exact .inr ⟨rfl,by rw [e];exact Oi⟩
 . rw [if_neg e];rcases O2.mp hx with z|z
   . exact absurd z.symm e
   . rcases k x z with q|q
     . exact .inl q
     . exact .inr ⟨q.1,Oh _ q.2⟩
theorem Kp.two(k:Kp ar sc sc')(f x:Str):Kp ((f,none)::(x,none)::ar) (x::f::sc) (x::f::sc'):=fun z hz=>by
 have q:=(k.bind x).bind f z (by simp at hz ⊢;rcases hz with h|h|h<;>simp [h]);rcases q with q|q
 . exact .inl q
 . exact .inr ⟨q.1,by have:=q.2;simp at this ⊢;rcases this with h|h|h<;>simp [h]⟩
theorem ZaU:∀ (t:T) {ar:Ar}{sc sc':List Str},Kp ar sc sc'->Gn.Cl sc t->Gn.Cl sc' (sub ar t)
 | .num _,_,_,_,_,c=>c
 | .name x,ar,sc,sc',k,c=>by
   rcases k x c with ⟨V,e,cv⟩|⟨e,m⟩
   . rw [sub,e];exact Gn.Cl.mono (fun y hy=>by cases hy) cv
   . rw [sub,e];exact m
 | .fn x e,_,_,_,k,c=>⟨ZaU e (k.bind x) c.1,c.2⟩
 | .rcc f x e,_,_,_,k,c=>⟨ZaU e (k.two f x) c.1,c.2⟩
 | .call f a,_,_,_,k,c=>⟨ZaU f k c.1,ZaU a k c.2⟩
 | .iff f a b,_,_,_,k,c=>⟨ZaU f k c.1,ZaU a k c.2.1,ZaU b k c.2.2⟩
 | .op _ f a,_,_,_,k,c=>⟨ZaU f k c.1,ZaU a k c.2⟩
theorem d_s(q:a<=b+M):a+1<=b+1+M:=by lia
theorem d_m{a b c d M:Nat}(p:a<=b+M)(q:c<=d+M):max a c<=max b d+M:=Nat.max_le.mpr ⟨OE p (Nat.add_le_add_right (Nat.le_max_left _ _) _),OE q (Nat.add_le_add_right (Nat.le_max_right _ _) _)⟩
theorem Zaj{M:Nat}:∀ (t:T) (ar:Ar),(∀ x V,get ar x=some V->Gn.dep V<=M)->Gn.dep (sub ar t)<=Gn.dep t+M
 | .num _,_,_=>Nat.zero_le _
 | .name x,ar,hv=>by
   cases e:get ar x with
   | none=>simp [sub,e,Gn.dep]
   | some V=>have:=hv x V e;simp [sub,e];lia
 | .fn x e,ar,hv=>d_s (Zaj e ((x,none)::ar) (fun y V q=>hv y V (Zah [x] ar q)))
 | .rcc f x e,ar,hv=>d_s (Zaj e ((f,none)::(x,none)::ar) (fun y V q=>hv y V (Zah [f,x] ar q)))
 | .call f a,ar,hv=>d_s (d_m (Zaj f ar hv) (Zaj a ar hv))
 | .op w f a,ar,hv=>d_s (d_m (Zaj f ar hv) (Zaj a ar hv))
 | .iff c t e,ar,hv=>d_s (d_m (Zaj c ar hv) (d_m (Zaj t ar hv) (Zaj e ar hv)))
theorem zc(f a:T):(T.call f a).size=1+(f.size+a.size):=by rw [Ze];simp [T.parts]
theorem zo(w:Wd)(f a:T):(T.op w f a).size=1+(f.size+a.size):=by rw [Ze];simp [T.parts]
theorem zi(f a b:T):(T.iff f a b).size=1+(f.size+(a.size+b.size)):=by rw [Ze];simp [T.parts]
theorem zf(x:Str)(e:T):(T.fn x e).size=1+e.size:=by rw [Ze];simp [T.parts]
theorem zr(f x:Str)(e:T):(T.rcc f x e).size=1+e.size:=by rw [Ze];simp [T.parts]
theorem l_2{a b c d:Nat}(p:a<c)(q:b<d):max a b<c+d:=Nat.max_lt.mpr ⟨Ot p (Nat.le_add_right _ _),Ot q (Nat.le_add_left _ _)⟩
theorem l_1{a c:Nat}(p:a<c):a+1<1+c:=by lia
theorem Zbl:∀ t:T,Gn.dep t<t.size
 | .num _=>by simp [Gn.dep,T.size,T.places]
 | .name _=>by simp [Gn.dep,T.size,T.places]
 | .fn x e=>by rw [zf];exact l_1 (Zbl e)
 | .rcc f x e=>by rw [zr];exact l_1 (Zbl e)
 | .call f a=>by rw [zc];exact l_1 (l_2 (Zbl f) (Zbl a))
 | .op w f a=>by rw [zo];exact l_1 (l_2 (Zbl f) (Zbl a))
 | .iff c t e=>by rw [zi];exact l_1 (l_2 (Zbl c) (l_2 (Zbl t) (Zbl e)))
theorem Zmi{f:Fil}(hc:∀ p∈f,Gn.Cl [] p.2)(sc:List Str)(hk:∀ x∈sc,x∈f.map (·.1)):Kp f.ar sc []:=fun x hx=>by
 have:∀ (f:Fil),(∀ p∈f,Gn.Cl [] p.2)->x∈f.map (·.1)->∃ V,get f.ar x=some V/\Gn.Cl [] V:=by
   intro f;induction f with
   | nil=>intro _ z;cases z
   | cons p r ih =>
     intro hc z;rw [Fil.ar,Op,get];by_cases e:p.1=x
     . rw [if_pos e];exact ⟨p.2,rfl,hc p Oi⟩
     . rw [if_neg e];rw [Op] at z;rcases O2.mp z with q|q
       . exact absurd q.symm e
       . exact ih (fun p hp=>hc p (Oh _ hp)) q
 exact .inl (this f hc (hk x hx))
theorem ZoP(t u:T)(r:Red t)(c:Gn.Cl [] t)(hz:t.size<=300)(e:bec t=some u):Gn.Cl [] u/\u.size<=t.size * 300:=by
 cases t with
 | call F A =>
   have z:=zc F A;cases F with
   | fn x b =>
     cases e;have zb:=zf x b;have fo:=Zie (t:=b) (f:=[(x,A)]) (by simp;lia);refine ⟨ZaU b (Zmi (by simp;exact c.2) [x] (by simp)) c.1.1,OE fo (Nat.mul_le_mul_right _ (by rw [z,zb];lia))⟩
   | rcc f x b =>
     cases e;have zb:=zr f x b;have mem:∀ p∈Z1 f (.rcc f x b) x A,p.2=.rcc f x b\/p.2=A:=by
       intro p hp;unfold Z1 at hp;split at hp
       . simp at hp;rw [hp];exact .inr rfl
       . simp at hp;rcases hp with rfl|rfl
         . exact .inl rfl
         . exact .inr rfl
     have fo:=Zie (t:=b) (f:=Z1 f (.rcc f x b) x A) (fun p hp=>by rcases mem p hp with q|q<;>rw [q]<;>lia);refine ⟨ZaU b (Zmi (fun p hp=>by rcases mem p hp with q|q<;>rw [q];exact c.1;exact c.2) [x,f] (by unfold Z1;split<;>simp_all)) c.1.1,OE fo (Nat.mul_le_mul_right _ (by rw [z,zb];lia))⟩
   | _=>cases e
 | iff a b d =>
   have z:=zi a b d;cases a with
   | num m =>
     simp only [bec,Option.some.injEq] at e;subst e;split
     . exact ⟨c.2.2,by lia⟩
     . exact ⟨c.2.1,by lia⟩
   | _=>cases e
 | op w a b =>
   cases a with
   | num x =>
     cases b with
     | num y =>
       cases e;have:=_root_.Rw.wk_ok w x y;exact ⟨this,by simp [T.size,T.places]⟩
     | _=>cases e
   | _=>cases e
 | _=>cases r
theorem Zlq:∀ (t:T) (u:T),Gn.Cl [] t->Gn.Cl [] u->Gn.Cl [] (ZQ (pth t) u)/\(ZQ (pth t) u).size<=t.size+u.size:=by
 have two:∀ a b c u:Nat,a<=b+u->1+(a+c)<=1+(b+c)+u:=fun a b c u q=>by lia
 have two':∀ a b c u:Nat,a<=b+u->1+(c+a)<=1+(c+b)+u:=fun a b c u q=>by lia
 have z2:=zc;have o2:=zo;have i2:=zi;intro t u;induction t with
 | num _=>exact fun _ cu=>⟨cu,Nat.le_add_left _ _⟩
 | name _=>exact fun _ cu=>⟨cu,Nat.le_add_left _ _⟩
 | fn _ _ _=>exact fun _ cu=>⟨cu,Nat.le_add_left _ _⟩
 | rcc _ _ _ _=>exact fun _ cu=>⟨cu,Nat.le_add_left _ _⟩
 | call f a q1 q2 =>
   intro c cu;cases hf:isV f with
   | false =>
     simp only [pth,hf,ZQ,p1c,p2c,p1o,p2o,p1i,OG,if_false];exact ⟨⟨(q1 c.1 cu).1,c.2⟩,by rw [z2,z2];exact two _ _ _ _ (q1 c.1 cu).2⟩
   | true =>
     cases ha:isV a with
     | false =>
       simp only [pth,hf,ha,ZQ,p1c,p2c,p1o,p2o,p1i,OG,if_false,if_true];exact ⟨⟨c.1,(q2 c.2 cu).1⟩,by rw [z2,z2];exact two' _ _ _ _ (q2 c.2 cu).2⟩
     | true =>
       simp only [pth,hf,ha,ZQ,if_true];exact ⟨cu,Nat.le_add_left _ _⟩
 | op w f a q1 q2 =>
   intro c cu;cases hf:isV f with
   | false =>
     simp only [pth,hf,ZQ,p1c,p2c,p1o,p2o,p1i,OG,if_false];exact ⟨⟨(q1 c.1 cu).1,c.2⟩,by rw [o2,o2];exact two _ _ _ _ (q1 c.1 cu).2⟩
   | true =>
     cases ha:isV a with
     | false =>
       simp only [pth,hf,ha,ZQ,p1c,p2c,p1o,p2o,p1i,OG,if_false,if_true];exact ⟨⟨c.1,(q2 c.2 cu).1⟩,by rw [o2,o2];exact two' _ _ _ _ (q2 c.2 cu).2⟩
     | true =>
       simp only [pth,hf,ha,ZQ,if_true];exact ⟨cu,Nat.le_add_left _ _⟩
 | iff f a b q1 q2 q3 =>
   intro c cu;cases hf:isV f with
   | false =>
     simp only [pth,hf,ZQ,p1c,p2c,p1o,p2o,p1i,OG,if_false];exact ⟨⟨(q1 c.1 cu).1,c.2.1,c.2.2⟩,by rw [i2,i2];exact two _ _ _ _ (q1 c.1 cu).2⟩
   | true =>
     simp only [pth,hf,ZQ,if_true];exact ⟨cu,Nat.le_add_left _ _⟩
theorem ZgX{t u:T}(nv:isV t=false)(c:Gn.Cl [] t)(hz:t.size<=120)(e:next t=some u):Gn.Cl [] u/\u.size<=40000:=by
 obtain ⟨v,e1,rfl⟩:=Oo.mp e;obtain ⟨r1,r2,r3⟩:=ZbI t nv c;obtain ⟨b1,b2⟩:=ZoP (bot t) v r1 r2 (by lia) e1;obtain ⟨p1,p2⟩:=Zlq t v c b1;have:(bot t).size * 300<=120 * 300:=Nat.mul_le_mul_right _ (by lia);exact ⟨p1,by lia⟩
theorem Zoy(b A:T){x:Str}:Gn.dep b+Gn.dep A<=2 * Gn.dep (.call (.fn x b) A):=by
 show _<=2 * (max (Gn.dep b+1) (Gn.dep A)+1)
 lia
theorem Zmr(b A:T):Gn.dep b+max (Gn.dep (.rcc f x b)) (Gn.dep A)<=2 * Gn.dep (.call (.rcc f x b) A):=by
 show Gn.dep b+max (Gn.dep b+1) (Gn.dep A)<=2 * (max (Gn.dep b+1) (Gn.dep A)+1)
 lia
theorem ZkB(a b d:T):Gn.dep d<=2 * Gn.dep (.iff a b d):=by
 show _<=2 * (max (Gn.dep a) (max (Gn.dep b) (Gn.dep d))+1)
 lia
theorem Zil(a b d:T):Gn.dep b<=2 * Gn.dep (.iff a b d):=by
 show _<=2 * (max (Gn.dep a) (max (Gn.dep b) (Gn.dep d))+1)
 lia
theorem ZoQ(t u:T)(e:bec t=some u):Gn.dep u<=2 * Gn.dep t:=by
 cases t with
 | call F A =>
   cases F with
   | fn x b =>
     cases e;have dd:=Zaj (M:=Gn.dep A) b (Fil.ar [(x,A)]) (fun y V q=>by have:=Zgi [(x,A)] q;simp at this;rw [this.2];exact Oq _);exact OE dd (Zoy _ _)
   | rcc f x b =>
     cases e;have dd:=Zaj (M:=max (Gn.dep (.rcc f x b)) (Gn.dep A)) b (Fil.ar (Z1 f (.rcc f x b) x A)) (fun y V q=>by
       have m:=Zgi _ q;unfold Z1 at m;split at m
       . simp at m;rw [m.2];exact Nat.le_max_right _ _
       . simp at m;rcases m with m|m
         . rw [m.2];exact Nat.le_max_left _ _
         . rw [m.2];exact Nat.le_max_right _ _)
     exact OE dd (Zmr _ _)
   | _=>cases e
 | iff a b d =>
   cases a with
   | num m =>
     simp only [bec,Option.some.injEq] at e;subst e;split
     . exact ZkB _ _ _
     . exact Zil _ _ _
   | _=>cases e
 | op w a b =>
   cases a with
   | num x =>
     cases b with
     | num y=>cases e;exact Nat.zero_le _
     | _=>cases e
   | _=>cases e
 | _=>cases e
theorem Zlr(u:T):∀ t:T,Gn.dep (ZQ (pth t) u)<=max (Gn.dep t) ((pth t).length+Gn.dep u)/\(pth t).length+Gn.dep (bot t)<=Gn.dep t:=by
 have m1:∀ a b c n u:Nat,a<=max b (n+u)->max a c+1<=max (max b c+1) (n+1+u):=fun a b c n u q=>by
   refine Nat.max_lt.mpr ⟨?_,Ot (Nat.lt_succ_of_le (Nat.le_max_right b c)) (Nat.le_max_left _ _)⟩;rcases Nat.le_total b (n+u) with h|h
   . rw [Nat.max_eq_right h] at q;exact Ot (by lia:a<n+1+u) (Nat.le_max_right _ _)
   . rw [Nat.max_eq_left h] at q;exact Ot (Nat.lt_succ_of_le (OE q (Nat.le_max_left b c))) (Nat.le_max_left _ _)
 have m2:∀ a b c n u:Nat,a<=max b (n+u)->max c a+1<=max (max c b+1) (n+1+u):=fun a b c n u q=>by
   rw [Nat.max_comm c a,Nat.max_comm c b];exact m1 a b c n u q
 have m3:∀ b c n d:Nat,n+d<=b->n+1+d<=max b c+1:=fun b c n d q=>OE (by lia:n+1+d<=b+1) (Nat.succ_le_succ (Nat.le_max_left _ _));have m4:∀ b c n d:Nat,n+d<=b->n+1+d<=max c b+1:=fun b c n d q=>OE (by lia:n+1+d<=b+1) (Nat.succ_le_succ (Nat.le_max_right _ _));have m0:∀ d u:Nat,u<=max d (0+u):=fun d u=>by lia
 have m5:∀ d:Nat,0+d<=d:=fun d=>by lia
 intro t;induction t with
 | num _=>exact ⟨m0 _ _,m5 _⟩
 | name _=>exact ⟨m0 _ _,m5 _⟩
 | fn _ _ _=>exact ⟨m0 _ _,m5 _⟩
 | rcc _ _ _ _=>exact ⟨m0 _ _,m5 _⟩
 | call f a q1 q2 =>
   cases hf:isV f with
   | false =>
     simp only [pth,hf,ZQ,p1c,p2c,p1o,p2o,p1i,bot,OG,if_false,Os];exact ⟨m1 _ _ _ _ _ q1.1,m3 _ _ _ _ q1.2⟩
   | true =>
     cases ha:isV a with
     | false =>
       simp only [pth,hf,ha,ZQ,p1c,p2c,p1o,p2o,p1i,bot,OG,if_false,if_true,Os];exact ⟨m2 _ _ _ _ _ q2.1,m4 _ _ _ _ q2.2⟩
     | true =>
       simp only [pth,hf,ha,ZQ,bot,if_true];exact ⟨m0 _ _,m5 _⟩
 | op w f a q1 q2 =>
   cases hf:isV f with
   | false =>
     simp only [pth,hf,ZQ,p1c,p2c,p1o,p2o,p1i,bot,OG,if_false,Os];exact ⟨m1 _ _ _ _ _ q1.1,m3 _ _ _ _ q1.2⟩
   | true =>
     cases ha:isV a with
     | false =>
       simp only [pth,hf,ha,ZQ,p1c,p2c,p1o,p2o,p1i,bot,OG,if_false,if_true,Os];exact ⟨m2 _ _ _ _ _ q2.1,m4 _ _ _ _ q2.2⟩
     | true =>
       simp only [pth,hf,ha,ZQ,bot,if_true];exact ⟨m0 _ _,m5 _⟩
 | iff f a b q1 q2 q3 =>
   cases hf:isV f with
   | false =>
     simp only [pth,hf,ZQ,p1c,p2c,p1o,p2o,p1i,bot,OG,if_false,Os];exact ⟨m1 _ _ _ _ _ q1.1,m3 _ _ _ _ q1.2⟩
   | true =>
     simp only [pth,hf,ZQ,bot,if_true];exact ⟨m0 _ _,m5 _⟩
theorem Zje(nv:isV t=false)(c:Gn.Cl [] t)(hz:t.size<=120)(e:next t=some u):Gn.Cl [] u/\u.size<=40000/\Gn.dep u<=240:=by
 obtain ⟨p1,p2⟩:=ZgX nv c hz e;obtain ⟨v,e1,rfl⟩:=Oo.mp e;have d1:=ZoQ (bot t) v e1;obtain ⟨d2,d3⟩:=Zlr v t;have dl:=Zbl t;refine ⟨p1,p2,?_⟩;generalize Gn.dep (ZQ (pth t) v)=a at *;generalize Gn.dep (bot t)=b at *;generalize Gn.dep v=d at *;generalize Gn.dep t=f at *;generalize (pth t).length=n at *;clear e e1 p1 p2 nv c
 lia
end Tm
end
section
namespace Tm
open PySem L2 IV
variable {P:Pg}
noncomputable def row:Nat->T->List T×Str
 | 0,t=>([t],if isV t then O "value" else match next t with
   | none=>O "stuck"
   | some _=>O "open")
 | m+1,t=>if isV t then ([t],O "value") else match next t with
   | none=>([t],O "stuck")
   | some u=>if 120<u.size then ([t],O "wide") else (t::(row m u).1,(row m u).2)
theorem ZpQ (H:Trw P) (n:Nat) (t:T) (hz:t.size<=800000) (h:Hd):run P (n+3) (O "is_wide") [t.d] h=.ok (.bl (decide (120<t.size))) (h++[.lst (t.places.map T.d),.lst []]):=by
 rw [Zd H.is_wide (by rfl)];have e:=Gn.Zlb H.toTrm.toTre H.pl n t h hz;have gw:=H.gw;generalize P.G=PG at gw;have l:(h++[DO.lst (t.places.map T.d),.lst []])[h.length]? = some (.lst (t.places.map T.d)):=by simp
 have c:decide ((120:Int)<(t.places.length:Int))=decide (120<t.size):=by
   rw [Bool.eq_iff_iff];simp only [decide_eq_true_eq];unfold T.size
   lia
 simp [ZdO,ZfL,Zs,e,gw,Zao,ZhA,seqOf,lstOf,c]
noncomputable def rw1:Sx:=(.iff (.ex (.cmp .Gt (.blt .len (.cons (.var 2) .nil)) (.var 1))) (.cons (.ret (.tupl (.cons (.var 2) (.cons (.cst (.str (O "open"))) .nil)))) .nil) .nil)
noncomputable def rw2:Sx:=(.iff (.ex (.call (O "is_wide") (.cons (.ix (.var 3) (.cst (.int 1))) .nil))) (.cons (.ret (.tupl (.cons (.var 2) (.cons (.cst (.str (O "wide"))) .nil)))) .nil) .nil)
noncomputable def rw3:Sx:=(.drp (.meth .app (.var 2) (.cons (.ix (.var 3) (.cst (.int 1))) .nil)))
noncomputable def rw4:Sx:=(.set (.nm 3) (.call (O "stepped") (.cons (.ix (.var 3) (.cst (.int 1))) .nil)))
noncomputable def Zh3:Sxs:=.cons rw1 (.cons rw2 (.cons rw3 (.cons rw4 .nil)))
noncomputable def rwc:Tx:=(.ex (.cmp .Eq (.ix (.var 3) (.cst (.int 0))) (.cst (.str (O "loud")))))
noncomputable def rwR:Sxs:=(.cons (.ret (.tupl (.cons (.var 2) (.cons (.ix (.var 3) (.cst (.int 0))) .nil)))) .nil)
noncomputable def rwF(U:Tb)(r:R (Fl×Ev)):R D:=Zk (r.bnd fun p h1=>match p with
   | (.nx,ρ1)=>xs2 U rwR ρ1 h1
   | p=>.ok p h1)
noncomputable def vr(E:D)(M rk:Nat)(a:D):Ev:=[some E,some (.int (M:Int)),some (.ref rk),some a]
theorem Zph(H:Trw P)(n:Nat)(M:Nat)(hM:M<=1000):∀ (m:Nat) (t:T) (A:List T) (g:Hd) (fuel:Nat),A.length+m=M->m<fuel->Gn.Cl [] t->t.size<=120->∃ g',
   rwF (P.tbl (n+7)) (ZI (tst (P.tbl (n+7)) rwc) (xs2 (P.tbl (n+7)) Zh3) fuel (vr E M h.length (ans t)) (h++.lst ((A++[t]).map T.d)::g))=.ok (.tup [.ref h.length,.str (row m t).2]) (h++.lst ((A++(row m t).1).map T.d)::g')
 | m,t,A,g,0,_,hf,_,_=>by lia
 | m,t,A,g,fuel+1,hA,hf,c,hz=>by
   have stop:∀ w:Str,w≠O "loud" -> ans t=.tup [.str w]->row m t=([t],w)->∃ g',rwF (P.tbl (n+7)) (ZI (tst (P.tbl (n+7)) rwc) (xs2 (P.tbl (n+7)) Zh3) (fuel+1) (vr E M h.length (ans t)) (h++.lst ((A++[t]).map T.d)::g))=.ok (.tup [.ref h.length,.str (row m t).2]) (h++.lst ((A++(row m t).1).map T.d)::g'):=by
     intro w hw e1 e2;rw [e1,e2];exact ⟨g,(congrArg (rwF _) (ZfO (Zw (ZbH rfl rfl) (decide_eq_false hw)))).trans rfl⟩
   cases nv:isV t with
   | true=>exact stop (O "value") (by simp) (by simp [ans,nv]) (by cases m<;>simp [row,nv])
   | false =>
     cases hn:next t with
     | none=>exact stop (O "stuck") (by simp) (by simp [ans,nv,hn]) (by cases m<;>simp [row,nv,hn])
     | some u =>
       obtain ⟨cu,su⟩:=ZgX nv c hz hn;rw [show ans t=.tup [.str (O "loud"),u.d] by simp [ans,nv,hn]];have te:∀ h',tst (P.tbl (n+7)) rwc (vr E M h.length (.tup [.str (O "loud"),u.d])) h'=.ok true h':=fun h'=>Zw (ZbH rfl rfl) (decide_eq_true rfl);have tl:∀ g,tst (P.tbl (n+7)) (.ex (.cmp .Gt (.blt .len (.cons (.var 2) .nil)) (.var 1))) (vr E M h.length (.tup [.str (O "loud"),u.d])) (h++.lst ((A++[t]).map T.d)::g)=.ok (decide ((M:Int)<((A++[t]).map T.d).length)) (h++.lst ((A++[t]).map T.d)::g):=fun g=>ZqZ (Zgp rfl (Zjk Zb1)) rfl;cases m with
       | zero =>
         have e:row 0 t=([t],O "open"):=by simp [row,nv,hn]
         rw [e];exact ⟨g,(congrArg (rwF _) (ZgH (te _) (Zc ((Zu (Zw (tl g) (decide_eq_true (by simp;lia)))).trans (Zc (Zz (ZaO (Zb rfl (Zb rfl rfl)) (by simp)))))))).trans rfl⟩
       | succ m =>
         have x1:=(Zx (U:=P.tbl (n+7)) (a:=.cons (.ret (.tupl (.cons (.var 2) (.cons (.cst (.str (O "open"))) .nil)))) .nil) (b:=.nil) (Zw (tl g) (decide_eq_false (by simp;lia)))).trans rfl;obtain ⟨g1,ew⟩:∃ g1,run P (n+7) (O "is_wide") [u.d] (h++.lst ((A++[t]).map T.d)::g)=.ok (.bl (decide (120<u.size))) (h++.lst ((A++[t]).map T.d)::g1):=⟨_,(ZpQ H (n+4) u (by lia) _).trans (by rw [Oz];rfl)⟩
         by_cases hw:120<u.size
         . have e:row (m+1) t=([t],O "wide"):=by simp [row,nv,hn,hw]
           rw [e];rw [decide_eq_true hw] at ew;exact ⟨g1,(congrArg (rwF _) (ZgH (te _) ((Za x1).trans (Zc ((Zu (Zc1 (Zt ew rfl))).trans (Zc (Zz (ZaO (Zb rfl (Zb rfl rfl)) (by simp))))))))).trans rfl⟩
         . have er:row (m+1) t=(t::(row m u).1,(row m u).2):=by simp [row,nv,hn,hw]
           rw [decide_eq_false hw] at ew;have ap:=Zax (d:=u.d) (Zb1 (h:=h) (x:=.lst ((A++[t]).map T.d)) (r:=g1)) (by rw [sizeLine_eq];simp;lia);rw [Zli,show (A++[t]).map T.d++[u.d]=(A++[t]++[u]).map T.d by simp] at ap;obtain ⟨g2,es⟩:=Zfw H.toTrm n (h:=h++.lst ((A++[t]++[u]).map T.d)::g1) u cu (by lia);obtain ⟨g',e⟩:=Zph H n (h:=h) (E:=E) M hM m u (A++[t]) (g1++g2) fuel (by simp;lia) (by lia) cu (by lia);rw [er,show A++(t::(row m u).1,(row m u).2).1=A++[t]++(row m u).1 by simp];refine ⟨g',(congrArg (rwF _) (Zee (te _) ((Za x1).trans ((Za ((Zx (Zc1 (Zt ew rfl))).trans rfl)).trans ((Za (Zds (Ze4 rfl Zb1 (Zb rfl rfl) ap))).trans ((Za (Zq (Zt es rfl))).trans rfl)))))).trans ?_⟩;rw [Oz h];exact e
theorem Zpa (H:Trw P) (n:Nat) (t:T) (M:Nat) (hM:M<=1000) (c:Gn.Cl [] t) (hz:t.size<=120) (h:Hd):∃ g,run P (n+8) (O "row_of") [t.d,.int (M:Int)] h=.ok (.tup [.ref h.length,.str (row M t).2]) (h++.lst ((row M t).1.map T.d)::g):=by
 rw [Zd H.row_of (by rfl)];obtain ⟨g1,es⟩:=Zfw H.toTrm n (h:=h++[.lst [t.d]]) t c (by lia);have big:=H.big;obtain ⟨g',e⟩:=Zph H n (h:=h) (E:=t.d) M hM M t [] g1 P.L (by simp) (by lia) c hz;refine ⟨g',Eq.trans ?_ e⟩;have w:xs2 (P.tbl (n+7)) Zhx [some t.d,some (.int (M:Int)),none,none] h=xs2 (P.tbl (n+7)) (.cons (.whl rwc Zh3) rwR) (vr t.d M h.length (ans t)) (h++.lst [t.d]::g1):=(Za (Zq (ZdQ (Zb rfl rfl) (by simp)))).trans ((Za (Zq (Zt es rfl))).trans (by rw [Oz];rfl));exact congrArg Zk w
end Tm
end
section
namespace Al
open PySem L2 IV Tm
open Gn (Cl nb dep)
noncomputable abbrev Cx2:=List (Str×Str)
noncomputable def lk:Cx2->Str->Str->Prop
 | [],_,_=>False
 | (a,b)::r,x,y=>(x=a/\y=b)\/(x≠a/\y≠b/\lk r x y)
inductive Al:Cx2->T->T->Prop
 | num (n:Int):Al S (.num n) (.num n)
 | name (h:lk S x y):Al S (.name x) (.name y)
 | fn (h:Al ((x,y)::S) e e'):Al S (.fn x e) (.fn y e')
 | rcc (h:Al ((x,y)::(f,g)::S) e e'):Al S (.rcc f x e) (.rcc g y e')
 | call (h:Al S f f') (h':Al S a a'):Al S (.call f a) (.call f' a')
 | iff (h:Al S c c') (h1:Al S a a') (h2:Al S b b'):Al S (.iff c a b) (.iff c' a' b')
 | op (w:Wd) (h:Al S a a') (h':Al S b b'):Al S (.op w a b) (.op w a' b')
theorem ZlY{Z:Cx2}:∀ {S:Cx2},lk S x y->lk (S++Z) x y
 | (_,_)::_,.inl h=>.inl h
 | (_,_)::_,.inr ⟨h1,h2,h3⟩=>.inr ⟨h1,h2,ZlY h3⟩
theorem Al.app{Z:Cx2}(h:Al S t u):Al (S++Z) t u:=by
 induction h with
 | num n=>exact .num n
 | name h=>exact .name (ZlY h)
 | fn _ ih=>exact .fn ih
 | rcc _ ih=>exact .rcc ih
 | call _ _ i1 i2=>exact .call i1 i2
 | iff _ _ _ i1 i2 i3=>exact .iff i1 i2 i3
 | op w _ _ i1 i2=>exact .op w i1 i2
theorem Al.size(h:Al S t u):t.size=u.size:=by
 induction h with
 | num n=>rfl
 | name h=>rfl
 | fn _ ih=>rw [zf,zf,ih]
 | rcc _ ih=>rw [zr,zr,ih]
 | call _ _ i1 i2=>rw [zc,zc,i1,i2]
 | iff _ _ _ i1 i2 i3=>rw [zi,zi,i1,i2,i3]
 | op w _ _ i1 i2=>rw [zo,zo,i1,i2]
theorem Al.isV(h:Al S t u):Tm.isV t=Tm.isV u:=by cases h<;>rfl
noncomputable def Sb(ar ar':Ar)(S Z:Cx2):Prop:=∀ x y,lk S x y->(∃ V W,get ar x=some V/\get ar' y=some W/\Al [] V W)\/(get ar x=none/\get ar' y=none/\lk Z x y)
theorem Zcc:get ((x,v)::ar) x=v:=by rw [Tm.get,if_pos rfl]
theorem Zgh(h:x≠a):get ((a,v)::ar) x=get ar x:=by rw [Tm.get,if_neg (fun e=>h e.symm)]
theorem Sb.cons(s:Sb ar ar' S Z)(a b:Str):Sb ((a,none)::ar) ((b,none)::ar') ((a,b)::S) ((a,b)::Z):=fun x y h=>by
 rcases h with ⟨rfl,rfl⟩|⟨h1,h2,h3⟩
 . exact .inr ⟨Zcc,Zcc,.inl ⟨rfl,rfl⟩⟩
 . rw [Zgh h1,Zgh h2];rcases s x y h3 with q|⟨q1,q2,q3⟩
   . exact .inl q
   . exact .inr ⟨q1,q2,.inr ⟨h1,h2,q3⟩⟩
theorem Zmc{ar:Ar}:get ((f,none)::(x,none)::ar) z=get ((x,none)::(f,none)::ar) z:=by
 simp only [Tm.get];split<;>split<;>rfl
theorem Sb.two(s:Sb ar ar' S Z)(f g x y:Str):Sb ((f,none)::(x,none)::ar) ((g,none)::(y,none)::ar') ((x,y)::(f,g)::S) ((x,y)::(f,g)::Z):=fun a b h=>by
 rw [Zmc (ar:=ar),Zmc (ar:=ar')];exact (s.cons f g).cons x y a b h
theorem ZmM(h:Al S t u):∀ {ar ar':Ar}{Z:Cx2},Sb ar ar' S Z->Al Z (sub ar t) (sub ar' u):=by
 induction h with
 | num n=>exact fun s=>.num n
 | name h =>
   intro ar ar' Z s;rcases s _ _ h with ⟨V,W,e1,e2,a⟩|⟨e1,e2,q⟩
   . rw [sub,sub,e1,e2];exact a.app (Z:=_)
   . rw [sub,sub,e1,e2];exact .name q
 | fn _ ih=>exact fun s=>.fn (ih (s.cons _ _))
 | rcc _ ih=>exact fun s=>.rcc (ih (s.two _ _ _ _))
 | call _ _ i1 i2=>exact fun s=>.call (i1 s) (i2 s)
 | iff _ _ _ i1 i2 i3=>exact fun s=>.iff (i1 s) (i2 s) (i3 s)
 | op w _ _ i1 i2=>exact fun s=>.op w (i1 s) (i2 s)
noncomputable def Ao:Option T->Option T->Prop
 | none,none=>True
 | some a,some b=>Al [] a b
 | _,_=>False
theorem ZiH(h:Al [] t u)(c:Cl [] t)(d:Cl [] u):Ao (bec t) (bec u):=by
 cases h with
 | num n=>exact trivial
 | name h=>exact h.elim
 | fn _=>exact trivial
 | rcc _=>exact trivial
 | call h h' =>
   cases h with
   | num n=>exact trivial
   | name h=>exact h.elim
   | fn h =>
       refine ZmM h fun a b q=>?_;rcases q with ⟨rfl,rfl⟩|⟨_,_,q⟩
       . exact .inl ⟨_,_,Zcc,Zcc,h'⟩
       . exact q.elim
   | @rcc x y f g _ e e' h0 =>
     have n1:f≠x:=c.1.2.1;have n2:g≠y:=d.1.2.1;show Al [] (sub (Fil.ar (Z1 f (.rcc f x e) x _)) e) (sub (Fil.ar (Z1 g (.rcc g y e') y _)) e');rw [Z1,Z1,if_neg n1,if_neg n2];refine ZmM h0 fun a b q=>?_;rcases q with ⟨rfl,rfl⟩|⟨q1,q2,q⟩
     . exact .inl ⟨_,_,(Zgh (Ne.symm n1)).trans Zcc,(Zgh (Ne.symm n2)).trans Zcc,h'⟩
     . rcases q with ⟨rfl,rfl⟩|⟨_,_,q⟩
       . exact .inl ⟨_,_,Zcc,Zcc,.rcc h0⟩
       . exact q.elim
   | call _ _=>exact trivial
   | iff _ _ _=>exact trivial
   | op _ _ _=>exact trivial
 | iff h h1 h2 =>
   cases h with
   | num n =>
     show Al [] (if n=0 then _ else _) (if n=0 then _ else _);split
     . exact h2
     . exact h1
   | name h=>exact h.elim
   | _=>exact trivial
 | op w h h' =>
   cases h with
   | name h=>exact h.elim
   | num n =>
     cases h' with
     | name h=>exact h.elim
     | num m=>exact .num _
     | _=>exact trivial
   | _=>cases h'<;>exact trivial
structure Nx(t u:T):Prop where
 b:Ao (bec (bot t)) (bec (bot u))
 p:∀ a b,Al [] a b->Al [] (ZQ (pth t) a) (ZQ (pth u) b)
theorem Ztx(h:Al S t u):S=[]->Cl [] t->Cl [] u->Nx t u:=by
 induction h with
 | num n=>exact fun _ _ _=>⟨trivial,fun a b q=>q⟩
 | name h=>exact fun e _ _=>by subst e;exact h.elim
 | fn _ _=>exact fun _ _ _=>⟨trivial,fun a b q=>q⟩
 | rcc _ _=>exact fun _ _ _=>⟨trivial,fun a b q=>q⟩
 | @call _ f f' a a' h h' i1 i2 =>
   intro e c d;subst e;have v1:=h.isV;have v2:=h'.isV;have j1:=i1 rfl c.1 d.1;have j2:=i2 rfl c.2 d.2;have k:Al [] (.call f a) (.call f' a'):=.call h h';cases q:Tm.isV f with
   | false =>
     rw [q] at v1;exact ⟨by simpa [bot,q,<- v1] using j1.b,fun x y z=>by simpa [pth,q,<- v1,ZQ,ZbQ] using Al.call (j1.p x y z) h'⟩
   | true =>
     rw [q] at v1;cases q2:Tm.isV a with
     | false =>
       rw [q2] at v2;exact ⟨by simpa [bot,q,q2,<- v1,<- v2] using j2.b,fun x y z=>by simpa [pth,q,q2,<- v1,<- v2,ZQ,ZbQ] using Al.call h (j2.p x y z)⟩
     | true =>
       rw [q2] at v2;exact ⟨by simpa [bot,q,q2,<- v1,<- v2] using ZiH k c d,fun x y z=>by simpa [pth,q,q2,<- v1,<- v2,ZQ] using z⟩
 | @op _ a a' b b' w h h' i1 i2 =>
   intro e c d;subst e;have v1:=h.isV;have v2:=h'.isV;have j1:=i1 rfl c.1 d.1;have j2:=i2 rfl c.2 d.2;have k:Al [] (.op w a b) (.op w a' b'):=.op w h h';cases q:Tm.isV a with
   | false =>
     rw [q] at v1;exact ⟨by simpa [bot,q,<- v1] using j1.b,fun x y z=>by simpa [pth,q,<- v1,ZQ,ZbQ] using Al.op w (j1.p x y z) h'⟩
   | true =>
     rw [q] at v1;cases q2:Tm.isV b with
     | false =>
       rw [q2] at v2;exact ⟨by simpa [bot,q,q2,<- v1,<- v2] using j2.b,fun x y z=>by simpa [pth,q,q2,<- v1,<- v2,ZQ,ZbQ] using Al.op w h (j2.p x y z)⟩
     | true =>
       rw [q2] at v2;exact ⟨by simpa [bot,q,q2,<- v1,<- v2] using ZiH k c d,fun x y z=>by simpa [pth,q,q2,<- v1,<- v2,ZQ] using z⟩
 | @iff _ c0 c0' a a' b b' h h1 h2 i1 i2 i3 =>
   intro e c d;subst e;have v1:=h.isV;have j1:=i1 rfl c.1 d.1;have k:Al [] (.iff c0 a b) (.iff c0' a' b'):=.iff h h1 h2;cases q:Tm.isV c0 with
   | false =>
     rw [q] at v1;exact ⟨by simpa [bot,q,<- v1] using j1.b,fun x y z=>by simpa [pth,q,<- v1,ZQ,ZbQ] using Al.iff (j1.p x y z) h1 h2⟩
   | true =>
     rw [q] at v1;exact ⟨by simpa [bot,q,<- v1] using ZiH k c d,fun x y z=>by simpa [pth,q,<- v1,ZQ] using z⟩
theorem ZjU(h:Al [] t u)(c:Cl [] t)(d:Cl [] u):Ao (next t) (next u):=by
 have n:=Ztx h rfl c d;unfold next
 have b:=n.b;revert b;cases bec (bot t)<;>cases bec (bot u)<;>intro b
 . exact trivial
 . exact b.elim
 . exact b.elim
 . exact n.p _ _ b
inductive Als:List T->List T->Prop
 | nil:Als [] []
 | cons (h:Al [] t u) (c:Cl [] t) (d:Cl [] u) (z:Gn.dep t<=240) (z':Gn.dep u<=240) (r:Als ts us):Als (t::ts) (u::us)
theorem Als.len(h:Als ts us):ts.length=us.length:=by
 induction h with
 | nil=>rfl
 | cons _ _ _ _ _ _ ih=>rw [Os,Os,ih]
theorem ZmN:∀ (m:Nat) {t u:T},Al [] t u->Cl [] t->Cl [] u->t.size<=120->Gn.dep t<=240->Gn.dep u<=240->Als (row m t).1 (row m u).1/\(row m t).2=(row m u).2
 | 0,t,u,h,c,d,hz,z,z'=>by
   have n:=ZjU h c d;have v:=h.isV;refine ⟨.cons h c d z z' .nil,?_⟩;unfold row;rw [v];revert n;cases next t<;>cases next u<;>intro n
   . rfl
   . exact n.elim
   . exact n.elim
   . rfl
 | m+1,t,u,h,c,d,hz,z,z'=>by
   have n:=ZjU h c d;have v:=h.isV;unfold row;rw [v];cases q:Tm.isV u with
   | true=>exact ⟨.cons h c d z z' .nil,rfl⟩
   | false =>
     rw [q] at v;cases e:next t with
     | none =>
       cases e':next u with
       | none=>exact ⟨.cons h c d z z' .nil,rfl⟩
       | some b=>rw [e,e'] at n;exact n.elim
     | some a =>
       cases e':next u with
       | none=>rw [e,e'] at n;exact n.elim
       | some b =>
         rw [e,e'] at n;have n:Al [] a b:=n;obtain ⟨c1,_,p1⟩:=Zje v c hz e;obtain ⟨d1,_,p2⟩:=Zje q d (by rw [<- h.size];exact hz) e';have sz:=n.size;by_cases w:120<a.size
         . have w':120<b.size:=by rw [<- sz];exact w
           simp only [OG,if_false,if_pos w,if_pos w'];exact ⟨.cons h c d z z' .nil,trivial⟩
         . have w':¬ 120<b.size:=by rw [<- sz];exact w
           simp only [OG,if_false,if_neg w,if_neg w'];obtain ⟨r1,r2⟩:=ZmN m n c1 d1 (by lia) p1 p2;exact ⟨.cons h c d z z' r1,r2⟩
end Al
end
section
namespace K15L
open PySem L2 IV
noncomputable def Zcw:Sx:=(.set (.nm 2) (.cst (.str (O "abcdefghijklmnopqrstuvwxyz"))))
noncomputable def Zcv:Sx:=(.set (.nm 3) (.lstl (.cons (.bin .Add (.cst (.str (O "z"))) (.ix (.var 2) (.bin .Mod (.var 1) (.cst (.int 26))))) (.cons (.bin .Add (.ix (.var 2) (.bin .Sub (.cst (.int 25)) (.bin .Mod (.var 1) (.cst (.int 26))))) (.cst (.str (O "y")))) (.cons (.bin .Add (.bin .Mult (.cst (.str (O "x"))) (.bin .Add (.cst (.int 1)) (.bin .Mod (.var 1) (.cst (.int 7))))) (.ix (.var 2) (.bin .Mod (.bin .FloorDiv (.var 1) (.cst (.int 7))) (.cst (.int 26))))) .nil)))))
noncomputable def Zcu:Sx:=(.ret (.ix (.var 3) (.var 0)))
noncomputable def ZgA:Sxs:=(.cons Zcw (.cons Zcv (.cons Zcu .nil)))
noncomputable def Zdo:Fd:=⟨[(O "_law_way"),(O "_law_deep_here")],[(O "_law_way"),(O "_law_deep_here"),(O "_law_letters"),(O "_law_some")],ZgA⟩
noncomputable def Zeb:Tx:=(.ex (.cmp .Eq (.ix (.var 0) (.cst (.int 0))) (.cst (.str (O "name")))))
noncomputable def Zc4:Sx:=(.ret (.tupl (.cons (.cst (.str (O "name"))) (.cons (.ix (.var 1) (.ix (.var 0) (.cst (.int 1)))) .nil))))
noncomputable def Zd8:Sxs:=(.cons Zc4 .nil)
noncomputable def ZaE:Sx:=.iff Zeb Zd8 .nil
noncomputable def ZbW:Sx:=(.set (.nm 4) (.blt .dct (.cons (.var 1) .nil)))
noncomputable def ZaD:Sx:=(.set (.nm 5) (.lstl (.cons (.ix (.var 0) (.cst (.int 0))) .nil)))
noncomputable def Zea:Ix:=(.pl (.sl (.var 0) (some (.cst (.int 1))) none))
noncomputable def Zdv:Tx:=(.ex (.blt .isi (.cons (.var 6) (.cons (.cst (.ty "tuple")) .nil))))
noncomputable def Zco:Sx:=(.drp (.meth .app (.var 5) (.cons (.call (O "_law_renamed") (.cons (.var 6) (.cons (.var 4) (.cons (.var 2) (.cons (.var 3) .nil))))) .nil)))
noncomputable def Zcj:Tx:=(.ex (.cmp .Eq (.ix (.var 0) (.cst (.int 0))) (.cst (.str (O "num")))))
noncomputable def Zby:Sx:=(.drp (.meth .app (.var 5) (.cons (.var 6) .nil)))
noncomputable def Z9:Sx:=(.put (.var 4) (.var 6) (.call (O "_law_called") (.cons (.var 2) (.cons (.var 3) .nil))))
noncomputable def Z8:Sx:=(.set (.nm 3) (.bin .Add (.var 3) (.cst (.int 1))))
noncomputable def Z7:Sx:=(.drp (.meth .app (.var 5) (.cons (.ix (.var 4) (.var 6)) .nil)))
noncomputable def Zcb:Sxs:=(.cons Zby .nil)
noncomputable def Zci:Sxs:=(.cons Z9 (.cons Z8 (.cons Z7 .nil)))
noncomputable def Zcp:Sx:=.iff Zcj Zcb Zci
noncomputable def Zdh:Sxs:=(.cons Zco .nil)
noncomputable def Zdr:Sxs:=(.cons Zcp .nil)
noncomputable def ZV:Sx:=.iff Zdv Zdh Zdr
noncomputable def ZS:Sxs:=(.cons ZV .nil)
noncomputable def ZbV:Sx:=.forr (.nm 6) Zea ZS
noncomputable def ZbU:Sx:=(.ret (.blt .tup (.cons (.var 5) .nil)))
noncomputable def Zfo:Sxs:=(.cons ZaE (.cons ZbW (.cons ZaD (.cons ZbV (.cons ZbU .nil)))))
noncomputable def ZcS:Fd:=⟨[(O "_law_told"),(O "_law_names_here"),(O "_law_way"),(O "_law_deep_here")],[(O "_law_told"),(O "_law_names_here"),(O "_law_way"),(O "_law_deep_here"),(O "_law_more"),(O "_law_made"),(O "_law_part")],Zfo⟩
noncomputable def Zgx:Tx:=(.ex (.cmp .Eq (.ix (.var 0) (.cst (.int 0))) (.cst (.str (O "name")))))
noncomputable def Zed:Sx:=(.ret (.lix (.var 1) (.ix (.var 0) (.cst (.int 1)))))
noncomputable def Zgc:Sxs:=(.cons Zed .nil)
noncomputable def ZaP:Sx:=.iff Zgx Zgc .nil
noncomputable def Zgw:Tx:=(.ex (.cmp .Eq (.ix (.var 0) (.cst (.int 0))) (.cst (.str (O "num")))))
noncomputable def Zec:Sx:=(.ret (.var 0))
noncomputable def Zgb:Sxs:=(.cons Zec .nil)
noncomputable def ZbN:Sx:=.iff Zgw Zgb .nil
noncomputable def ZdA:Sx:=(.set (.nm 2) (.lstl (.cons (.ix (.var 0) (.cst (.int 0))) .nil)))
noncomputable def Zgf:Ix:=(.pl (.sl (.var 0) (some (.cst (.int 1))) none))
noncomputable def Zfd:Tx:=(.ex (.blt .isi (.cons (.var 3) (.cons (.cst (.ty "tuple")) .nil))))
noncomputable def Zdy:Sx:=(.drp (.meth .app (.var 2) (.cons (.call (O "_law_bare") (.cons (.var 3) (.cons (.var 1) .nil))) .nil)))
noncomputable def Zbb:Sx:=(.set (.nm 1) (.bin .Add (.lstl (.cons (.var 3) .nil)) (.var 1)))
noncomputable def ZeG:Sxs:=(.cons Zdy .nil)
noncomputable def Ze6:Sxs:=(.cons Zbb .nil)
noncomputable def ZaY:Sx:=.iff Zfd ZeG Ze6
noncomputable def ZaN:Sxs:=(.cons ZaY .nil)
noncomputable def Zdz:Sx:=.forr (.nm 3) Zgf ZaN
noncomputable def Zdx:Sx:=(.ret (.blt .tup (.cons (.var 2) .nil)))
noncomputable def Ziz:Sxs:=(.cons ZaP (.cons ZbN (.cons ZdA (.cons Zdz (.cons Zdx .nil)))))
noncomputable def ZeZ:Fd:=⟨[(O "_law_told"),(O "_law_bound")],[(O "_law_told"),(O "_law_bound"),(O "_law_made"),(O "_law_part")],Ziz⟩
noncomputable def ZjR:Sx:=(.set (.nm 1) (.call (O "_law_program") (.cons (.var 0) (.cons (.cst (.int 1)) .nil))))
noncomputable def ZjQ:Sx:=(.set (.nm 2) (.call (O "_law_mixed") (.cons (.call (O "_law_cell_at") (.cons (.var 0) (.cons (.cst (.int 0)) .nil))) (.cons (.cst (.int 1)) .nil))))
noncomputable def ZjP:Sx:=(.set (.nm 3) (.call (O "_law_renamed") (.cons (.var 1) (.cons (.dictl .nil) (.cons (.bin .Mod (.var 2) (.cst (.int 3))) (.cons (.cst (.int 0)) .nil))))))
noncomputable def ZjO:Sx:=(.set (.nm 4) (.call (O "row_of") (.cons (.var 1) (.cons (.bin .Mod (.bin .FloorDiv (.var 2) (.cst (.int 3))) (.cst (.int 41))) .nil))))
noncomputable def ZjN:Sx:=(.set (.nm 5) (.call (O "row_of") (.cons (.var 3) (.cons (.bin .Mod (.bin .FloorDiv (.var 2) (.cst (.int 3))) (.cst (.int 41))) .nil))))
noncomputable def ZoG:Tx:=(.ors (.cons (.ex (.cmp .NotEq (.ix (.var 4) (.cst (.int 1))) (.ix (.var 5) (.cst (.int 1))))) (.one (.ex (.cmp .NotEq (.blt .len (.cons (.ix (.var 4) (.cst (.int 0))) .nil)) (.blt .len (.cons (.ix (.var 5) (.cst (.int 0))) .nil)))))))
noncomputable def ZiA:Sx:=(.ret (.cst (.bl false)))
noncomputable def Zod:Sxs:=(.cons ZiA .nil)
noncomputable def ZjM:Sx:=.iff ZoG Zod .nil
noncomputable def ZjL:Sx:=(.ret (.blt .all (.cons (.comp [(O "_law_first"),(O "_law_second")] [none,none] (.zl (.ix (.var 4) (.cst (.int 0))) (.ix (.var 5) (.cst (.int 0)))) (.two 0 1) none (.cmp .Eq (.call (O "_law_bare") (.cons (.var 0) (.cons (.lstl .nil) .nil))) (.call (O "_law_bare") (.cons (.var 1) (.cons (.lstl .nil) .nil))))) .nil)))
noncomputable def Zts:Sxs:=(.cons ZjR (.cons ZjQ (.cons ZjP (.cons ZjO (.cons ZjN (.cons ZjM (.cons ZjL .nil)))))))
noncomputable def Zhe:Fd:=⟨[(O "_law_script")],[(O "_law_script"),(O "_law_told"),(O "_law_head"),(O "_law_other"),(O "_law_one"),(O "_law_two")],Zts⟩
structure Lw(P:Pg):Prop where
 t:Tm.Trw P
 m:Gn.Mkr P
 cell:P.tb.lookup (O "_law_cell_at")=some Gn.Zaw
 law_called:P.tb.lookup (O "_law_called")=some Zdo
 law_renamed:P.tb.lookup (O "_law_renamed")=some ZcS
 law_bare:P.tb.lookup (O "_law_bare")=some ZeZ
 law:P.tb.lookup (O "law")=some Zhe
end K15L
end
section
namespace Al
open PySem L2 IV Tm
open Gn (Cl nb dep Wl lt1)
noncomputable def cal (w k:Nat):Str:=if w=0 then O "z" ++ lt1 ((k % 26:Nat):Int) else if w=1 then lt1 ((25 - k % 26:Nat):Int)++O "y" else Zb5 (O "x") (1+k % 7)++lt1 ((k / 7 % 26:Nat):Int)
theorem ZjG:∀ w<3,∀ j<26,∀ k<26,cal w j=cal w k->j=k:=by decide +kernel
theorem Zin:∀ w<3,∀ j<26,PyData.strOk (cal w j)=true/\(cal w j).length<=20:=by decide +kernel
noncomputable def lkp:Cx2->Str->Option Str
 | [],_=>none
 | (a,b)::r,x=>if a=x then some b else lkp r x
noncomputable def ren(w:Nat):Cx2->Nat->T->T
 | _,_,.num n=>.num n
 | nm,_,.name x=>.name ((lkp nm x).getD x)
 | nm,k,.fn x e=>.fn (cal w k) (ren w ((x,cal w k)::nm) (k+1) e)
 | nm,k,.rcc f x e=>.rcc (cal w k) (cal w (k+1)) (ren w ((x,cal w (k+1))::(f,cal w k)::nm) (k+2) e)
 | nm,k,.call f a=>.call (ren w nm k f) (ren w nm k a)
 | nm,k,.iff c a b=>.iff (ren w nm k c) (ren w nm k a) (ren w nm k b)
 | nm,k,.op o a b=>.op o (ren w nm k a) (ren w nm k b)
structure Nm(w k:Nat)(nm:Cx2):Prop where
 at':∀ y∈nm.map (·.2),∃ j,j<k/\y=cal w j
 nd:(nm.map (·.2)).Nodup
theorem Nm.cons(hw:w<3)(h:Nm w k nm)(hk:k<26)(x:Str):Nm w (k+1) ((x,cal w k)::nm) where
 at':=fun y hy=>by
   rcases O2.mp hy with rfl|hy
   . exact ⟨k,OH k,rfl⟩
   . obtain ⟨j,h1,h2⟩:=h.at' y hy;exact ⟨j,Nat.lt_succ_of_lt h1,h2⟩
 nd:=List.nodup_cons.mpr ⟨fun hy=>by
   obtain ⟨j,h1,h2⟩:=h.at' _ hy;exact absurd (ZjG w hw k hk j (by lia) h2) (by lia),h.nd⟩
theorem Zpd:∀ {nm:Cx2}{x:Str},(nm.map (·.2)).Nodup->x∈nm.map (·.1)->∃ y,lkp nm x=some y/\lk nm x y/\y∈nm.map (·.2)
 | [],_,_,h=>by cases h
 | (a,b)::r,x,nd,h=>by
   by_cases e:a=x
   . exact ⟨b,by rw [lkp,if_pos e],.inl ⟨e.symm,rfl⟩,Oi⟩
   . obtain ⟨n1,n2⟩:=List.nodup_cons.mp nd;obtain ⟨y,h1,h2,h3⟩:=Zpd n2 ((O2.mp h).resolve_left (fun z=>e z.symm));exact ⟨y,by rw [lkp,if_neg e];exact h1,.inr ⟨fun z=>e z.symm,fun z=>n1 (z ▸ h3),h2⟩,Oh _ h3⟩
theorem Zbn(hw:w<3):∀ (t:T) {nm:Cx2}{k:Nat},Nm w k nm->k+nb t<=26->Cl (nm.map (·.1)) t->Al nm t (ren w nm k t)/\Cl (nm.map (·.2)) (ren w nm k t)
 | .num n,_,_,_,_,c=>⟨.num n,c⟩
 | .name x,nm,k,h,_,c=>by
   obtain ⟨y,e,l,m⟩:=Zpd h.nd c;rw [ren,e];exact ⟨.name l,m⟩
 | .fn x e,nm,k,h,hb,c=>by
   have hb:k+(nb e+1)<=26:=hb;obtain ⟨a,b⟩:=Zbn hw e (h.cons hw (by lia) x) (by lia) c.1;exact ⟨.fn a,b,Zin w hw k (by lia)⟩
 | .rcc f x e,nm,k,h,hb,c=>by
   have hb:k+(nb e+2)<=26:=hb;obtain ⟨a,b⟩:=Zbn hw e ((h.cons hw (by lia) f).cons hw (by lia) x) (by lia) c.1;exact ⟨.rcc a,b,fun z=>by have:=ZjG w hw k (by lia) (k+1) (by lia) z;lia,Zin w hw k (by lia),Zin w hw (k+1) (by lia)⟩
 | .call f a,nm,k,h,hb,c=>by
   have hb:k+max (nb f) (nb a)<=26:=hb;obtain ⟨a1,b1⟩:=Zbn hw f h (by lia) c.1;obtain ⟨a2,b2⟩:=Zbn hw a h (by lia) c.2;exact ⟨.call a1 a2,b1,b2⟩
 | .iff d a b,nm,k,h,hb,c=>by
   have hb:k+max (nb d) (max (nb a) (nb b))<=26:=hb;obtain ⟨a1,b1⟩:=Zbn hw d h (by lia) c.1;obtain ⟨a2,b2⟩:=Zbn hw a h (by lia) c.2.1;obtain ⟨a3,b3⟩:=Zbn hw b h (by lia) c.2.2;exact ⟨.iff a1 a2 a3,b1,b2,b3⟩
 | .op o f a,nm,k,h,hb,c=>by
   have hb:k+max (nb f) (nb a)<=26:=hb;obtain ⟨a1,b1⟩:=Zbn hw f h (by lia) c.1;obtain ⟨a2,b2⟩:=Zbn hw a h (by lia) c.2;exact ⟨.op o a1 a2,b1,b2⟩
theorem Al.dep(h:Al S t u):Gn.dep t=Gn.dep u:=by
 induction h with
 | num n=>rfl
 | name h=>rfl
 | fn _ ih=>simp only [Gn.dep,ih]
 | rcc _ ih=>simp only [Gn.dep,ih]
 | call _ _ i1 i2=>simp only [Gn.dep,i1,i2]
 | iff _ _ _ i1 i2 i3=>simp only [Gn.dep,i1,i2,i3]
 | op w _ _ i1 i2=>simp only [Gn.dep,i1,i2]
noncomputable def br:List Str->T->D
 | _,.num n=>(T.num n).d
 | S,.name x=>.int (((Tx.place x S).getD 0:Nat):Int)
 | S,.fn x e=>.tup [.str (O "fn"),br (x::S) e]
 | S,.rcc f x e=>.tup [.str (O "rec"),br (x::f::S) e]
 | S,.call f a=>.tup [.str (O "call"),br S f,br S a]
 | S,.iff c a b=>.tup [.str (O "if"),br S c,br S a,br S b]
 | S,.op w a b=>.tup [.str w.s,br S a,br S b]
theorem Zg2:∀ {S:Cx2},lk S x y->Tx.place x (S.map (·.1))=Tx.place y (S.map (·.2))
 | (a,b)::r,.inl ⟨h1,h2⟩=>by rw [Op,Op,Tx.place,Tx.place,if_pos h1.symm,if_pos h2.symm]
 | (a,b)::r,.inr ⟨h1,h2,h3⟩=>by rw [Op,Op,Tx.place,Tx.place,if_neg (fun z=>h1 z.symm),if_neg (fun z=>h2 z.symm),Zg2 h3]
theorem Zty(h:Al S t u):br (S.map (·.1)) t=br (S.map (·.2)) u:=by
 induction h with
 | num n=>rfl
 | name h=>simp only [br,Zg2 h]
 | fn _ ih=>simp only [br];rw [Op,Op] at ih;rw [ih]
 | rcc _ ih=>simp only [br];rw [Op,Op,Op,Op] at ih;rw [ih]
 | call _ _ i1 i2=>simp only [br,i1,i2]
 | iff _ _ _ i1 i2 i3=>simp only [br,i1,i2,i3]
 | op w _ _ i1 i2=>simp only [br,i1,i2]
theorem ZcY:∀ (t:T) (S:List Str),(br S t).pure=true/\(br S t).dp<=Gn.dep t+1
 | .num n,S=>⟨rfl,Oq _⟩
 | .name x,S=>⟨rfl,Nat.zero_le _⟩
 | .fn x e,S=>by have:=ZcY e (x::S);simp [br,D.pure,D.pures,D.dp,D.dps,Gn.dep,this.1];lia
 | .rcc f x e,S=>by have:=ZcY e (x::f::S);simp [br,D.pure,D.pures,D.dp,D.dps,Gn.dep,this.1];lia
 | .call f a,S=>by have p:=ZcY f S;have q:=ZcY a S;simp [br,D.pure,D.pures,D.dp,D.dps,Gn.dep,p.1,q.1];lia
 | .iff c a b,S=>by have o:=ZcY c S;have p:=ZcY a S;have q:=ZcY b S;simp [br,D.pure,D.pures,D.dp,D.dps,Gn.dep,o.1,p.1,q.1];lia
 | .op w f a,S=>by have p:=ZcY f S;have q:=ZcY a S;simp [br,D.pure,D.pures,D.dp,D.dps,Gn.dep,p.1,q.1];lia
end Al
end
section
namespace Al
open PySem L2 IV Tm K15L
open Gn (Cl nb dep Wl lt1)
variable {P:Pg}
theorem ZoY:Wl 1 (O "z")/\Wl 1 (O "y")/\Wl 1 (O "x"):=by unfold Wl;decide +kernel
theorem Zew (H:Lw P) (n w k:Nat) (hw:w<3) (h:Hd):∃ g,run P (n+1) (O "_law_called") [.int (w:Int),.int (k:Int)] h=.ok (.str (cal w k)) (h++g):=by
 rw [Zd H.law_called rfl];have q26:∀ m:Nat,opB .Mod (.int (m:Int)) (.int 26) h=.ok (.int ((m % 26:Nat):Int)) h:=fun m=>ZC (by decide);have m26:ev (P.tbl n) (.bin .Mod (.var 1) (.cst (.int 26))) [some (.int w),some (.int k),some (.str Gn.Zl),none] h=.ok (.int ((k % 26:Nat):Int)) h:=(Zf rfl rfl).trans (q26 k);obtain ⟨l1,w1⟩:=Gn.ZdK (GD:=P.GD) (h:=h) ((k % 26:Nat):Int) (by lia) (by lia);obtain ⟨l2,w2⟩:=Gn.ZdK (GD:=P.GD) (h:=h) ((25 - k % 26:Nat):Int) (by lia) (by lia);obtain ⟨l3,w3⟩:=Gn.ZdK (GD:=P.GD) (h:=h) ((k / 7 % 26:Nat):Int) (by lia) (by lia);have e1:ev (P.tbl n) (.bin .Add (.cst (.str (O "z"))) (.ix (.var 2) (.bin .Mod (.var 1) (.cst (.int 26))))) [some (.int w),some (.int k),some (.str Gn.Zl),none] h=.ok (.str (O "z" ++ lt1 ((k % 26:Nat):Int))) h :=
   (Zf rfl ((Zo rfl m26).trans l1)).trans (Gn.Za7 (h:=h) ZoY.1 w1 (by decide)).1
 have s25:opB .Sub (.int 25) (.int ((k % 26:Nat):Int)) h=.ok (.int ((25 - k % 26:Nat):Int)) h:=by
   show R.ok (D.int (25 - ((k % 26:Nat):Int))) h=_;rw [show (25 - ((k % 26:Nat):Int))=((25 - k % 26:Nat):Int) by lia]
 have e2:ev (P.tbl n) (.bin .Add (.ix (.var 2) (.bin .Sub (.cst (.int 25)) (.bin .Mod (.var 1) (.cst (.int 26))))) (.cst (.str (O "y")))) [some (.int w),some (.int k),some (.str Gn.Zl),none] h=.ok (.str (lt1 ((25 - k % 26:Nat):Int)++O "y")) h :=
   (Zf ((Zo rfl ((Zf rfl m26).trans s25)).trans l2) rfl).trans (Gn.Za7 (h:=h) w2 ZoY.2.1 (by decide)).1
 have rp:opB .Mult (.str (O "x")) (.int ((1+k % 7:Nat):Int)) h=.ok (.str (Zb5 (O "x") (1+k % 7))) h:=if_pos ⟨by lia,by lia,by decide +kernel⟩;have wr:Wl 7 (Zb5 (O "x") (1+k % 7)):=⟨ZhW (by decide +kernel) _,by rw [Zb4,show (O "x").length=1 by decide +kernel];lia⟩;have m7:ev (P.tbl n) (.bin .Add (.cst (.int 1)) (.bin .Mod (.var 1) (.cst (.int 7)))) [some (.int w),some (.int k),some (.str Gn.Zl),none] h=.ok (.int ((1+k % 7:Nat):Int)) h :=
   (Zf rfl ((Zf rfl rfl).trans (ZC (by decide)))).trans (by show R.ok (D.int (1+(k:Int) % 7)) h=_;rw [show 1+(k:Int) % 7=((1+k % 7:Nat):Int) by lia])
 have d7:ev (P.tbl n) (.bin .Mod (.bin .FloorDiv (.var 1) (.cst (.int 7))) (.cst (.int 26))) [some (.int w),some (.int k),some (.str Gn.Zl),none] h=.ok (.int ((k / 7 % 26:Nat):Int)) h :=
   (Zf ((Zf rfl rfl).trans (ZaM (by decide))) rfl).trans (q26 (k / 7))
 have e3:ev (P.tbl n) (.bin .Add (.bin .Mult (.cst (.str (O "x"))) (.bin .Add (.cst (.int 1)) (.bin .Mod (.var 1) (.cst (.int 7))))) (.ix (.var 2) (.bin .Mod (.bin .FloorDiv (.var 1) (.cst (.int 7))) (.cst (.int 26))))) [some (.int w),some (.int k),some (.str Gn.Zl),none] h=.ok (.str (Zb5 (O "x") (1+k % 7)++lt1 ((k / 7 % 26:Nat):Int))) h :=
   (Zf ((Zf rfl m7).trans rp) ((Zo rfl d7).trans l3)).trans (Gn.Za7 (h:=h) wr w3 (by decide)).1
 have x2:xs1 (P.tbl n) Zcv [some (.int w),some (.int k),some (.str Gn.Zl),none] h=.ok (.nx,_) _:=Zq (i:=3) (ZdQ (Zb e1 (Zb e2 (Zb e3 rfl))) (show 3<=1000 by decide));have x1:xs1 (P.tbl n) Zcw [some (.int w),some (.int k),none,none] h=.ok (.nx,[some (.int w),some (.int k),some (.str Gn.Zl),none]) h:=rfl;have x3:∀ l:List D,atI l (w:Int)=some (.str (cal w k))->xs1 (P.tbl n) Zcu [some (.int w),some (.int k),some (.str Gn.Zl),some (.ref h.length)] (h++[.lst l])=.ok (.rt (.str (cal w k)),[some (.int w),some (.int k),some (.str Gn.Zl),some (.ref h.length)]) (h++[.lst l]):=fun l e=>Zz ((Zo rfl rfl).trans ((ZR List.getElem?_concat_length).trans (by rw [e];rfl)));exact ⟨_,congrArg Zk ((Za x1).trans ((Za x2).trans (Zc (x3 _ (by rcases (by lia:w=0\/w=1\/w=2) with rfl|rfl|rfl<;>rfl)))))⟩
theorem ZiP(k k':Key)(v:D):∀ kvs:List (Key×D),ZM (kvs.map fun kv=>if kv.1=k then (kv.1,v) else kv) k'=if k'=k then (ZM kvs k).map (fun _=>v) else ZM kvs k'
 | []=>by simp [ZM]
 | p::r=>by
   have ih:=ZiP k k' v r;unfold ZM at ih ⊢;rw [Op,List.find?_cons,List.find?_cons,List.find?_cons];by_cases h1:p.1=k
   . by_cases h2:k'=k
     . subst h2;simp [h1]
     . have h3:p.1≠k':=fun z=>h2 (z.symm.trans h1);have h4:¬ k=k':=fun z=>h2 z.symm;simpa [h1,h2,h3,h4] using ih
   . by_cases h3:p.1=k'
     . have h2:k'≠k:=fun z=>h1 (h3.trans z);simp [h1,h2,h3]
     . simpa [h1,h3] using ih
theorem ZiN(kvs:List (Key×D))(k k':Key)(v:D):ZM (putD kvs k v) k'=if k'=k then some v else ZM kvs k':=by
 unfold putD;split
 . rename_i h;rw [ZiP];by_cases e:k'=k
   . rw [if_pos e,if_pos e];obtain ⟨p,h1,h2⟩:=List.any_eq_true.mp h;unfold ZM;cases q:kvs.find? (fun p=>decide (p.1=k)) with
     | none=>exact absurd h2 (List.find?_eq_none.mp q p h1)
     | some p=>rfl
   . rw [if_neg e,if_neg e]
 . rename_i h;have nk:kvs.find? (fun p=>decide (p.1=k))=none:=List.find?_eq_none.mpr fun p hp q=>h (List.any_eq_true.mpr ⟨p,hp,q⟩);unfold ZM;rw [List.find?_append];by_cases e:k'=k
   . subst e;rw [nk,if_pos rfl];simp
   . rw [if_neg e];cases q:kvs.find? (fun p=>decide (p.1=k')) with
     | none=>simp;exact fun z=>e z.symm
     | some p=>rfl
noncomputable def Kv(nm:Cx2)(kvs:List (Key×D)):Prop:=∀ x,ZM kvs (.inr x)=(lkp nm x).map D.str
theorem Kv.put(h:Kv nm kvs)(x y:Str):Kv ((x,y)::nm) (putD kvs (.inr x) (.str y)):=fun z=>by
 rw [ZiN,lkp];by_cases e:x=z
 . rw [if_pos (by rw [e]),if_pos e];rfl
 . rw [if_neg (fun q=>e (Sum.inr.inj q).symm),if_neg e];exact h z
end Al
end
section
namespace Al
open PySem L2 IV Tm K15L
open Gn (Cl nb dep Wl lt1)
variable {P:Pg}
noncomputable def hs(h:Hd)(kvs:List (Key×D))(ds:List D)(g:Hd):Hd:=h++.dic kvs::.lst ds::g
theorem ZeO:(hs h kvs ds g)[h.length]? = some (.dic kvs):=by simp [hs]
theorem ZqX:(hs h kvs ds g)[h.length+1]? = some (.lst ds):=by simp [hs]
theorem Zl9:hs h kvs ds g++g'=hs h kvs ds (g++g'):=by simp [hs]
theorem Zta:(hs h kvs ds g).set h.length (.dic kvs')=hs h kvs' ds g:=by simp [hs]
theorem Zs9:(hs h kvs ds g).set (h.length+1) (.lst ds')=hs h kvs ds' g:=by simp [hs]
theorem Zso{o i e:Ex}(p:ev U e S h=.ok x h1)(q:ev U o S h1=.ok y h2)(r:ev U i S h2=.ok z h3)(s:Zaf y z x h3=.ok () h4):xs1 U (.put o i e) S h=.ok (.nx,S) h4:=by rw [ZfN,p,Zm,q,Zm,r,Zm,s];rfl
theorem Zsp(e:h[i]? = some (.dic kvs))(hz:kvs.length<sizeLine):Zaf (.ref i) (.str x) v h=.ok () (h.set i (.dic (putD kvs (.inr x) v))):=by
 simp only [Zaf,e,keyOf];exact if_pos hz
theorem Zs1(e:h[i]? = some (.dic kvs))(v:ZM kvs (.inr x)=some d):Zag GD (.ref i) (.str x) h=.ok d h:=by
 simp only [Zag,dicOf,e,v];rfl
theorem ZeK:Zag GD (.tup (x::xs)) (.int 0) h=.ok x h:=by simp
theorem Zr8(p:ev U a S h=.ok (.tup (x::xs)) h1):ev U (.sl a (some (.cst (.int 1))) none) S h=.ok (.tup xs) h1:=by
 rw [Zpj,p];simp
noncomputable def vr(t:T)(dk w k m:Nat)(o:Option D):Ev:=[some t.d,some (.ref dk),some (.int w),some (.int k),some (.ref m),some (.ref (m+1)),o]
theorem ZkV{U:Tb}{h g':Hd}(hz:ds.length<=100)(p:ev U e S (hs h kvs ds g)=.ok d (hs h kvs ds g++g'))(q:ev U (.var 5) S (hs h kvs ds g)=.ok (.ref (h.length+1)) (hs h kvs ds g)):xs1 U (.drp (.meth .app (.var 5) (.cons e .nil))) S (hs h kvs ds g)=.ok (.nx,S) (hs h kvs (ds++[d]) (g++g')) :=
 Zds (Ze4 q ZqX (Zb p rfl) (by rw [Zl9,Zax ZqX (by rw [sizeLine_eq];lia),Zs9]))
theorem Zbz {U:Tb}{h g':Hd} (s:T) (hz:ds.length<=100) (e:U.C (O "_law_renamed") [s.d,.ref h.length,.int (w:Nat),.int (k:Nat)] (hs h kvs ds g)=.ok d (hs h kvs ds g++g')):xs2 U ZS (vr t dk w k h.length (some s.d)) (hs h kvs ds g)=.ok (.nx,vr t dk w k h.length (some s.d)) (hs h kvs (ds++[d]) (g++g')):=by
 have x:xs1 U ZV (vr t dk w k h.length (some s.d)) (hs h kvs ds g)=.ok (.nx,vr t dk w k h.length (some s.d)) (hs h kvs (ds++[d]) (g++g')) :=
   (Zu (h1:=hs h kvs ds g) (by cases s<;>rfl)).trans ((Za (ZkV hz (Zt e rfl) rfl)).trans rfl)
 exact (Za x).trans rfl
theorem ZrV {U:Tb}{h:Hd} (z:Int):xs2 U ZS (vr (.num z) dk w k h.length (some (.int z))) (hs h kvs [.str (O "num")] [])=.ok (.nx,vr (.num z) dk w k h.length (some (.int z))) (hs h kvs [.str (O "num"),.int z] []):=by
 have x:xs1 U ZV (vr (.num z) dk w k h.length (some (.int z))) (hs h kvs [.str (O "num")] [])=.ok (.nx,vr (.num z) dk w k h.length (some (.int z))) (hs h kvs ([.str (O "num")]++[.int z]) ([]++[])) :=
   (Zx (h1:=hs h kvs [.str (O "num")] []) rfl).trans ((Za ((Zu (h1:=hs h kvs [.str (O "num")] []) ((ZbH rfl rfl).trans (by rw [decide_eq_true rfl]))).trans ((Za (ZkV (g':=[]) (by decide) (by rw [List.append_nil];rfl) rfl)).trans rfl))).trans rfl)
 exact (Za x).trans rfl
theorem ZuM(k:Nat)(h:Hd):opB .Add (.int (k:Int)) (.int 1) h=.ok (.int ((k+1:Nat):Int)) h:=rfl
theorem ZhI (H:Lw P) (n:Nat) (hw:w<3) (ht:t.d=.tup (.str w0::ps)) (hn:decide (w0=O "num")=false) (x:Str) (hz:kvs.length<=100) (hd:ds.length<=100) {h g:Hd} :
   ∃ g',xs2 (P.tbl (n+1)) ZS (vr t dk w k h.length (some (.str x))) (hs h kvs ds g)=.ok (.nx,vr t dk w (k+1) h.length (some (.str x))) (hs h (putD kvs (.inr x) (.str (cal w k))) (ds++[.str (cal w k)]) (g++g')):=by
 obtain ⟨g1,e1⟩:=Zew H n w k hw (hs h kvs ds g);have x1:xs1 (P.tbl (n+1)) Z9 (vr t dk w k h.length (some (.str x))) (hs h kvs ds g)=.ok (.nx,vr t dk w k h.length (some (.str x))) (hs h (putD kvs (.inr x) (.str (cal w k))) ds (g++g1)) :=
   Zso (Zt e1 rfl) rfl rfl (by rw [Zl9,Zsp ZeO (by rw [sizeLine_eq];lia),Zta])
 have x2:xs1 (P.tbl (n+1)) Z8 (vr t dk w k h.length (some (.str x))) (hs h (putD kvs (.inr x) (.str (cal w k))) ds (g++g1))=.ok (.nx,vr t dk w (k+1) h.length (some (.str x))) (hs h (putD kvs (.inr x) (.str (cal w k))) ds (g++g1)):=Zq (i:=3) ((Zf rfl rfl).trans (ZuM k _));have x3:xs1 (P.tbl (n+1)) Z7 (vr t dk w (k+1) h.length (some (.str x))) (hs h (putD kvs (.inr x) (.str (cal w k))) ds (g++g1))=.ok (.nx,vr t dk w (k+1) h.length (some (.str x))) (hs h (putD kvs (.inr x) (.str (cal w k))) (ds++[.str (cal w k)]) (g++g1++[])) :=
   ZkV hd (by rw [List.append_nil];exact (Zo rfl rfl).trans (Zs1 ZeO (by rw [ZiN,if_pos rfl]))) rfl
 have y:xs1 (P.tbl (n+1)) ZV (vr t dk w k h.length (some (.str x))) (hs h kvs ds g)=.ok (.nx,vr t dk w (k+1) h.length (some (.str x))) (hs h (putD kvs (.inr x) (.str (cal w k))) (ds++[.str (cal w k)]) (g++g1++[])) :=
   (Zx (h1:=hs h kvs ds g) rfl).trans ((Za ((Zx (Zw (ZbH ((Zo rfl rfl).trans (by rw [ht];exact ZeK)) rfl) hn)).trans ((Za x1).trans ((Za x2).trans ((Za x3).trans rfl))))).trans rfl)
 rw [List.append_nil] at y;exact ⟨g1,(Za y).trans rfl⟩
theorem frame (H:Lw P) {m:Nat} (ht:t.d=.tup (.str w0::ps)) (hn:decide (w0=O "name")=false) (hk:h[dk]? = some (.dic kvs))
   (l:∃ g o k' kvs',ZP [] (.nm 6) (xs2 (P.tbl m) ZS) ps (vr t dk w k h.length none) (hs h kvs [.str w0] [])=.ok (.nx,vr t dk w k' h.length o) (hs h kvs' (.str w0::ds) g)):∃ g,run P (m+1) (O "_law_renamed") [t.d,.ref dk,.int (w:Nat),.int (k:Nat)] h=.ok (.tup (.str w0::ds)) (h++g):=by
 obtain ⟨g,o,k',kvs',e⟩:=l;rw [Zd H.law_renamed rfl];have h0:∀ ρ1 hh,ev (P.tbl m) (.ix (.var 0) (.cst (.int 0))) (some t.d::ρ1) hh=.ok (.str w0) hh:=fun ρ1 hh=>(Zo rfl rfl).trans (by rw [ht];exact ZeK);have x1:xs1 (P.tbl m) ZaE [some t.d,some (.ref dk),some (.int w),some (.int k),none,none,none] h=.ok (.nx,[some t.d,some (.ref dk),some (.int w),some (.int k),none,none,none]) h:=(Zx (Zw (ZbH (h0 _ _) rfl) hn)).trans rfl;have x2:xs1 (P.tbl m) ZbW [some t.d,some (.ref dk),some (.int w),some (.int k),none,none,none] h=.ok (.nx,[some t.d,some (.ref dk),some (.int w),some (.int k),some (.ref h.length),none,none]) (h++[.dic kvs]):=Zq (i:=4) (Zgp (Zb rfl rfl) (by
   show ZmF [.ref dk] h=_;simp only [ZmF,hk];rfl))
 have x3:xs1 (P.tbl m) ZaD [some t.d,some (.ref dk),some (.int w),some (.int k),some (.ref h.length),none,none] (h++[.dic kvs])=.ok (.nx,vr t dk w k h.length none) (hs h kvs [.str w0] []):=by
   have y:xs1 (P.tbl m) ZaD [some t.d,some (.ref dk),some (.int w),some (.int k),some (.ref h.length),none,none] (h++[.dic kvs])=.ok (.nx,_) _:=Zq (i:=5) (ZdQ (Zb (h0 _ _) rfl) (show 1<=1000 by decide));refine y.trans ?_;simp [vr,hs]
 have x4:xs1 (P.tbl m) ZbV (vr t dk w k h.length none) (hs h kvs [.str w0] [])=.ok (.nx,vr t dk w k' h.length o) (hs h kvs' (.str w0::ds) g):=(ZdM (w:=⟨[],ps⟩) (Zgm (Zr8 (x:=.str w0) (by rw [<- ht];rfl)))).trans e;have x5:xs1 (P.tbl m) ZbU (vr t dk w k' h.length o) (hs h kvs' (.str w0::ds) g)=.ok (.rt (.tup (.str w0::ds)),vr t dk w k' h.length o) (hs h kvs' (.str w0::ds) g):=Zz (Zgp (Zb rfl rfl) (Zo2 ZqX));exact ⟨_,congrArg Zk ((Za x1).trans ((Za x2).trans ((Za x3).trans ((Za x4).trans (Zc x5)))))⟩
end Al
end
section
namespace Al
open PySem L2 IV Tm K15L
open Gn (Cl nb dep Wl lt1)
variable {P:Pg}
theorem Zg1:∀ {nm:Cx2}{x:Str},x∈nm.map (·.1)->∃ y,lkp nm x=some y
 | (a,b)::r,x,h=>by
   rw [lkp];by_cases e:a=x
   . exact ⟨b,if_pos e⟩
   . obtain ⟨y,q⟩:=Zg1 ((O2.mp h).resolve_left (fun z=>e z.symm));exact ⟨y,(if_neg e).trans q⟩
theorem ZhF (o:Wd):decide (o.s=O "name")=false:=by cases o<;>decide +kernel
theorem Zoi:Zag GD (.tup [a,x]) (.int 1) h=.ok x h:=by simp
theorem ZcM(H:Lw P)(hw:w<3):∀ (t:T) {nm:Cx2}{kvs:List (Key×D)}{k m dk:Nat}{h:Hd},Kv nm kvs->kvs.length<=k->k+nb t<=26->Cl (nm.map (·.1)) t->h[dk]? = some (.dic kvs)->dep t+2<=m ->
   ∃ g,run P m (O "_law_renamed") [t.d,.ref dk,.int (w:Nat),.int (k:Nat)] h=.ok (ren w nm k t).d (h++g)
 | .num z,nm,kvs,k,m,dk,h,hv,hl,hb,c,hk,hm=>by
   obtain ⟨m,rfl⟩:∃ m',m=m'+1:=⟨m - 1,by lia⟩
   exact frame H (t:=.num z) (ds:=[.int z]) rfl (by decide +kernel) hk ⟨[],some (.int z),k,kvs,(Zv rfl (ZrV z)).trans rfl⟩
 | .name x,nm,kvs,k,m,dk,h,hv,hl,hb,c,hk,hm=>by
   obtain ⟨m,rfl⟩:∃ m',m=m'+1:=⟨m - 1,by lia⟩
   obtain ⟨y,e⟩:=Zg1 c;rw [ren,e,Zd H.law_renamed rfl];refine ⟨[],?_⟩;rw [List.append_nil];have x1:xs1 (P.tbl m) ZaE [some (T.name x).d,some (.ref dk),some (.int w),some (.int k),none,none,none] h=.ok (.rt (T.name y).d,_) h:=(Zu (Zw (ZbH ((Zo rfl rfl).trans ZeK) rfl) (decide_eq_true rfl))).trans (Zc (Zz (ZaO (xs:=[_,_]) (Zb rfl (Zb ((Zo rfl ((Zo rfl rfl).trans Zoi)).trans (Zs1 hk (by rw [hv x,e];rfl))) rfl)) (show 2<=1000 by decide))));exact congrArg Zk (Zc x1)
 | .fn x e,nm,kvs,k,m,dk,h,hv,hl,hb,c,hk,hm=>by
   have hb:k+(nb e+1)<=26:=hb;have hm:dep e+1+2<=m:=hm;obtain ⟨m,rfl⟩:∃ m',m=m'+2:=⟨m - 2,by lia⟩
   obtain ⟨g1,e1⟩:=ZhI H m hw (t:=.fn x e) (dk:=dk) (k:=k) (ds:=[.str (O "fn")]) rfl (by decide +kernel) x (by lia:kvs.length<=100) (by decide) (h:=h) (g:=[]);have lp:=Gn.Zdd (kn:=kvs) (k:=.inr x) (v:=.str (cal w k));obtain ⟨g2,e2⟩:=ZcM H hw e (m:=m+1) (hv.put x (cal w k)) (k:=k+1) (by lia) (by lia) c.1 (ZeO (h:=h) (ds:=[.str (O "fn")]++[.str (cal w k)]) (g:=[]++g1)) (by lia);exact frame H (t:=.fn x e) (ds:=[_,_]) rfl (by decide +kernel) hk ⟨_,_,_,_,(Zv rfl e1).trans ((Zv rfl (Zbz e (by simp) e2)).trans rfl)⟩
 | .rcc f x e,nm,kvs,k,m,dk,h,hv,hl,hb,c,hk,hm=>by
   have hb:k+(nb e+2)<=26:=hb;have hm:dep e+1+2<=m:=hm;obtain ⟨m,rfl⟩:∃ m',m=m'+2:=⟨m - 2,by lia⟩
   have lp:=Gn.Zdd (kn:=kvs) (k:=.inr f) (v:=.str (cal w k));obtain ⟨g1,e1⟩:=ZhI H m hw (t:=.rcc f x e) (dk:=dk) (k:=k) (ds:=[.str (O "rec")]) rfl (by decide +kernel) f (by lia:kvs.length<=100) (by decide) (h:=h) (g:=[]);obtain ⟨g3,e3⟩:=ZhI H m hw (t:=.rcc f x e) (dk:=dk) (k:=k+1) (ds:=[.str (O "rec")]++[.str (cal w k)]) rfl (by decide +kernel) x (by lia:(putD kvs (.inr f) (.str (cal w k))).length<=100) (by simp) (h:=h) (g:=[]++g1);have lp2:=Gn.Zdd (kn:=putD kvs (.inr f) (.str (cal w k))) (k:=.inr x) (v:=.str (cal w (k+1)));obtain ⟨g2,e2⟩:=ZcM H hw e (m:=m+1) ((hv.put f (cal w k)).put x (cal w (k+1))) (k:=k+1+1) (by lia) (by lia) c.1 (ZeO (h:=h) (ds:=[.str (O "rec")]++[.str (cal w k)]++[.str (cal w (k+1))]) (g:=[]++g1++g3)) (by lia);exact frame H (t:=.rcc f x e) (ds:=[_,_,_]) rfl (by decide +kernel) hk ⟨_,_,_,_,(Zv rfl e1).trans ((Zv rfl e3).trans ((Zv rfl (Zbz e (by simp) e2)).trans rfl))⟩
 | .call f a,nm,kvs,k,m,dk,h,hv,hl,hb,c,hk,hm=>by
   have hb:k+max (nb f) (nb a)<=26:=hb;have hm:max (dep f) (dep a)+1+2<=m:=hm;obtain ⟨m,rfl⟩:∃ m',m=m'+1:=⟨m - 1,by lia⟩
   obtain ⟨g1,e1⟩:=ZcM H hw f (m:=m) hv (k:=k) (by lia) (by lia) c.1 (ZeO (h:=h) (ds:=[.str (O "call")]) (g:=[])) (by lia);obtain ⟨g2,e2⟩:=ZcM H hw a (m:=m) hv (k:=k) (by lia) (by lia) c.2 (ZeO (h:=h) (ds:=[.str (O "call")]++[(ren w nm k f).d]) (g:=[]++g1)) (by lia);exact frame H (t:=.call f a) (ds:=[_,_]) rfl (by decide +kernel) hk ⟨_,_,_,_,(Zv rfl (Zbz f (by simp) e1)).trans ((Zv rfl (Zbz a (by simp) e2)).trans rfl)⟩
 | .op o f a,nm,kvs,k,m,dk,h,hv,hl,hb,c,hk,hm=>by
   have hb:k+max (nb f) (nb a)<=26:=hb;have hm:max (dep f) (dep a)+1+2<=m:=hm;obtain ⟨m,rfl⟩:∃ m',m=m'+1:=⟨m - 1,by lia⟩
   obtain ⟨g1,e1⟩:=ZcM H hw f (m:=m) hv (k:=k) (by lia) (by lia) c.1 (ZeO (h:=h) (ds:=[.str o.s]) (g:=[])) (by lia);obtain ⟨g2,e2⟩:=ZcM H hw a (m:=m) hv (k:=k) (by lia) (by lia) c.2 (ZeO (h:=h) (ds:=[.str o.s]++[(ren w nm k f).d]) (g:=[]++g1)) (by lia);exact frame H (t:=.op o f a) (ds:=[_,_]) rfl (ZhF o) hk ⟨_,_,_,_,(Zv rfl (Zbz f (by simp) e1)).trans ((Zv rfl (Zbz a (by simp) e2)).trans rfl)⟩
 | .iff d f a,nm,kvs,k,m,dk,h,hv,hl,hb,c,hk,hm=>by
   have hb:k+max (nb d) (max (nb f) (nb a))<=26:=hb;have hm:max (dep d) (max (dep f) (dep a))+1+2<=m:=hm;obtain ⟨m,rfl⟩:∃ m',m=m'+1:=⟨m - 1,by lia⟩
   obtain ⟨g0,e0⟩:=ZcM H hw d (m:=m) hv (k:=k) (by lia) (by lia) c.1 (ZeO (h:=h) (ds:=[.str (O "if")]) (g:=[])) (by lia);obtain ⟨g1,e1⟩:=ZcM H hw f (m:=m) hv (k:=k) (by lia) (by lia) c.2.1 (ZeO (h:=h) (ds:=[.str (O "if")]++[(ren w nm k d).d]) (g:=[]++g0)) (by lia);obtain ⟨g2,e2⟩:=ZcM H hw a (m:=m) hv (k:=k) (by lia) (by lia) c.2.2 (ZeO (h:=h) (ds:=[.str (O "if")]++[(ren w nm k d).d]++[(ren w nm k f).d]) (g:=[]++g0++g1)) (by lia);exact frame H (t:=.iff d f a) (ds:=[_,_,_]) rfl (by decide +kernel) hk ⟨_,_,_,_,(Zv rfl (Zbz d (by simp) e0)).trans ((Zv rfl (Zbz f (by simp) e1)).trans ((Zv rfl (Zbz a (by simp) e2)).trans rfl))⟩
end Al
end
section
namespace Al
open PySem L2 IV Tm K15L
open Gn (Cl nb dep Wl lt1)
variable {P:Pg}
noncomputable def hb(h:Hd)(ds:List D)(g:Hd):Hd:=h++.lst ds::g
theorem ZqY:(hb h ds g)[h.length]? = some (.lst ds):=by simp [hb]
theorem Zmb:hb h ds g++g'=hb h ds (g++g'):=by simp [hb]
theorem Ztb:(hb h ds g).set h.length (.lst ds')=hb h ds' g:=by simp [hb]
theorem ZiX:∀ ss:List Str,strsOf (ss.map D.str)=some ss
 | []=>rfl
 | s::r=>by rw [Op,strsOf,ZiX r];rfl
theorem Ztg{o e:Ex}{i j:Nat}{ss:List Str}{y:Str}(p:ev U o S h=.ok (.ref i) h1)(l:h1[i]? = some (.lst (ss.map .str)))(q:ev U e S h1=.ok (.str y) h1)(pl:Tx.place y ss=some j):ev U (.lix o e) S h=.ok (.int (j:Int)) h1:=by
 rw [Zq8,p,Zm,ZcG l,if_pos rfl,q,Zm];simp only [ZmE,lstOf,l,ZiX,pl];rfl
theorem Ztq{i j:Nat}{xs ys:List D}(hi:h[i]? = some (.lst xs))(hj:h[j]? = some (.lst ys))(hz:xs.length+ys.length<=2000):opB .Add (.ref i) (.ref j) h=.ok (.ref h.length) (h++[.lst (xs++ys)]):=by
 simp only [opB,ZmO,hi,hj];rw [if_pos (by rw [sizeLine_eq];lia)];simp
noncomputable def vb(t:T)(bk m:Nat)(o:Option D):Ev:=[some t.d,some (.ref bk),some (.ref m),o]
theorem ZbL {U:Tb}{h g':Hd} (s:T) (hz:ds.length<=100) (e:U.C (O "_law_bare") [s.d,.ref bk] (hb h ds g)=.ok d (hb h ds g++g')):xs2 U ZaN (vb t bk h.length (some s.d)) (hb h ds g)=.ok (.nx,vb t bk h.length (some s.d)) (hb h (ds++[d]) (g++g')):=by
 have x:xs1 U ZaY (vb t bk h.length (some s.d)) (hb h ds g)=.ok (.nx,vb t bk h.length (some s.d)) (hb h (ds++[d]) (g++g')) :=
   (Zu (h1:=hb h ds g) (by cases s<;>rfl)).trans ((Za (Zds (Ze4 rfl ZqY (Zb (Zt e rfl) rfl) (by rw [Zmb,Zax ZqY (by rw [sizeLine_eq];lia),Ztb])))).trans rfl)
 exact (Za x).trans rfl
theorem Zix{U:Tb}{h g:Hd}(x:Str)(hz:S.length<=1000)(e:(hb h ds g)[bk]? = some (.lst (S.map .str))):xs2 U ZaN (vb t bk h.length (some (.str x))) (hb h ds g)=.ok (.nx,vb t ((hb h ds g).length+1) h.length (some (.str x))) (hb h ds (g++[.lst [.str x],.lst ((x::S).map .str)])):=by
 have e1:(hb h ds g++[DO.lst [.str x]])[bk]? = some (.lst (S.map .str)):=keep e;have e2:(hb h ds g++[DO.lst [.str x]])[(hb h ds g).length]? = some (.lst [.str x]):=List.getElem?_concat_length;have c:=Ztq e2 e1 (by simp;lia);have y:xs1 U Zbb (vb t bk h.length (some (.str x))) (hb h ds g)=.ok (.nx,_) _:=Zq (i:=1) ((Zf (ZdQ (xs:=[_]) (Zb rfl rfl) (show 1<=1000 by decide)) rfl).trans c);have z:xs1 U ZaY (vb t bk h.length (some (.str x))) (hb h ds g)=.ok (.nx,vb t ((hb h ds g).length+1) h.length (some (.str x))) (hb h ds (g++[.lst [.str x],.lst ((x::S).map .str)])):=by
   refine (Zx (h1:=hb h ds g) rfl).trans ((Za y).trans ?_);simp [vb,hb]
   lia
 exact (Za z).trans rfl
theorem Ziw{h g:Hd}(x:Str):(hb h ds (g++[.lst [.str x],.lst ((x::S).map .str)]))[(hb h ds g).length+1]? = some (.lst ((x::S).map .str)):=by
 rw [<- Zmb];simp
theorem ZeR (H:Lw P) {m:Nat} (ht:t.d=.tup (.str w0::ps)) (hn:decide (w0=O "name")=false) (hn':decide (w0=O "num")=false)
   (l:∃ g o bk',ZP [] (.nm 3) (xs2 (P.tbl m) ZaN) ps (vb t bk h.length none) (hb h [.str w0] [])=.ok (.nx,vb t bk' h.length o) (hb h (.str w0::ds) g)):∃ g,run P (m+1) (O "_law_bare") [t.d,.ref bk] h=.ok (.tup (.str w0::ds)) (h++g):=by
 obtain ⟨g,o,bk',e⟩:=l;rw [Zd H.law_bare rfl];have h0:∀ ρ1 hh,ev (P.tbl m) (.ix (.var 0) (.cst (.int 0))) (some t.d::ρ1) hh=.ok (.str w0) hh:=fun ρ1 hh=>(Zo rfl rfl).trans (by rw [ht];exact ZeK);have x1:xs1 (P.tbl m) ZaP [some t.d,some (.ref bk),none,none] h=.ok (.nx,[some t.d,some (.ref bk),none,none]) h:=(Zx (Zw (ZbH (h0 _ _) rfl) hn)).trans rfl;have x2:xs1 (P.tbl m) ZbN [some t.d,some (.ref bk),none,none] h=.ok (.nx,[some t.d,some (.ref bk),none,none]) h:=(Zx (Zw (ZbH (h0 _ _) rfl) hn')).trans rfl;have x3:xs1 (P.tbl m) ZdA [some t.d,some (.ref bk),none,none] h=.ok (.nx,vb t bk h.length none) (hb h [.str w0] []):=Zq (i:=2) (ZdQ (xs:=[_]) (Zb (h0 _ _) rfl) (show 1<=1000 by decide));have x4:xs1 (P.tbl m) Zdz (vb t bk h.length none) (hb h [.str w0] [])=.ok (.nx,vb t bk' h.length o) (hb h (.str w0::ds) g):=(ZdM (w:=⟨[],ps⟩) (Zgm (Zr8 (x:=.str w0) (by rw [<- ht];rfl)))).trans e;have x5:xs1 (P.tbl m) Zdx (vb t bk' h.length o) (hb h (.str w0::ds) g)=.ok (.rt (.tup (.str w0::ds)),vb t bk' h.length o) (hb h (.str w0::ds) g):=Zz (Zgp (Zb rfl rfl) (Zo2 ZqY));exact ⟨_,congrArg Zk ((Za x1).trans ((Za x2).trans ((Za x3).trans ((Za x4).trans (Zc x5)))))⟩
theorem Zey:∀ {S:List Str}{x:Str},x∈S->∃ j,Tx.place x S=some j
 | y::r,x,h=>by
   rw [Tx.place];by_cases e:y=x
   . exact ⟨0,if_pos e⟩
   . obtain ⟨j,q⟩:=Zey ((O2.mp h).resolve_left (fun z=>e z.symm));exact ⟨j+1,by rw [if_neg e,q];rfl⟩
theorem ZrF (o:Wd):decide (o.s=O "num")=false:=by cases o<;>decide +kernel
theorem ZaS (H:Lw P):∀ (t:T) {S:List Str}{m bk:Nat}{h:Hd},Cl S t->h[bk]? = some (.lst (S.map .str))->S.length+2 * dep t<=1000->dep t+1<=m->∃ g,run P m (O "_law_bare") [t.d,.ref bk] h=.ok (br S t) (h++g)
 | .num z,S,m,bk,h,c,hk,hl,hm=>by
   obtain ⟨m,rfl⟩:∃ m',m=m'+1:=⟨m - 1,by lia⟩
   rw [Zd H.law_bare rfl];have x1:xs1 (P.tbl m) ZaP [some (T.num z).d,some (.ref bk),none,none] h=.ok (.nx,[some (T.num z).d,some (.ref bk),none,none]) h:=(Zx (Zw (ZbH ((Zo rfl rfl).trans ZeK) rfl) (by decide +kernel))).trans rfl;have x2:xs1 (P.tbl m) ZbN [some (T.num z).d,some (.ref bk),none,none] h=.ok (.rt (T.num z).d,[some (T.num z).d,some (.ref bk),none,none]) h:=(Zu (Zw (ZbH ((Zo rfl rfl).trans ZeK) rfl) (decide_eq_true rfl))).trans (Zc (Zz rfl));exact ⟨[],by rw [List.append_nil];exact congrArg Zk ((Za x1).trans (Zc x2))⟩
 | .name x,S,m,bk,h,c,hk,hl,hm=>by
   obtain ⟨m,rfl⟩:∃ m',m=m'+1:=⟨m - 1,by lia⟩
   obtain ⟨j,e⟩:=Zey c;rw [br,e,Zd H.law_bare rfl];have x1:xs1 (P.tbl m) ZaP [some (T.name x).d,some (.ref bk),none,none] h=.ok (.rt (.int (j:Int)),[some (T.name x).d,some (.ref bk),none,none]) h:=(Zu (Zw (ZbH ((Zo rfl rfl).trans ZeK) rfl) (decide_eq_true rfl))).trans (Zc (Zz (Ztg rfl hk ((Zo rfl rfl).trans Zoi) e)));exact ⟨[],by rw [List.append_nil];exact congrArg Zk (Zc x1)⟩
 | .fn x e,S,m,bk,h,c,hk,hl,hm=>by
   have hl:S.length+2 * (dep e+1)<=1000:=hl;have hm:dep e+1+1<=m:=hm;obtain ⟨m,rfl⟩:∃ m',m=m'+1:=⟨m - 1,by lia⟩
   obtain ⟨g2,e2⟩:=ZaS H e (m:=m) (h:=hb h [.str (O "fn")] ([]++[.lst [.str x],.lst ((x::S).map .str)])) c.1 (Ziw x) (by simp;lia) (by lia);exact ZeR H (t:=.fn x e) (ds:=[_]) rfl (by decide +kernel) (by decide +kernel) ⟨_,_,_,(Zv rfl (Zix x (by lia) (keep hk))).trans ((Zv rfl (ZbL e (by simp) e2)).trans rfl)⟩
 | .rcc f x e,S,m,bk,h,c,hk,hl,hm=>by
   have hl:S.length+2 * (dep e+1)<=1000:=hl;have hm:dep e+1+1<=m:=hm;obtain ⟨m,rfl⟩:∃ m',m=m'+1:=⟨m - 1,by lia⟩
   obtain ⟨g2,e2⟩:=ZaS H e (m:=m) (h:=hb h [.str (O "rec")] ([]++[.lst [.str f],.lst ((f::S).map .str)]++[.lst [.str x],.lst ((x::f::S).map .str)])) c.1 (Ziw x) (by simp;lia) (by lia);exact ZeR H (t:=.rcc f x e) (ds:=[_]) rfl (by decide +kernel) (by decide +kernel) ⟨_,_,_,(Zv rfl (Zix f (by lia) (keep hk))).trans ((Zv rfl (Zix x (by simp;lia) (Ziw f))).trans ((Zv rfl (ZbL e (by simp) e2)).trans rfl))⟩
 | .call f a,S,m,bk,h,c,hk,hl,hm=>by
   have hl:S.length+2 * (max (dep f) (dep a)+1)<=1000:=hl;have hm:max (dep f) (dep a)+1+1<=m:=hm;obtain ⟨m,rfl⟩:∃ m',m=m'+1:=⟨m - 1,by lia⟩
   have lt:=(Ob.mp hk).1;obtain ⟨g1,e1⟩:=ZaS H f (m:=m) (h:=hb h [.str (O "call")] []) c.1 (keep hk) (by lia) (by lia);obtain ⟨g2,e2⟩:=ZaS H a (m:=m) (h:=hb h ([.str (O "call")]++[br S f]) ([]++g1)) c.2 (keep hk) (by lia) (by lia);exact ZeR H (t:=.call f a) (ds:=[_,_]) rfl (by decide +kernel) (by decide +kernel) ⟨_,_,_,(Zv rfl (ZbL f (by simp) e1)).trans ((Zv rfl (ZbL a (by simp) e2)).trans rfl)⟩
 | .op o f a,S,m,bk,h,c,hk,hl,hm=>by
   have hl:S.length+2 * (max (dep f) (dep a)+1)<=1000:=hl;have hm:max (dep f) (dep a)+1+1<=m:=hm;obtain ⟨m,rfl⟩:∃ m',m=m'+1:=⟨m - 1,by lia⟩
   obtain ⟨g1,e1⟩:=ZaS H f (m:=m) (h:=hb h [.str o.s] []) c.1 (keep hk) (by lia) (by lia);obtain ⟨g2,e2⟩:=ZaS H a (m:=m) (h:=hb h ([.str o.s]++[br S f]) ([]++g1)) c.2 (keep hk) (by lia) (by lia);exact ZeR H (t:=.op o f a) (ds:=[_,_]) rfl (ZhF o) (ZrF o) ⟨_,_,_,(Zv rfl (ZbL f (by simp) e1)).trans ((Zv rfl (ZbL a (by simp) e2)).trans rfl)⟩
 | .iff d f a,S,m,bk,h,c,hk,hl,hm=>by
   have hl:S.length+2 * (max (dep d) (max (dep f) (dep a))+1)<=1000:=hl;have hm:max (dep d) (max (dep f) (dep a))+1+1<=m:=hm;obtain ⟨m,rfl⟩:∃ m',m=m'+1:=⟨m - 1,by lia⟩
   obtain ⟨g0,e0⟩:=ZaS H d (m:=m) (h:=hb h [.str (O "if")] []) c.1 (keep hk) (by lia) (by lia);obtain ⟨g1,e1⟩:=ZaS H f (m:=m) (h:=hb h ([.str (O "if")]++[br S d]) ([]++g0)) c.2.1 (keep hk) (by lia) (by lia);obtain ⟨g2,e2⟩:=ZaS H a (m:=m) (h:=hb h ([.str (O "if")]++[br S d]++[br S f]) ([]++g0++g1)) c.2.2 (keep hk) (by lia) (by lia);exact ZeR H (t:=.iff d f a) (ds:=[_,_,_]) rfl (by decide +kernel) (by decide +kernel) ⟨_,_,_,(Zv rfl (ZbL d (by simp) e0)).trans ((Zv rfl (ZbL f (by simp) e1)).trans ((Zv rfl (ZbL a (by simp) e2)).trans rfl))⟩
end Al
end
section
namespace Al
open PySem L2 IV Tm K15L
open Gn (Cl nb dep Wl lt1)
variable {P:Pg}
theorem ZpU (H:Lw P) (n:Nat) (zs:List Int) {h:Hd}:∃ v,run P (n+1) (O "_law_cell_at") [.ro (zs.map .int),.int 0] h=.ok (.int v) h:=by
 rw [Zd H.cell rfl];cases zs with
 | nil=>exact ⟨0,by simp [Gn.Zaw,Gn.Zbm,Zs,Zao,ZhA,seqOf,lstOf]⟩
 | cons z zs =>
   refine ⟨z,?_⟩;have:(0:Int)<(zs.length:Int)+1:=by lia
   simp [Gn.Zaw,Gn.Zbm,Zs,Zao,ZhA,seqOf,lstOf,this]
noncomputable def eb:Ex:=(.cmp .Eq (.call (O "_law_bare") (.cons (.var 0) (.cons (.lstl .nil) .nil))) (.call (O "_law_bare") (.cons (.var 1) (.cons (.lstl .nil) .nil))))
theorem Zrh(H:Lw P){n:Nat}(hn:241<=n)(a:Al [] t u)(c:Cl [] t)(d:Cl [] u)(z:dep t<=240)(z':dep u<=240)(h:Hd):∃ g,ev (P.tbl n) eb [some t.d,some u.d] h=.ok (.bl true) (h++g):=by
 obtain ⟨g1,e1⟩:=ZaS H t (m:=n) (S:=[]) (bk:=h.length) (h:=h++[.lst []]) c List.getElem?_concat_length (by simp;lia) (by lia);obtain ⟨g2,e2⟩:=ZaS H u (m:=n) (S:=[]) (bk:=(h++[DO.lst []]++g1).length) (h:=h++[.lst []]++g1++[.lst []]) d List.getElem?_concat_length (by simp;lia) (by lia);have q:br [] t=br [] u:=Zty a;rw [<- q] at e2;have o:=ZcY t [];have s:=ZdI (n:=false) (h:=h++[.lst []]++g1++[.lst []]++g2) o.1 (by lia);have x:ev (P.tbl n) eb [some t.d,some u.d] h=.ok (.bl true) (h++[.lst []]++g1++[.lst []]++g2) :=
   (ZH (Zt e1 (Zb rfl (Zb (ZdQ (xs:=[]) rfl (Nat.zero_le _)) rfl))) (Zt e2 (Zb rfl (Zb (ZdQ (xs:=[]) rfl (Nat.zero_le _)) rfl)))).trans (by rw [ZhV,s];rfl)
 exact ⟨[.lst []]++g1++[.lst []]++g2,by rw [x];simp⟩
theorem ZoF(H:Lw P){n:Nat}(hn:241<=n){i j:Nat}{xs ys:List D}(s:Als ts us):∀ (acc:List D) (h:Hd),acc.length+ts.length<=1000->h[i]? = some (.lst xs)->h[j]? = some (.lst ys) ->
   ∃ g,ZF [(i,xs),(j,ys)] (.two 0 1) (tsto (P.tbl n) none) (ev (P.tbl n) eb) (ZdE (ts.map T.d) (us.map T.d)) [none,none] acc h=.ok (acc++List.replicate ts.length (.bl true)) (h++g):=by
 induction s with
 | nil =>
   intro acc h hz hi hj;exact ⟨[],by simp [ZF,ZdE,Wk.stays,hi,hj]⟩
 | @cons t u ts us a c d z z' r ih =>
   intro acc h hz hi hj;obtain ⟨g1,e1⟩:=Zrh H hn a c d z z' h;rw [Os] at hz;obtain ⟨g2,e2⟩:=ih (acc++[.bl true]) (h++g1) (by simp;lia) (keep hi) (keep hj);refine ⟨g1++g2,?_⟩;rw [Op,Op,show ZdE (t.d::ts.map T.d) (u.d::us.map T.d)=.tup [t.d,u.d]::ZdE (ts.map T.d) (us.map T.d) from rfl,ZK,if_pos ⟨by simp [Wk.stays,hi,hj],by rw [sizeLine_eq];lia⟩];show R.bnd (R.plain (ev (P.tbl n) eb [some t.d,some u.d] h)) _=_;rw [e1];show ZF _ (.two 0 1) _ _ (ZdE (ts.map T.d) (us.map T.d)) [none,none] (acc++[.bl true]) (h++g1)=_;rw [e2];simp [List.replicate_succ]
theorem ZjJ:∀ n,ZfF (List.replicate n (.bl true))=some (List.replicate n true)
 | 0=>rfl
 | n+1=>by rw [List.replicate_succ,ZfF,ZjJ n];rfl
theorem ZoT(e:h[i]? = some (.lst (List.replicate n (.bl true)))):Zao GD .all [.ref i] h=.ok (.bl true) h:=by
 simp only [Zao,ZoR,lstOf,e,Option.bind_some,ZjJ,Option.map_some];show R.ok (D.bl ((List.replicate n true).all id)) h=_;rw [show (List.replicate n true).all id=true by simp]
theorem Zi2:∀ (m:Nat) (t:T),(row m t).1.length<=m+1
 | 0,t=>by simp [row]
 | m+1,t=>by
   rw [row];split
   . simp
   . split
     . simp
     . split
       . simp
       . rename_i u _ _;have:=Zi2 m u;simp only [Os];omega
noncomputable def vl(ro t:D)(v:Int)(u:D)(o4 o5:Option D):Ev:=[some ro,some t,some (.int v),some u,o4,o5]
theorem Zsf (H:Lw P) (zs:List Int) (hz:zs.length<=63):∃ h',run P (250+1) (O "law") [.ro (zs.map .int)] []=.ok (.bl true) h':=by
 obtain ⟨t,h1,e1,ct,st,dt,_,_,_,nt⟩:=Gn.Zkb H.m (N:=249) (by lia) zs 1 [] (by lia);obtain ⟨v,e2⟩:=ZpU H 249 (h:=h1) zs;have e3:=Gn.ZfY H.m 249 v 1 h1 (by decide);generalize Gn.mixed v 1=v2 at *;generalize D.ro (zs.map .int)=ro at *;obtain ⟨w,hW⟩:∃ w:Nat,v2 % 3=(w:Int):=⟨(v2 % 3).toNat,by lia⟩
 have hw:w<3:=by lia
 obtain ⟨M,hM⟩:∃ M:Nat,v2 / 3 % 41=(M:Int):=⟨(v2 / 3 % 41).toNat,by lia⟩
 have hM2:M<=41:=by lia
 obtain ⟨a,cu⟩:=Zbn hw t (nm:=[]) (k:=0) ⟨(fun y hy=>by cases hy),List.nodup_nil⟩ (by lia) ct;obtain ⟨g2,e4⟩:=ZcM H hw t (nm:=[]) (kvs:=[]) (k:=0) (m:=250) (dk:=h1.length) (h:=h1++[.dic []]) (fun x=>rfl) (Oq _) (by lia) ct List.getElem?_concat_length (by lia);generalize ren w [] 0 t=u at *;have su:=a.size;have du:=a.dep;obtain ⟨al,we⟩:=ZmN M a ct cu (by lia) (by lia) (by lia);obtain ⟨g3,e5⟩:=Zpa H.t 242 t M (by lia) ct (by lia) (h1++[.dic []]++g2);generalize hh3:h1++[.dic []]++g2=h3 at *;obtain ⟨g4,e6⟩:=Zpa H.t 242 u M (by lia) cu (by lia) (h3++.lst ((row M t).1.map T.d)::g3);rw [<- we] at e6;have ln:=al.len;have lr:=Zi2 M t;generalize (row M t).2=wd at *;generalize (row M t).1=ts at *;generalize (row M u).1=us at *;generalize hh4:h3++DO.lst (ts.map T.d)::g3=h4 at *;have i4:h4[h3.length]? = some (.lst (ts.map T.d)):=by rw [<- hh4];simp
 have i5:(h4++DO.lst (us.map T.d)::g4)[h3.length]? = some (.lst (ts.map T.d)):=keep i4;have j5:(h4++DO.lst (us.map T.d)::g4)[h4.length]? = some (.lst (us.map T.d)):=by simp
 generalize hh5:h4++DO.lst (us.map T.d)::g4=h5 at *;have x1:xs1 (P.tbl 250) ZjR [some ro,none,none,none,none,none] []=.ok (.nx,[some ro,some t.d,none,none,none,none]) h1:=ZA e1 rfl rfl;have x2:xs1 (P.tbl 250) ZjQ [some ro,some t.d,none,none,none,none] h1=.ok (.nx,[some ro,some t.d,some (.int v2),none,none,none]) h1:=Zq (i:=2) (Zt e3 (Zb (Zt e2 rfl) rfl));have x3:xs1 (P.tbl 250) ZjP [some ro,some t.d,some (.int v2),none,none,none] h1=.ok (.nx,vl ro t.d v2 u.d none none) h3:=Zq (i:=3) (Zt e4 (Zb rfl (Zb rfl (Zb ((Zf rfl rfl).trans ((ZC (by decide)).trans (by rw [hW];rfl))) rfl))));have md:∀ o4 o5 h,ev (P.tbl 250) (.bin .Mod (.bin .FloorDiv (.var 2) (.cst (.int 3))) (.cst (.int 41))) (vl ro t.d v2 u.d o4 o5) h=.ok (.int (M:Int)) h:=fun o4 o5 h=>(Zf ((Zf rfl rfl).trans (ZaM (by decide))) rfl).trans ((ZC (by decide)).trans (by rw [hM]));have x4:xs1 (P.tbl 250) ZjO (vl ro t.d v2 u.d none none) h3=.ok (.nx,vl ro t.d v2 u.d (some (.tup [.ref h3.length,.str wd])) none) h4:=Zq (i:=4) (Zt e5 (Zb rfl (Zb (md _ _ _) rfl)));have x5:xs1 (P.tbl 250) ZjN (vl ro t.d v2 u.d (some (.tup [.ref h3.length,.str wd])) none) h4=.ok (.nx,vl ro t.d v2 u.d (some (.tup [.ref h3.length,.str wd])) (some (.tup [.ref h4.length,.str wd]))) h5:=Zq (i:=5) (Zt e6 (Zb rfl (Zb (md _ _ _) rfl)));have t1:tst (P.tbl 250) (.ex (.cmp .NotEq (.ix (.var 4) (.cst (.int 1))) (.ix (.var 5) (.cst (.int 1))))) (vl ro t.d v2 u.d (some (.tup [.ref h3.length,.str wd])) (some (.tup [.ref h4.length,.str wd]))) h5=.ok false h5:=Zc1 ((ZH ((Zo rfl rfl).trans Zoi) ((Zo rfl rfl).trans Zoi)).trans (by rw [ZlH,ZdI (n:=true) rfl (Nat.zero_le _)];rfl));have t2:tst (P.tbl 250) (.ex (.cmp .NotEq (.blt .len (.cons (.ix (.var 4) (.cst (.int 0))) .nil)) (.blt .len (.cons (.ix (.var 5) (.cst (.int 0))) .nil)))) (vl ro t.d v2 u.d (some (.tup [.ref h3.length,.str wd])) (some (.tup [.ref h4.length,.str wd]))) h5=.ok false h5:=Zc1 ((ZH (Zgp (Zb ((Zo rfl rfl).trans ZeK) rfl) (Zjk i5)) (Zgp (Zb ((Zo rfl rfl).trans ZeK) rfl) (Zjk j5))).trans (by rw [ZlH,List.length_map,List.length_map,ln,ZdI (n:=true) rfl (Nat.zero_le _)];rfl));have x6:xs1 (P.tbl 250) ZjM (vl ro t.d v2 u.d (some (.tup [.ref h3.length,.str wd])) (some (.tup [.ref h4.length,.str wd]))) h5=.ok (.nx,vl ro t.d v2 u.d (some (.tup [.ref h3.length,.str wd])) (some (.tup [.ref h4.length,.str wd]))) h5:=(Zx (ZlC t1 t2)).trans rfl;obtain ⟨g6,e7⟩:=ZoF H (n:=250) (by decide) (i:=h3.length) (j:=h4.length) (xs:=ts.map T.d) (ys:=us.map T.d) al [] h5 (by simp;lia) i5 j5;have ei:evi (P.tbl 250) (.zl (.ix (.var 4) (.cst (.int 0))) (.ix (.var 5) (.cst (.int 0)))) (vl ro t.d v2 u.d (some (.tup [.ref h3.length,.str wd])) (some (.tup [.ref h4.length,.str wd]))) h5=.ok ⟨[(h3.length,ts.map T.d),(h4.length,us.map T.d)],ZdE (ts.map T.d) (us.map T.d)⟩ h5:=by
   show R.bnd (ev (P.tbl 250) (.ix (.var 4) (.cst (.int 0))) _ h5) _=_;rw [show ev (P.tbl 250) (.ix (.var 4) (.cst (.int 0))) (vl ro t.d v2 u.d (some (.tup [.ref h3.length,.str wd])) (some (.tup [.ref h4.length,.str wd]))) h5=.ok (.ref h3.length) h5 from (Zo rfl rfl).trans ZeK,Zm];show R.bnd (ev (P.tbl 250) (.ix (.var 5) (.cst (.int 0))) _ h5) _=_;rw [show ev (P.tbl 250) (.ix (.var 5) (.cst (.int 0))) (vl ro t.d v2 u.d (some (.tup [.ref h3.length,.str wd])) (some (.tup [.ref h4.length,.str wd]))) h5=.ok (.ref h4.length) h5 from (Zo rfl rfl).trans ZeK,Zm];simp only [zlD,i5,j5];exact if_pos (by simp [ln])
 have x7:xs1 (P.tbl 250) ZjL (vl ro t.d v2 u.d (some (.tup [.ref h3.length,.str wd])) (some (.tup [.ref h4.length,.str wd]))) h5=.ok (.rt (.bl true),vl ro t.d v2 u.d (some (.tup [.ref h3.length,.str wd])) (some (.tup [.ref h4.length,.str wd]))) (h5++g6++[.lst ([]++List.replicate ts.length (.bl true))]):=Zz (Zgp (Zb (Zmm ei e7) rfl) (ZoT List.getElem?_concat_length));rw [Zd H.law rfl];exact ⟨_,congrArg Zk ((Za x1).trans ((Za x2).trans ((Za x3).trans ((Za x4).trans ((Za x5).trans ((Za x6).trans (Zc x7)))))))⟩
end Al
end
section
set_option maxHeartbeats 4000000
namespace K15
open PySem L2 IV PyProof.Rows
noncomputable def Zro:Sxs:=(.cons .any .nil)
noncomputable def Zq4:Fd:=⟨[(O "k")],[(O "k")],Zro⟩
noncomputable def ZgC:Sxs:=(.cons (.drp (.call (O "_wall") (.cons (.cst (.int 0)) .nil))) .nil)
noncomputable def Zgl:Fd:=⟨[(O "self"),(O "front"),(O "parts")],[(O "self"),(O "front"),(O "parts")],ZgC⟩
noncomputable def ZiF:Sxs:=(.cons (.set (.nm 2) (.call (O "opened") (.cons (.var 1) .nil))) (.cons (.ret (.mcl (O "Pen") (O "filled") (.var 0) (.cons (.ix (.var 2) (.cst (.int 0))) (.cons (.ix (.var 2) (.cst (.int 1))) .nil)))) .nil))
noncomputable def Zig:Fd:=⟨[(O "self"),(O "thing")],[(O "self"),(O "thing"),(O "pair")],ZiF⟩
noncomputable def cG:List (Str×D):=[((O "WIDEST"),(.int 120)),((O "VALUES"),(.tup [(.str (O "num")),(.str (O "fn")),(.str (O "rec"))])),((O "BEYOND"),(.int 1000000)),((O "FORMS"),.kd (O "FORMS"))]
noncomputable def cD:List (Str×List (Key×D)):=[((O "FORMS"),[(.inr (O "fn"),(.tup [(.int 1),(.int 1)])),(.inr (O "rec"),(.tup [(.int 2),(.int 1)])),(.inr (O "call"),(.tup [(.int 0),(.int 2)])),(.inr (O "if"),(.tup [(.int 0),(.int 3)])),(.inr (O "+"),(.tup [(.int 0),(.int 2)])),(.inr (O "-"),(.tup [(.int 0),(.int 2)])),(.inr (O "*"),(.tup [(.int 0),(.int 2)])),(.inr (O "<"),(.tup [(.int 0),(.int 2)]))])]
noncomputable def dl:List (Str×Fd×Nat):=[((O "_wall"),Zq4,0),((O "bound_names"),Tm.ZcV,7),((O "parts_of"),Gn.ZeX,8),((O "front_of"),Tm.Ze0,9),((O "count_parts"),Tm.ZcU,10),((O "built"),Tm.Zgk,11),((O "places"),Gn.Zdm,12),((O "is_wide"),Tm.ZdO,13),((O "bound_to"),Tm.Ze2,15),((O "opened"),Tm.Zhd,16),((O "meant_by"),Tm.ZbE,17),((O "within"),Tm.ZeU,18),((O "is_value"),Tm.ZbG,23),((O "put_in"),Tm.Zhc,24),((O "parts_first"),Tm.ZU,25),((O "first_open"),Tm.Zdp,26),((O "way_down"),Tm.ZeV,27),((O "called"),Tm.Zhf,28),((O "chosen"),Tm.Ze1,29),((O "worked"),Tm.Zdl,30),((O "become"),Tm.Zhg,31),((O "put_back"),Tm.ZeW,32),((O "stepped"),Tm.ZfD,33),((O "row_of"),Tm.Zhb,34),((O "_law_cell_at"),Gn.Zaw,36),((O "_law_mixed"),Gn.Zcf,37),((O "_law_next"),Gn.ZeY,38),((O "_law_names"),Gn.Zce,39),((O "_law_there"),Gn.Zcd,40),((O "_law_plain"),Gn.Zd2,41),((O "_law_function"),Gn.Zcg,42),((O "_law_number"),Gn.Zdn,43),((O "_law_any"),Gn.ZcH,44),((O "_law_width"),Gn.Za5,45),((O "_law_deep"),Gn.ZbF,46),((O "_law_program"),Gn.ZcT,47),((O "_law_called"),K15L.Zdo,48),((O "_law_renamed"),K15L.ZcS,49),((O "_law_bare"),K15L.ZeZ,50),((O "law"),K15L.Zhe,51)]
noncomputable def tb:List (Str×Fd):=dl.map fun p=>(p.1,p.2.1)
noncomputable def mo1:List Ml:=[((O "take_place"),(O "Pen.take_place"),Tm.ZdP,19,1),((O "joined"),(O "Pen.joined"),Zgl,19,2),((O "filled"),(O "Pen.filled"),Tm.Zdq,19,3),((O "told"),(O "Pen.told"),Zig,19,4)]
noncomputable def ms:List (Str×Fd):=[(mnm (O "Pen") (O "__init__"),Tm.Zai)]++mo1.map (fun p=>(mnm (O "Pen") p.1,p.2.2.1))
noncomputable def pg:Pg:=⟨tb,fun x=>cG.lookup x,fun x=>cD.lookup x,1000000,ms⟩
noncomputable def kl:Kl:=⟨[(O "Pen")],[(O "most"),(O "used")],mo1.map (fun p=>((O "Pen"),p.1)),[(O "Pen")],[],[]⟩
noncomputable abbrev Zhe:Fd:=K15L.Zhe
noncomputable def top(i:Nat):Stmt:=PySem.Challenge.pw_samestride_k15_other_names.main.body.getD i (.Pass ⟨0,0,0,0⟩)
noncomputable def mt(i j:Nat):Stmt:=inClass (top i) j
noncomputable def fs:List Str:=tb.map (·.1)
local macro_rules|`(tactic| wtm_at "al")=>`(tactic| repeat' first|exact trivial|refine' And.intro ?_ ?_)
local macro_rules|`(tactic| wtm_at "chk")=>`(tactic| exact ⟨by constructor<;>decide +kernel,fun _ _ _ _ _ _ us hl=>by
   first
   | (have e:=ZrM (show us.length=0 from hl);subst e;rfl)
   | (obtain ⟨a0,e⟩:=ZrL (show us.length=1 from hl);subst e;rfl)
   | (obtain ⟨a0,a1,e⟩:=ZrK (show us.length=2 from hl);subst e;rfl)
   | (obtain ⟨a0,a1,a2,e⟩:=ZrJ (show us.length=3 from hl);subst e;rfl)
   | (obtain ⟨a0,a1,a2,a3,e⟩:=ZrI (show us.length=4 from hl);subst e;rfl)
   | (obtain ⟨a0,a1,a2,a3,a4,e⟩:=ZrH (show us.length=5 from hl);subst e;rfl)
   | (obtain ⟨a0,a1,a2,a3,a4,a5,e⟩:=ZtL (show us.length=6 from hl);subst e;rfl)
   | (obtain ⟨a0,a1,a2,a3,a4,a5,a6,e⟩:=us_7 (show us.length=7 from hl);subst e;rfl),by decide +kernel⟩)
theorem kd:All (fun p:Str×Fd×Nat=>Chk kl fs p.1 p.1 p.2.1 (top p.2.2)) dl:=by
 wtm_at "al"
 all_goals wtm_at "chk"
theorem km1:All (fun p:Ml=>Chk kl fs p.1 p.2.1 p.2.2.1 (mt p.2.2.2.1 p.2.2.2.2)) mo1:=by
 wtm_at "al"
 all_goals wtm_at "chk"
theorem kk1:All (fun p:Ml=>pg.look (mnm (O "Pen") p.1)=some p.2.2.1) mo1:=by
 wtm_at "al"
 all_goals kernel_rfl
theorem ki1:Chk kl fs (O "__init__") (O "Pen.__init__") Tm.Zai (mt 19 0):=by wtm_at "chk"
end K15
end
section
namespace K15
open PySem L2 IV
theorem ZqK:pg.tb.lookup (O "law")=some Zhe:=by kernel_rfl
theorem mkr:Gn.Mkr pg:=⟨by kernel_rfl,by kernel_rfl,by kernel_rfl,by kernel_rfl,by kernel_rfl,.same (by kernel_rfl),.same (by kernel_rfl),.same (by kernel_rfl),by kernel_rfl,by kernel_rfl,.same (by kernel_rfl)⟩
theorem tre:Gn.Tre pg:=by
 constructor
 all_goals (first|kernel_rfl|decide)
theorem trb:Tm.Trb pg:=by
 constructor
 case toTre=>exact tre
 case tk=>exact ⟨.any,by kernel_rfl⟩
 all_goals kernel_rfl
theorem trm:Tm.Trm pg:=by
 constructor;exact trb
 all_goals (first|kernel_rfl|decide)
theorem trw:Tm.Trw pg:=by
 constructor;exact trm
 all_goals (first|kernel_rfl|decide)
theorem lw:K15L.Lw pg:=by
 constructor;exact trw;exact mkr
 all_goals kernel_rfl
theorem runs:∀ ns:List Int,ns.length<=63->∃ h',run pg (250+1) (O "law") [.ro (ns.map .int)] []=.ok (.bl true) h':=fun ns hl=>Al.Zsf lw ns hl
end K15
end
section
set_option maxHeartbeats 4000000
namespace K15
open PySem L2 IV PyProof.Rows
theorem tp2 {K:PySem.W.Frag} (h:K.lookup a=some ⟨.type "tuple",od,.seq #[.int x t,.int y u] n,sl⟩):RD ⟨K,mg⟩ H B (.tup [.int x,.int y]) (.ref a):=.tup (Zo7 (vs:=[.int x,.int y]) h (by show 2<=sizeLine;decide) (.cons Zdc (.cons Zdc .nil))) (.cons (.int _) (.cons (.int _) .nil))
theorem md{Pr:Program}{w:World}{K:PySem.W.Frag}{h:Heap}{mg:Str->Option Value}(X:K.In h)(G:h.Ns mainGlobals mg)
   (tb0:Zen K=true)
   (dd:All (fun p:Str×Fd×Nat=>Zrv K p.1 (top p.2.2)) dl)
   (y1a:PySem.W.nsIn K mainGlobals (O "Pen")=some (some (.ref ca1))) (y1b:Cls K ca1)
   (n1:All (fun f=>PySem.W.findIn K (.ref ca1) f=some none) kl.ats)
   (y1m:PySem.W.makesIn K ca1=true) (y1k:PySem.W.keepIn K (.ref ca1)=true)
   (i1:ZmP K ca1 (O "__init__") (O "Pen.__init__") (mt 19 0))
   (u1:All (fun p:Ml=>ZmP K ca1 p.1 p.2.1 (mt p.2.2.2.1 p.2.2.2.2)) mo1)
   (zz:All (fun x:Str=>PySem.W.nsIn K mainGlobals x=some none) ZjI)
   (g102:PySem.W.nsIn K mainGlobals (O "WIDEST")=some (some (.int 120 t101)))
   (h107:K.lookup q103=some ⟨.type "tuple",r104,.seq #[.str (O "num") t108,.str (O "fn") t109,.str (O "rec") t110] n105,v106⟩)
   (g111:PySem.W.nsIn K mainGlobals (O "VALUES")=some (some (.ref q103)))
   (g113:PySem.W.nsIn K mainGlobals (O "BEYOND")=some (some (.int 1000000 t112)))
   (h125:K.lookup q121=some ⟨.type "tuple",r122,.seq #[.int 1 t126,.int 1 t127] n123,v124⟩)
   (h134:K.lookup q130=some ⟨.type "tuple",r131,.seq #[.int 2 t135,.int 1 t136] n132,v133⟩)
   (h143:K.lookup q139=some ⟨.type "tuple",r140,.seq #[.int 0 t144,.int 2 t145] n141,v142⟩)
   (h152:K.lookup q148=some ⟨.type "tuple",r149,.seq #[.int 0 t153,.int 3 t154] n150,v151⟩)
   (h161:K.lookup q157=some ⟨.type "tuple",r158,.seq #[.int 0 t162,.int 2 t163] n159,v160⟩)
   (h170:K.lookup q166=some ⟨.type "tuple",r167,.seq #[.int 0 t171,.int 2 t172] n168,v169⟩)
   (h179:K.lookup q175=some ⟨.type "tuple",r176,.seq #[.int 0 t180,.int 2 t181] n177,v178⟩)
   (h188:K.lookup q184=some ⟨.type "tuple",r185,.seq #[.int 0 t189,.int 2 t190] n186,v187⟩)
   (g116:PySem.W.nsIn K mainGlobals (O "FORMS")=some (some (.ref q114)))
   (h117:K.lookup q114=some ⟨.type "dict",none,.dict #[⟨j119,.str (O "fn") t120,.ref q121⟩,⟨j128,.str (O "rec") t129,.ref q130⟩,⟨j137,.str (O "call") t138,.ref q139⟩,⟨j146,.str (O "if") t147,.ref q148⟩,⟨j155,.str (O "+") t156,.ref q157⟩,⟨j164,.str (O "-") t165,.ref q166⟩,⟨j173,.str (O "*") t174,.ref q175⟩,⟨j182,.str (O "<") t183,.ref q184⟩] e115,#[]⟩)
   (x191:j119=hashStr w (O "fn"))
   (x192:j128=hashStr w (O "rec"))
   (x193:j137=hashStr w (O "call"))
   (x194:j146=hashStr w (O "if"))
   (x195:j155=hashStr w (O "+"))
   (x196:j164=hashStr w (O "-"))
   (x197:j173=hashStr w (O "*"))
   (x198:j182=hashStr w (O "<"))
   (w118:(q114==sysModules)=false):Md Pr w K mg pg kl:=by
 have D_FORMS:∃ a kvs',mg (O "FORMS")=some (.ref a)/\DkK Pr w K a kvs'/\∀ H B,RKs ⟨K,mg⟩ H B (cD.lookup (O "FORMS") |>.getD []) kvs':=by
   refine ⟨q114,[(Sum.inr (O "fn"),(.ref q121)),(Sum.inr (O "rec"),(.ref q130)),(Sum.inr (O "call"),(.ref q139)),(Sum.inr (O "if"),(.ref q148)),(Sum.inr (O "+"),(.ref q157)),(Sum.inr (O "-"),(.ref q166)),(Sum.inr (O "*"),(.ref q175)),(Sum.inr (O "<"),(.ref q184))],PySem.W.mg_of X G g116,⟨_,_,_,[(Sum.inr (O "fn"),.ref q121),(Sum.inr (O "rec"),.ref q130),(Sum.inr (O "call"),.ref q139),(Sum.inr (O "if"),.ref q148),(Sum.inr (O "+"),.ref q157),(Sum.inr (O "-"),.ref q166),(Sum.inr (O "*"),.ref q175),(Sum.inr (O "<"),.ref q184)],h117,⟨rfl,rfl,rfl⟩,rfl,?_,(.cons (Zr _ t120) rfl (.cons (Zr _ t129) rfl (.cons (Zr _ t138) rfl (.cons (Zr _ t147) rfl (.cons (Zr _ t156) rfl (.cons (Zr _ t165) rfl (.cons (Zr _ t174) rfl (.cons (Zr _ t183) rfl .nil)))))))),(by show ([Sum.inr (O "fn"),Sum.inr (O "rec"),Sum.inr (O "call"),Sum.inr (O "if"),Sum.inr (O "+"),Sum.inr (O "-"),Sum.inr (O "*"),Sum.inr (O "<")]:List Key).Nodup;decide +kernel),(.cons ⟨rfl,Zae⟩ (.cons ⟨rfl,Zae⟩ (.cons ⟨rfl,Zae⟩ (.cons ⟨rfl,Zae⟩ (.cons ⟨rfl,Zae⟩ (.cons ⟨rfl,Zae⟩ (.cons ⟨rfl,Zae⟩ (.cons ⟨rfl,Zae⟩ .nil)))))))),(by show 8<=sizeLine;decide),w118⟩,fun _ _=>(.cons (tp2 h125) (.cons (tp2 h134) (.cons (tp2 h143) (.cons (tp2 h152) (.cons (tp2 h161) (.cons (tp2 h170) (.cons (tp2 h179) (.cons (tp2 h188) .nil))))))))⟩;exact (by
       intro e he;simp only [List.mem_toArray,O2,List.not_mem_nil,or_false] at he;rcases he with rfl|rfl|rfl|rfl|rfl|rfl|rfl|rfl
       . exact ⟨Sum.inr (O "fn"),Zr (O "fn") t120,x191⟩
       . exact ⟨Sum.inr (O "rec"),Zr (O "rec") t129,x192⟩
       . exact ⟨Sum.inr (O "call"),Zr (O "call") t138,x193⟩
       . exact ⟨Sum.inr (O "if"),Zr (O "if") t147,x194⟩
       . exact ⟨Sum.inr (O "+"),Zr (O "+") t156,x195⟩
       . exact ⟨Sum.inr (O "-"),Zr (O "-") t165,x196⟩
       . exact ⟨Sum.inr (O "*"),Zr (O "*") t174,x197⟩
       . exact ⟨Sum.inr (O "<"),Zr (O "<") t183,x198⟩
     )
 refine ⟨tb0,fun x kvs hx=>?_,fun x d hx=>?_,?_,fun x fd hx=>?_,?_,?_,?_,?_,?_⟩
 . have hm:(x,kvs)∈cD:=lookup_mem hx;have e:(x,kvs)=((O "FORMS"),(cD.lookup (O "FORMS") |>.getD [])):=by
     simp only [cD,O2,List.not_mem_nil,or_false] at hm;exact hm
   cases e;exact D_FORMS
 . have hm:(x,d)∈cG:=lookup_mem hx;have all:All (fun p:Str×D=>∃ v u,mg p.1=some u/\RelV v u/\∀ H B,RD ⟨K,mg⟩ H B p.2 v) cG:=⟨⟨(.int 120),_,PySem.W.mg_of X G g102,Zdc,fun _ _=>(.int _)⟩,⟨(.ref q103),_,PySem.W.mg_of X G g111,Zae,fun _ _=>(.tup (Zo7 (vs:=[(.str (O "num")),(.str (O "fn")),(.str (O "rec"))]) h107 (by show 3<=sizeLine;decide) (.cons Zev (.cons Zev (.cons Zev .nil)))) (.cons (.str _ (by decide +kernel)) (.cons (.str _ (by decide +kernel)) (.cons (.str _ (by decide +kernel)) .nil))))⟩,⟨(.int 1000000),_,PySem.W.mg_of X G g113,Zdc,fun _ _=>(.int _)⟩,⟨.ref q114,_,PySem.W.mg_of X G g116,rfl,fun _ _=>.kd (PySem.W.mg_of X G g116)⟩,trivial⟩;exact all.mem _ hm
 . exact (ZgV X G zz).mem
 . exact (Zjz X G dd kd).mem _ (lookup_mem hx)
 . have all:All (fun C=>∃ a,mg C=some (.ref a)/\Cls K a/\∀ f∈kl.ats,Zat K a f) kl.cs:=⟨⟨ca1,PySem.W.mg_of X G y1a,y1b,n1.mem⟩,trivial⟩
   exact all.mem
 . exact (show All _ kl.ms from (Zjg X G y1a y1b u1 km1 kk1)).mem
 . have all:All (fun C:Str=>∃ a f fdd fd st q,mg C=some (.ref a)/\Mk K a f/\pg.look (mnm C (O "__init__"))=some fd/\BodyOk K kl (pg.tb.map (·.1)) (O "__init__") q fd st f fdd) kl.is:=⟨Zqy X G y1a y1m y1k i1 ki1 (by kernel_rfl),trivial⟩
   exact all.mem
 . have all:All (fun C:Str=>∃ a,mg C=some (.ref a)/\XOk K a) kl.xs:=trivial;exact all.mem
 . have all:All (fun p:Str×Str=>∃ a b,mg p.1=some (.ref a)/\mg p.2=some (.ref b)/\XAs K a b) kl.xa:=trivial;exact all.mem
end K15
end
section
set_option maxHeartbeats 4000000
open PySem PySem.W PyProof.Rows
local macro_rules|`(tactic| wtm_at "al")=>`(tactic| repeat' first|exact trivial|refine' And.intro ?_ ?_)
local macro_rules|`(tactic| wtm_at "dg")=>`(tactic| (refine' ⟨_,_,?na,L2.Zmf ?l ?c ?k⟩;(case na=>k_is);(case l=>k_is);(case c=>k_is);(case k=>k_is)))
local macro_rules|`(tactic| wtm_at "mg")=>`(tactic| (refine' ⟨_,_,?na,?f,?k,L2.Zmf ?l ?c ?kk⟩;(case na=>k_is);(case f=>k_is);(case l=>k_is);(case c=>k_is);(case k=>k_is);(case kk=>k_is)))
set_option maxRecDepth 100000 in
set_option maxHeartbeats 0 in
theorem PySem.Challenge.cw_samestride_k15_other_names_holds : PySem.Challenge.rw_samestride_k15_other_names.Holds := by
 refine K15hd ?_
 k_fill
 refine IV.ZrG (l:=PySem.Challenge.rw_samestride_k15_other_names) (P:=K15.pg) 250 rfl rfl rfl ⟨rfl,by decide,by decide,rfl⟩ (kl:=K15.kl) (fun w h Y=>PySem.W.kIn_of Y) K15.ZqK rfl K15.runs ?MM0
 case MM0 =>
   intro w mg h KX G;refine' K15.md KX G ?tb0 ?dd ?y1a ?y1b ?n1 ?y1m ?y1k ?i1 ?u1 ?zz ?g102 ?h107 ?g111 ?g113 ?h125 ?h134 ?h143 ?h152 ?h161 ?h170 ?h179 ?h188 ?g116 ?h117 ?x191 ?x192 ?x193 ?x194 ?x195 ?x196 ?x197 ?x198 ?w118
   (case tb0=>(first|k_is|kernel_rfl|decide +kernel))
   (case y1a=>k_is)
   (case y1b=>(refine ⟨?_,?_,?_,?_⟩<;>k_is))
   (case n1=>(wtm_at "al";all_goals (dsimp only;k_is)))
   (case y1m=>k_is)
   (case y1k=>k_is)
   (case i1=>wtm_at "mg")
   (case u1=>(wtm_at "al";all_goals wtm_at "mg"))
   (case dd=>(wtm_at "al";all_goals wtm_at "dg"))
   (case zz=>(wtm_at "al";all_goals (dsimp only;k_is)))
   (case g102=>k_is)
   (case g111=>k_is)
   (case h107=>k_is)
   (case g113=>k_is)
   (case g116=>k_is)
   (case h117=>k_is)
   (case h125=>k_is)
   (case h134=>k_is)
   (case h143=>k_is)
   (case h152=>k_is)
   (case h161=>k_is)
   (case h170=>k_is)
   (case h179=>k_is)
   (case h188=>k_is)
   (case x191=>(first|rfl|k_is|fail))
   (case x192=>(first|rfl|k_is|fail))
   (case x193=>(first|rfl|k_is|fail))
   (case x194=>(first|rfl|k_is|fail))
   (case x195=>(first|rfl|k_is|fail))
   (case x196=>(first|rfl|k_is|fail))
   (case x197=>(first|rfl|k_is|fail))
   (case x198=>(first|rfl|k_is|fail))
   (case w118=>rfl)
end
