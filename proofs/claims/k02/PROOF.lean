import PyProof.Rows.All
import Wide.All
import OpenK.AllK
import Wide.FinOn
import PyProof.EqAt
import PyProof.EqKinds
import PyProof.TupleCall
import Lean
import PySem.Challenge.RW_samestride_k02_places_and_free_names
set_option Elab.async false
set_option linter.all false
set_option maxRecDepth 100000
open PySem.Str renaming ofString->O
open Bool renaming and_eq_true->Oa
open List renaming getElem?_eq_some_iff->Ob
open List renaming getElem?_set_ne->Oc
open PySem.Heap renaming get?_push_of_some->Od
open List renaming getElem?_append_left->Oe
open List renaming size_toArray->Of
open List renaming getElem?_eq_getElem->Og
open List renaming mem_cons_of_mem->Oh
open List renaming mem_cons_self->Oi
open PySem.Heap renaming get?_push_size->Oj
open List renaming mem_of_getElem?->O1
open List renaming getElem?_set_self->Ol
open List renaming getElem?_append_right->Om
open List renaming getElem?_map->On
open Option renaming map_eq_some_iff->Oo
open List renaming map_cons->Op
open Nat renaming le_refl->Oq
open List renaming mem_cons->O2
open List renaming length_cons->Os
open Nat renaming lt_of_lt_of_le->Ot
open Nat renaming ne_of_lt->Ou
open List renaming mem_append_right->Ov
open Bool renaming false_ne_true->Ow
open List renaming mem_singleton->Ox
open List renaming map_nil->Oy
open List renaming append_assoc->Oz
open List renaming length_append->OA
open List renaming nil_append->OB
open List renaming all_eq_true->OC
open List renaming mem_append->OD
open Nat renaming le_trans->OE
open List renaming lookup_cons->OF
open Bool renaming false_eq_true->OG
open Nat renaming lt_succ_self->OH
open List renaming sum_cons->OI
open List renaming getElem?_cons_zero->OJ
open List renaming getElem?_cons_succ->O0
set_option genSizeOf false
section
open PySem PySem.W PyProof.Rows
set_option maxHeartbeats 0
namespace PySem.W.Fast
def tw7332841912375070820:=Nat
def tw2435325003537365429:=Nat
def tw8831266108862444617:=Nat
def tw3662195467125532968:=Nat
def tw10560394950573547537:=Nat
def tw10483650422428387920:=Nat
def tw11050677683570557605:=Nat
def tw14878411340338932230:=Nat
def tw2028695339636304692:=Nat
def tw4657178620334231490:=Nat
def tw11305824412590482324:=Nat
def tw4509679430648238840:=Nat
def tw6145277272587386262:=Nat
def tw2569291795763792518:=Nat
def tw3791930542597497211:=Nat
def tw16984378825410356435:=Nat
def tw8556372120503527509:=Nat
def tw14259568387596086218:=Nat
def tw4895500062115918764:=Nat
def tw2965901595809660891:=Nat
def tw18301422198205945633:=Nat
def tw3277786303897752596:=Nat
def tw17282076375834308401:=Nat
def tw2887414113041108288:=Nat
def tw11502123776409507194:=Nat
def tw5974063081698434040:=Nat
def tw14120171770834477153:=Nat
def tw2379538940505579492:=Nat
def tw7382636060879615258:=Nat
def tw3074776004563124753:=Nat
def tw8750634737296910764:=Nat
def tw16061105349151330553:=Nat
def tw7425225461206787956:=Nat
def tw10297925567034532408:=Nat
def tw15368878481359544024:=Nat
def tw7671338126010339497:=Nat
def tw1073149019686022646:=Nat
def tw11830486201621272592:=Nat
def tw7310284516055994559:=Nat
def tw7595733873129081080:=Nat
def tw15150601674345109212:=Nat
def tw5052503821476621467:=Nat
def tw7963161946294061909:=Nat
def tw14747837097629997497:=Nat
def tw18047797474042784762:=Nat
def tw17265368608764572822:=Nat
end PySem.W.Fast
open_top K02hd for PySem.Challenge.rw_samestride_k02_places_and_free_names
end
section
namespace L2
open PySem PySem.Spec PyProof.Rows
noncomputable abbrev Key:=Sum Int Str
noncomputable def ZeD:Key->Value->Bool
 | .inl k,v=>Value.isInt k v
 | .inr x,v=>Value.isStrOf x v
noncomputable def ZqK(w:World):Key->Int
 | .inl k=>hashInt k
 | .inr x=>hashStr w x
theorem Zs:∀ {k:Key}{v:Value},ZeD k v=true->(∃ i t,k=Sum.inl i/\v=Value.int i t)\/(∃ x t,k=Sum.inr x/\v=Value.str x t)
 | .inl i,v,h=>by
   obtain ⟨t,e⟩:=Value.isInt_shape (k:=i) (v:=v) h;exact .inl ⟨i,t,rfl,e⟩
 | .inr x,v,h=>by
   obtain ⟨t,e⟩:=Value.isStrOf_shape (x:=x) (v:=v) h;exact .inr ⟨x,t,rfl,e⟩
theorem Ziw(i:Int)(t:Tok):ZeD (.inl i) (.int i t)=true:=by simp [ZeD,Value.isInt]
theorem Zi(x:Str)(t:Tok):ZeD (.inr x) (.str x t)=true:=by simp [ZeD,Value.isStrOf]
theorem ZnK(a b:Int):decide ((Sum.inl a:Key)=Sum.inl b)=(a==b):=by
 by_cases e:a=b
 . subst e;simp
 . have h:¬ (Sum.inl a:Key)=Sum.inl b:=fun q=>e (Sum.inl.inj q);rw [decide_eq_false h];exact (beq_eq_false_iff_ne.mpr e).symm
theorem ZnH(a b:Str):decide ((Sum.inr a:Key)=Sum.inr b)=decide (a=b):=by
 by_cases e:a=b
 . subst e;simp
 . have h:¬ (Sum.inr a:Key)=Sum.inr b:=fun q=>e (Sum.inr.inj q);rw [decide_eq_false h,decide_eq_false e]
theorem ZnJ(a:Int)(b:Str):decide ((Sum.inl a:Key)=Sum.inr b)=false:=decide_eq_false (fun q=>nomatch q)
theorem ZnI(a:Str)(b:Int):decide ((Sum.inr a:Key)=Sum.inl b)=false:=decide_eq_false (fun q=>nomatch q)
noncomputable def Zw(prog:Program)(w:World):PySem.KeyKind prog w Key where
 is:=ZeD
 hash:=ZqK w
 inj:=fun v a b ha hb=>by
   rcases Zs ha with ⟨i,t,rfl,rfl⟩|⟨x,t,rfl,rfl⟩
   . rcases Zs hb with ⟨j,u,rfl,e⟩|⟨y,u,rfl,e⟩
     . injection e with e1 _;rw [e1]
     . exact nomatch e
   . rcases Zs hb with ⟨j,u,rfl,e⟩|⟨y,u,rfl,e⟩
     . exact nomatch e
     . injection e with e1 _;rw [e1]
 byValue:=fun k v h=>by
   rcases Zs h with ⟨i,t,rfl,rfl⟩|⟨x,t,rfl,rfl⟩<;>rfl
 pyHash:=fun hv h=>by
   rcases Zs hv with ⟨i,t,rfl,rfl⟩|⟨x,t,rfl,rfl⟩
   . exact wpAny_pyHash_int h
   . exact wpAny_pyHash_str h
 eqBool:=fun hu hv h=>by
   rcases Zs hu with ⟨i,t,rfl,rfl⟩|⟨x,t,rfl,rfl⟩
   . rcases Zs hv with ⟨j,u,rfl,rfl⟩|⟨y,u,rfl,rfl⟩
     . rw [ZnK] at h;exact wpAny_eqBool_int h
     . rw [ZnJ] at h;exact SeqAt.EqAt.int_str i t y u _ _ _ _ h
   . rcases Zs hv with ⟨j,u,rfl,rfl⟩|⟨y,u,rfl,rfl⟩
     . rw [ZnI] at h;exact SeqAt.EqAt.str_int x t j u _ _ _ _ h
     . rw [ZnH] at h;exact wpAny_eqBool_str h
 «strs»:=fun k x t v h=>by
   rcases Zs h with ⟨i,u,rfl,e⟩|⟨y,u,rfl,e⟩
   . exact nomatch e
   . injection e with e1 _;subst e1;cases v<;>rfl
theorem Zf1(prog:Program)(w:World)(i:Int)(t:Tok):(Zw prog w).is (.inl i) (.int i t)=true:=Ziw i t
theorem Zf0(prog:Program)(w:World)(x:Str)(t:Tok):(Zw prog w).is (.inr x) (.str x t)=true:=Zi x t
end L2
namespace L2
open PySem PySem.Spec PyProof.Rows
inductive V where
 | non|bl (b:Bool)|int (i:Int)|str (x:Str)|byt (b:Array UInt8)|flt (b:UInt64)|ref (a:Addr)|ty (n:String)
 deriving DecidableEq
noncomputable def RelV:V->Value->Prop
 | .non,u=>u=Value.none
 | .bl b,u=>u=Value.bool b
 | .int i,u=>∃ t,u=Value.int i t
 | .str x,u=>∃ t,u=Value.str x t
 | .byt b,u=>∃ t,u=Value.bytes b t
 | .flt b,u=>∃ t,u=Value.float b t
 | .ref a,u=>u=Value.ref a
 | .ty n,u=>u=Value.type n
noncomputable abbrev Zd:List V->List Value->Prop:=Paired RelV
theorem Zd.length(r:Zd xs us):xs.length=us.length:=Paired.length r
theorem Zd.get:∀ {xs:List V}{us:List Value}{i:Nat}{x:V},Zd xs us->xs[i]? = some x->∃ u,us[i]? = some u/\RelV x u
 | _,_,_,_,.nil,e=>by simp at e
 | _,_,0,_,.cons r _,e=>by simp at e;subst e;exact ⟨_,rfl,r⟩
 | _,_,i+1,x,.cons _ t,e=>by
   obtain ⟨u,h1,h2⟩:=Zd.get (i:=i) (x:=x) t (by simpa using e);exact ⟨u,by simpa using h1,h2⟩
theorem Zd.set(r:RelV x u):∀ {xs:List V}{us:List Value} (i:Nat),Zd xs us->Zd (xs.set i x) (us.set i u)
 | _,_,_,.nil=>.nil
 | _,_,0,.cons _ t=>.cons r t
 | _,_,i+1,.cons q t=>.cons q (Zd.set r i t)
theorem Zd.append:∀ {xs ys:List V}{us ws:List Value},Zd xs us->Zd ys ws->Zd (xs++ys) (us++ws)
 | _,_,_,_,.nil,s=>s
 | _,_,_,_,.cons r t,s=>.cons r (Zd.append t s)
theorem Zd.take:∀ {xs:List V}{us:List Value} (n:Nat),Zd xs us->Zd (xs.take n) (us.take n)
 | _,_,0,_=>.nil
 | _,_,_+1,.nil=>.nil
 | _,_,n+1,.cons r t=>.cons r (Zd.take n t)
theorem Zd.drop:∀ {xs:List V}{us:List Value} (n:Nat),Zd xs us->Zd (xs.drop n) (us.drop n)
 | _,_,0,r=>r
 | _,_,_+1,.nil=>.nil
 | _,_,n+1,.cons _ t=>Zd.drop n t
noncomputable def ZcE:Option V->Option Value->Prop
 | some v,some u=>RelV v u
 | none,none=>True
 | _,_=>False
noncomputable def KV:List (κ×V)->List (κ×Value)->Prop:=Paired fun (p:κ×V) (q:κ×Value)=>p.1=q.1/\RelV p.2 q.2
noncomputable def kV:Key->V
 | .inl i=>.int i
 | .inr x=>.str x
inductive HO where
 | lst (xs:List V)
 | tup (xs:List V)
 | dK (kvs:List (Key×V))|dT (kvs:List (List Key×V))
 | set (S_:Int->Bool) (n:Nat)
 | ins (C dx:Addr) (fs:List (Str×V))
 | own (x:Addr)
 | xd (fs:List (Str×V))
 | met (f x:Addr)
 | rng (lo hi:Int)
 | frz (o:Obj) (u:HO)
 | tbl (ps:Array Value)
 | ext (φ:Heap->Prop)
noncomputable abbrev Hp:=Addr->Option HO
noncomputable def upd(H:Hp)(a:Addr)(o:HO):Hp:=fun b=>if b=a then some o else H b
theorem Zf:upd H a o a=some o:=by unfold upd;rw [if_pos rfl]
theorem Ze(h:b≠a):upd H a o b=H b:=by unfold upd;rw [if_neg h]
theorem Zt{H:Hp}(h:H a=some o)(h':H b=none):a≠b:=by
 intro e;subst e;rw [h] at h';cases h'
section
variable (P:Program) (w:World)
noncomputable def Z9 (h:Heap) (a:Addr) (items:Array Value):Prop:=∃ o,h.get? a=some o/\o.cls=.type "tuple" /\ o.dict=none/\∃ n,o.data=.seq items n
theorem Z9.tup(x:Z9 h a items):IsTup h a items:=let ⟨o,ho,hc,_,r⟩:=x;⟨o,ho,hc,r⟩
theorem Z9.fresh (h:Heap) (items:Array Value):Z9 (h.push {cls:=.type "tuple",data:=.seq items}) h.objs.size items:=⟨_,Oj _ rfl,rfl,rfl,_,rfl⟩
noncomputable def ZJ(H:Hp)(h:Heap)(a:Addr):HO->Prop
 | .lst xs=>xs.length<=sizeLine/\∃ (its:List Value) (n:Nat),Zd xs its/\h.get? a=some {cls:=.type "list",data:=.seq its.toArray n}
 | .tup xs=>xs.length<=sizeLine/\∃ its:List Value,Zd xs its/\Z9 h a its.toArray
 | .dK kvs=>kvs.length<=sizeLine/\(a==sysModules)=false/\∃ vs,KV kvs vs/\h.DictOf (Zw P w) a vs
 | .dT kvs=>kvs.length<=sizeLine/\(a==sysModules)=false/\∃ xs:List (List Key×Addr×Value),
     Paired (fun (p:List Key×V) (q:List Key×Addr×Value)=>p.1=q.1/\H q.2.1=some (.tup (p.1.map kV))/\RelV p.2 q.2.2) kvs xs /\
     ∃ o es ep,h.get? a=some o/\o.ExactDict/\o.data=.dict es ep/\es.toList=xs.map (entryOfKey (tupleKind (Zw P w)))/\(xs.map (·.1)).Nodup
 | .set S_ n=>h.SetOf (intKind P w) a S_ n
 | .ins C dx fs=>H dx=some (.own a)/\fs.length<=1000/\dx≠a/\h.get? a=some (PySem.W.instObj C dx) /\
     ∃ mA,h.Ns1 dx mA/\(∀ f,ZcE (fs.lookup f) (mA f))/\PySem.Within mA (fs.map (·.1))
 | .own _=>∃ o,h.get? a=some o
 | .xd fs=>∃ mA,h.Ns1 a mA/\∀ f,ZcE (fs.lookup f) (mA f)
 | .rng lo hi=>∃ t u v,h.get? a=some {cls:=.type "range",data:=.fields #[.int lo t,.int hi u,.int 1 v]}
 | .frz o u=>h.get? a=some o/\ZJ H h a u
 | .tbl ps=>h.get? a=some {cls:=.none,data:=.fields ps}
 | .met f x=>h.get? a=some (PySem.W.methodObj (.ref f) (.ref x))
 | .ext φ=>φ h/\(∃ o,h.get? a=some o)/\∀ h1 h2:Heap,φ h1->(∀ o,h1.get? a=some o->h2.get? a=some o)->φ h2
noncomputable def HOk(H:Hp)(h:Heap):Prop:=∀ a o,H a=some o->ZJ P w H h a o
end
section
variable {P:Program}{w:World}{H H':Hp}{h h':Heap}{a:Addr}{o:HO}
theorem ZJ.lt(x:ZJ P w H h a o):a<h.objs.size:=by
 cases o with
 | lst xs=>obtain ⟨_,_,_,_,e⟩:=x;exact Heap.lt_size e
 | tup xs=>obtain ⟨_,_,_,p⟩:=x;exact p.tup.lt
 | dK kvs=>obtain ⟨_,_,_,_,o,_,_,e,_⟩:=x;exact Heap.lt_size e
 | dT kvs=>obtain ⟨_,_,_,_,o,_,_,e,_⟩:=x;exact Heap.lt_size e
 | set S_ n=>obtain ⟨o,_,_,_,e,_⟩:=x;exact Heap.lt_size e
 | ins C dx fs=>obtain ⟨_,_,_,e,_⟩:=x;exact Heap.lt_size e
 | own y=>obtain ⟨_,e⟩:=x;exact Heap.lt_size e
 | xd fs=>obtain ⟨_,⟨_,_,_,e,_⟩,_⟩:=x;exact Heap.lt_size e
 | rng lo hi=>obtain ⟨_,_,_,e⟩:=x;exact Heap.lt_size e
 | frz ob u=>obtain ⟨e,_⟩:=x;exact Heap.lt_size e
 | tbl ps=>exact Heap.lt_size (show h.get? a=some _ from x)
 | met f y=>exact Heap.lt_size (show h.get? a=some _ from x)
 | ext φ=>obtain ⟨_,⟨_,e⟩,_⟩:=x;exact Heap.lt_size e
theorem Paired.mapP:∀ {l₁:List α}{l₂:List β},Paired F l₁ l₂->(∀ a b,F a b->G a b)->Paired G l₁ l₂
 | _,_,.nil,_=>.nil
 | _,_,.cons r t,f=>.cons (f _ _ r) (Paired.mapP t f)
theorem ZJ.stay(x:ZJ P w H h a o)(k:∀ b u,(b=a\/H b=some (.own a))->h.get? b=some u->h'.get? b=some u)
   (ho:∀ b,H b=some (.own a)->H' b=some (.own a)) (ht:∀ b xs,H b=some (.tup xs)->H' b=some (.tup xs)):ZJ P w H' h' a o:=by
 induction o with
 | lst xs=>obtain ⟨z,its,n,r,e⟩:=x;exact ⟨z,its,n,r,k _ _ (.inl rfl) e⟩
 | tup xs=>obtain ⟨z,its,r,ob,e,c⟩:=x;exact ⟨z,its,r,ob,k _ _ (.inl rfl) e,c⟩
 | dK kvs=>obtain ⟨z,y,vs,r,ob,es,ep,e,c⟩:=x;exact ⟨z,y,vs,r,ob,es,ep,k _ _ (.inl rfl) e,c⟩
 | dT kvs =>
   obtain ⟨z,y,xs,r,ob,es,ep,e,c⟩:=x;exact ⟨z,y,xs,Paired.mapP r fun p q z=>⟨z.1,ht _ _ z.2.1,z.2.2⟩,ob,es,ep,k _ _ (.inl rfl) e,c⟩
 | set S_ n=>obtain ⟨ob,es,ep,t,e,c⟩:=x;exact ⟨ob,es,ep,t,k _ _ (.inl rfl) e,c⟩
 | ins C dx fs =>
   obtain ⟨d,z,ne,e,mA,⟨od,es,ep,e2,c⟩,r⟩:=x;exact ⟨ho _ d,z,ne,k _ _ (.inl rfl) e,mA,⟨od,es,ep,k _ _ (.inr d) e2,c⟩,r⟩
 | own y=>obtain ⟨ob,e⟩:=x;exact ⟨ob,k _ _ (.inl rfl) e⟩
 | xd fs=>obtain ⟨mA,⟨od,es,ep,e,c⟩,r⟩:=x;exact ⟨mA,⟨od,es,ep,k _ _ (.inl rfl) e,c⟩,r⟩
 | rng lo hi=>obtain ⟨t,u,v,e⟩:=x;exact ⟨t,u,v,k _ _ (.inl rfl) e⟩
 | frz ob u ih=>obtain ⟨e,q⟩:=x;exact ⟨k _ _ (.inl rfl) e,ih q⟩
 | tbl ps =>
   have e:h.get? a=some {cls:=.none,data:=.fields ps}:=x;show h'.get? a=some {cls:=.none,data:=.fields ps};exact k a _ (.inl rfl) e
 | met f y =>
   have e:h.get? a=some (PySem.W.methodObj (.ref f) (.ref y)):=x;show h'.get? a=some (PySem.W.methodObj (.ref f) (.ref y));exact k a _ (.inl rfl) e
 | ext φ=>obtain ⟨p,⟨o,e⟩,st⟩:=x;exact ⟨st _ _ p fun o q=>k _ _ (.inl rfl) q,⟨o,k _ _ (.inl rfl) e⟩,st⟩
theorem HOk.lt(x:HOk P w H h)(e:H a=some o):a<h.objs.size:=(x a o e).lt
theorem HOk.fresh(x:HOk P w H h)(e:h.objs.size<=a):H a=none:=by
 cases q:H a with
 | none=>rfl
 | some u=>exact absurd (Ot (x.lt q) e) (Nat.lt_irrefl _)
theorem HOk.kept(x:HOk P w H h)(k:∀ b u,h.get? b=some u->h'.get? b=some u):HOk P w H h':=fun a o e =>
 (x a o e).stay (fun b u _ q=>k b u q) (fun _ q=>q) fun _ _ q=>q
theorem HOk.laid(x:HOk P w H h)(k:∀ b u,h.get? b=some u->h'.get? b=some u)(hp:h.objs.size<=a)(new:ZJ P w (upd H a o) h' a o):HOk P w (upd H a o) h':=fun b u e=>by
 have hn:=x.fresh hp;by_cases hb:b=a
 . subst hb;rw [Zf] at e;cases e;exact new
 . rw [Ze hb] at e;exact (x b u e).stay (fun c v _ q=>k c v q) (fun c q=>by rw [Ze (Zt q hn)];exact q) fun c xs q=>by rw [Ze (Zt q hn)];exact q
end
noncomputable def Rd(H:Hp)(a:Addr)(u:HO):Prop:=H a=some u\/∃ o,H a=some (.frz o u)
theorem Rd.ok{P:Program}{w:World}{H:Hp}{h:Heap}{a:Addr}{u:HO}(r:Rd H a u)(x:HOk P w H h):ZJ P w H h a u:=by
 rcases r with r|⟨o,r⟩
 . exact x a u r
 . obtain ⟨_,q⟩:=x a _ r;exact q
noncomputable def Mut:Option HO->Prop
 | some (.lst _)=>True
 | some (.dK _)=>True
 | some (.dT _)=>True
 | some (.set _ _)=>True
 | some (.ins _ _ _)=>True
 | some (.ext _)=>True
 | _=>False
section
variable {P:Program}{w:World}{H:Hp}{h h':Heap}{x e:Addr}{o':HO}
theorem HOk.write(ok:HOk P w H h)(mu:Mut (H x))(he:e=x\/H e=some (.own x))(k:∀ b u,b≠e->h.get? b=some u->h'.get? b=some u)(heo:∃ u,h'.get? e=some u)
   (new:ZJ P w (upd H x o') h' x o'):HOk P w (upd H x o') h':=fun b u q=>by
 have nown:∀ c y,H c=some (.own y)->c≠x:=fun c y r z=>by subst z;rw [r] at mu;exact mu
 have ntup:∀ c xs,H c=some (.tup xs)->c≠x:=fun c xs r z=>by subst z;rw [r] at mu;exact mu
 by_cases hb:b=x
 . subst hb;rw [Zf] at q;cases q;exact new
 . rw [Ze hb] at q;by_cases hbe:b=e
   . have q':H b=some (.own x):=by
       rcases he with z|z
       . exact absurd (hbe.trans z) hb
       . rw [hbe];exact z
     rw [q] at q';cases q';obtain ⟨v,hv⟩:=heo;exact ⟨v,by rw [hbe];exact hv⟩
   . refine (ok b u q).stay (fun c v hc r=>k c v ?_ r) (fun c r=>by rw [Ze (nown c b r)];exact r) fun c xs r=>by rw [Ze (ntup c xs r)];exact r
     rcases hc with rfl|hc
     . exact hbe
     . rintro rfl;rcases he with z|z
       . exact nown c b hc z
       . rw [hc] at z;cases z;exact hb rfl
end
structure Un(fs ex:List Addr)(H H':Hp)(h h':Heap):Prop where
 keep:∀ b o,h.get? b=some o->H b=none->b ∉ fs->b ∉ ex->h'.get? b=some o
 slot:∀ b o,h.get? b=some o->H b=none->b∈fs->b ∉ ex->∃ sl,h'.get? b=some {o with slots:=sl}
 free:∀ b o,h.get? b=some o->H b=none->b ∉ ex->H' b=none
 there:∀ b o,h.get? b=some o->b ∉ ex->∃ o',h'.get? b=some o'
 tups:∀ b xs,H b=some (.tup xs)->H' b=some (.tup xs)
 frzs:∀ b o u,H b=some (.frz o u)->H' b=some (.frz o u)
 tbls:∀ b ps,H b=some (.tbl ps)->∃ more,H' b=some (.tbl (ps++more))
section
variable {fs fs' ex ex':List Addr}{H H1 H2:Hp}{h h1 h2 h':Heap}{a x e:Addr}{o:HO}
theorem Un.any(u:Un fs ex H H1 h h1)(q:h.get? b=some ob)(n:H b=none)(hx:b ∉ ex):∃ sl,h1.get? b=some {ob with slots:=sl}:=by
 by_cases hb:b∈fs
 . exact u.slot b ob q n hb hx
 . exact ⟨ob.slots,u.keep b ob q n hb hx⟩
theorem Un.trans(a:Un fs ex H H1 h h1)(b:Un fs ex H1 H2 h1 h2):Un fs ex H H2 h h2 where
 keep:=fun c ob q n hc hx=>b.keep c ob (a.keep c ob q n hc hx) (a.free c ob q n hx) hc hx
 slot:=fun c ob q n hc hx=>by
   obtain ⟨sl,e1⟩:=a.slot c ob q n hc hx;obtain ⟨sl',e2⟩:=b.slot c _ e1 (a.free c ob q n hx) hc hx;exact ⟨sl',e2⟩
 free:=fun c ob q n hx=>by
   obtain ⟨o',e1⟩:=a.there c ob q hx;exact b.free c o' e1 (a.free c ob q n hx) hx
 there:=fun c ob q hx=>by
   obtain ⟨o',e1⟩:=a.there c ob q hx;exact b.there c o' e1 hx
 tups:=fun c xs q=>b.tups c xs (a.tups c xs q)
 frzs:=fun c ob xs q=>b.frzs c ob xs (a.frzs c ob xs q)
 tbls:=fun c ps q=>by
   obtain ⟨m1,e1⟩:=a.tbls c ps q;obtain ⟨m2,e2⟩:=b.tbls c _ e1;exact ⟨m1++m2,by rw [e2,Array.append_assoc]⟩
theorem Un.kept(k:∀ b u,h.get? b=some u->h'.get? b=some u):Un fs ex H H h h' :=
 ⟨fun b ob q _ _ _=>k b ob q,fun b ob q _ _ _=>⟨ob.slots,k b ob q⟩,fun _ _ _ n _=>n,fun b ob q _=>⟨ob,k b ob q⟩,fun _ _ q=>q,fun _ _ _ q=>q,fun _ ps q=>⟨#[],by rw [q];simp⟩⟩
theorem Un.refl:Un fs ex H H h h:=Un.kept fun _ _ q=>q
theorem Un.laid(k:∀ b u,h.get? b=some u->h'.get? b=some u)(hp:h.objs.size<=a)(hn:H a=none):Un fs ex H (upd H a o) h h' where
 keep:=fun b u q _ _ _=>k b u q
 slot:=fun b u q _ _ _=>⟨u.slots,k b u q⟩
 free:=fun b u q n _=>by rw [Ze (Ou (Ot (Heap.lt_size q) hp))];exact n
 there:=fun b u q _=>⟨u,k b u q⟩
 tups:=fun b xs q=>by rw [Ze (Zt q hn)];exact q
 frzs:=fun b u xs q=>by rw [Ze (Zt q hn)];exact q
 tbls:=fun b ps q=>⟨#[],by rw [Ze (Zt q hn),q];simp⟩
theorem Un.write(mu:Mut (H x))(he:e=x\/H e=some (.own x))(k:∀ b u,b≠e->h.get? b=some u->h'.get? b=some u)(heo:∃ u,h'.get? e=some u):Un fs ex H (upd H x o) h h':=by
 have hx:∀ b,H b=none->b≠x:=fun b n z=>by subst z;rw [n] at mu;exact mu
 have hb:∀ b,H b=none->b≠e:=fun b n z=>by
   subst z;rcases he with r|r
   . exact hx b n r
   . rw [n] at r;cases r
 have hm:∀ b u,H b=some u->¬ Mut (some u)->b≠x:=fun b u q nm z=>by subst z;rw [q] at mu;exact nm mu
 refine ⟨fun b u q n _ _=>k b u (hb b n) q,fun b u q n _ _=>⟨u.slots,k b u (hb b n) q⟩,fun b u q n _=>by rw [Ze (hx b n)];exact n,fun b u q _=>?_,
   fun b xs q=>by rw [Ze (hm b _ q fun z=>z)];exact q,fun b u xs q=>by rw [Ze (hm b _ q fun z=>z)];exact q,fun b ps q=>⟨#[],by rw [Ze (hm b _ q fun z=>z),q];simp⟩⟩
 by_cases hbe:b=e
 . subst hbe;exact heo
 . exact ⟨u,k b u hbe q⟩
end
noncomputable def trk(h:Heap)(H:Hp):List Addr:=(List.range h.objs.size).filter fun a=>(H a).isSome
noncomputable def Ze8(h:Heap)(H:Hp):Heap:=PySem.W.hideAll h (trk h H)
theorem Ziz(h:Heap)(H:Hp):(Ze8 h H).objs.size=h.objs.size:=PySem.W.hideAll_size _ _
theorem ZjS(e:h.get? b=some o)(n:H b=none):(Ze8 h H).get? b=some o :=
 PySem.W.hideAll_get _ e fun hm=>by
   have q:(H b).isSome=true:=(List.mem_filter.mp hm).2;rw [n] at q;simp at q
theorem Zlk(e:(Ze8 h H).get? b=some o):h.get? b=some o/\H b=none:=by
 have e':h.get? b=some o:=PySem.W.of_hideAll (trk h H) e;refine ⟨e',?_⟩;cases q:H b with
 | none=>rfl
 | some x =>
   have hm:b∈trk h H:=List.mem_filter.mpr ⟨List.mem_range.mpr (Heap.lt_size e'),by simp [q]⟩;have z:(Ze8 h H).get? b=none:=PySem.W.hideAll_none (trk h H) hm;rw [z] at e;cases e
end L2
namespace L2
open PySem PySem.Spec PyProof.Rows
structure Mod(K:PySem.W.Frag)(mg:Str->Option Value)(base:Heap):Prop where
 kin:K.In base
 glob:base.Ns mainGlobals mg
 blt:∃ mb,base.Ns builtinsNs mb/\∀ x:Str,x ≠ "__name__" -> mb x=bootBuiltins x
 nolimit:base.NoLimit
structure Cx where
 prog:Program
 w:World
 K:PySem.W.Frag
 mg:Str->Option Value
 base:Heap
 A:Around
 N:List Str
 s₀:Shared
 H₀:Hp
 env:Env
 outer:List Env
 stack:List Env
 ex:List Addr
 fn:Str->Bool
 calm:Bool
 pn:List (Addr×Obj)
 xe:Value->Shared->Prop
noncomputable def frs(l:List Env):List Addr:=l.filterMap (·.frame)
noncomputable abbrev Cx.fs(X:Cx):List Addr:=frs X.outer
noncomputable def Vis(sc:Scope)(x:Str):Prop:=sc.names.lookup x=some .local\/sc.names.lookup x=some .cell\/sc.names.lookup x=some .free
noncomputable def Loc(sc:Scope)(x:Str):Prop:=sc.names.lookup x=some .local\/sc.names.lookup x=some .cell
noncomputable def Look(env:Env)(h:Heap)(m:Str->Option Value)(x:Str)(u:Value):Prop :=
 (env.kindOf x=some .local/\m x=some u)\/((env.kindOf x=some .cell\/env.kindOf x=some .free)/\∃ c,env.cells.lookup x=some c/\h.IsCell c (some u))
structure Cx.Ok(X:Cx):Prop where
 mod:Mod X.K X.mg X.base
 kind:X.env.scope.kind=.function
 glob:X.env.globals=mainGlobals
 blt:X.env.builtins=builtinsNs
 above:X.s₀.heap.objs.size<=X.env.locals
 inj:∀ x y c,X.env.cells.lookup x=some c->X.env.cells.lookup y=some c->x=y
 has:∀ x,(X.env.kindOf x=some .cell\/X.env.kindOf x=some .free)->∃ c,X.env.cells.lookup x=some c
 cab:∀ x c,X.fn x=true->X.env.cells.lookup x=some c->X.s₀.heap.objs.size<=c
 hd:X.calm=true->X.A.handled=none
 frames:X.A.frames=some X.stack
 stk:X.stack=X.outer\/(X.stack=X.env::X.outer/\X.env.frame=some X.env.locals)
 exf:∀ b∈X.ex,b≠X.env.locals/\∀ x c,X.env.cells.lookup x=some c->c≠b
 bs:∀ b o,X.base.get? b=some o->X.s₀.heap.get? b=some o/\X.H₀ b=none
 bsz:X.base.objs.size<=X.s₀.heap.objs.size
 noex:∀ b o,X.base.get? b=some o->b ∉ X.ex
 exfs:∀ b∈X.ex,b ∉ X.fs
 funs:X.s₀.heap.FunFrames X.base X.outer
 frf:∀ b∈X.fs,X.H₀ b=none
structure Inv(X:Cx)(pins:List (Addr×Obj))(Z:List (Option V))(H:Hp)(s:Shared):Prop where
 ok:X.Ok
 os:s.os=X.s₀.os
 bare:AllBare s.gens
 base:Un X.fs X.ex X.H₀ H X.s₀.heap s.heap
 loc:∃ m,s.heap.Ns X.env.locals m/\∀ (i:Nat) (x:Str) (v:V),X.N[i]? = some x->Z[i]? = some (some v)->Vis X.env.scope x->∃ u,RelV v u/\Look X.env s.heap m x u
 cell:∀ x c,X.env.cells.lookup x=some c->∃ v,s.heap.IsCell c v
 free:H X.env.locals=none
 freeC:∀ x c,X.env.cells.lookup x=some c->H c=none
 pin:∀ p∈X.pn++pins,s.heap.get? p.1=some p.2/\H p.1=none/\p.1≠X.env.locals/\p.1 ∉ X.fs/\∀ v,p.2.data≠.cell v
 hok:HOk X.prog X.w H s.heap
 len:Z.length=X.N.length
section
variable {X:Cx}{pins:List (Addr×Obj)}{Z:List (Option V)}{H H':Hp}{s:Shared}{h':Heap}
theorem Cx.Ok.nofr(ok:X.Ok)(e:X.base.get? b=some o):b ∉ X.fs:=fun hb=>by
 have:=(ok.funs.mem hb).1;rw [e] at this;cases this
theorem Inv.bs(I:Inv X pins Z H s):∀ b o,X.base.get? b=some o->s.heap.get? b=some o/\H b=none:=fun b o e =>
 ⟨I.base.keep b o (I.ok.bs b o e).1 (I.ok.bs b o e).2 (I.ok.nofr e) (I.ok.noex b o e),I.base.free b o (I.ok.bs b o e).1 (I.ok.bs b o e).2 (I.ok.noex b o e)⟩
theorem Inv.bk(I:Inv X pins Z H s):∀ b o,X.base.get? b=some o->s.heap.get? b=some o:=fun b o e=>(I.bs b o e).1
theorem Inv.mod(I:Inv X pins Z H s):Mod X.K X.mg X.base:=I.ok.mod
theorem Inv.kIn(I:Inv X pins Z H s):X.K.In s.heap:=I.ok.mod.kin.keeps I.bk
theorem Inv.lt(I:Inv X pins Z H s):X.env.locals<s.heap.objs.size:=let ⟨_,hn,_⟩:=I.loc;hn.lt
theorem Inv.sz(I:Inv X pins Z H s):X.s₀.heap.objs.size<=s.heap.objs.size:=OE I.ok.above (Nat.le_of_lt I.lt)
theorem Inv.nofs(I:Inv X pins Z H s)(h:s.heap.objs.size<=a):a ∉ X.fs:=fun hb=>by
 obtain ⟨_,o,ho,_⟩:=I.ok.funs.mem hb;exact absurd (Ot (Heap.lt_size ho) (OE I.sz h)) (Nat.lt_irrefl _)
theorem Inv.cne(I:Inv X pins Z H s):∀ x c,X.env.cells.lookup x=some c->c≠X.env.locals:=fun x c e z=>by
 obtain ⟨v,o,ho,hd⟩:=I.cell x c e;obtain ⟨m,⟨o',es,ep,ho',hd',_⟩,_⟩:=I.loc;rw [z,ho'] at ho;cases ho;rw [hd'] at hd;cases hd
theorem Inv.funs(I:Inv X pins Z H s):s.heap.FunFrames X.base X.outer:=by
 have all:∀ (l:List Env),(∀ b∈frs l,b∈X.fs)->X.s₀.heap.FunFrames X.base l->s.heap.FunFrames X.base l:=by
   intro l;induction l with
   | nil=>intro _ _;trivial
   | cons env r ih =>
     intro hs hl;obtain ⟨hk,⟨L,o,hf,hn,ho,hd⟩,hr⟩:=hl;have hL:L∈X.fs:=hs L (by unfold frs;rw [List.filterMap_cons,hf];exact Oi);obtain ⟨sl,e⟩:=I.base.slot L o ho (I.ok.frf L hL) hL fun z=>I.ok.exfs L z hL;exact ⟨hk,⟨L,_,hf,hn,e,hd⟩,ih (fun b hb=>hs b (by unfold frs;rw [List.filterMap_cons,hf];exact Oh _ hb)) hr⟩
 exact all X.outer (fun _ hb=>hb) I.ok.funs
theorem Inv.stack(I:Inv X pins Z H s):s.heap.FunFrames X.base X.stack:=by
 rcases I.ok.stk with e|⟨e,hf⟩
 . rw [e];exact I.funs
 . rw [e];obtain ⟨m,hn,_⟩:=I.loc;refine .cons (by rw [I.ok.kind];decide) hf hn ?_ I.funs;exact Heap.get?_none_of_le (OE I.ok.bsz I.ok.above)
theorem Inv.stkSub(I:Inv X pins Z H s):∀ b∈frs X.stack,b∈X.env.locals::X.fs:=fun b hb=>by
 rcases I.ok.stk with e|⟨e,hf⟩
 . rw [e] at hb;exact Oh _ hb
 . rw [e] at hb;unfold frs at hb;rw [List.filterMap_cons,hf] at hb;exact hb
theorem Inv.stkFree(I:Inv X pins Z H s):∀ b∈frs X.stack,H b=none:=fun b hb=>by
 rcases O2.mp (I.stkSub b hb) with e|hb
 . rw [e];exact I.free
 . obtain ⟨_,o,ho,_⟩:=I.ok.funs.mem hb;exact I.base.free b o ho (I.ok.frf b hb) fun z=>I.ok.exfs b z hb
theorem Inv.step{g':Array GenState}{t':Nat}{d':Drawn}{ch:List Addr}(I:Inv X pins Z H s)
   (hch:∀ b∈ch,(b∈X.ex\/X.s₀.heap.objs.size<=b)/\b≠X.env.locals/\(∀ x c,X.env.cells.lookup x=some c->c≠b)/\∀ p∈X.pn++pins,p.1≠b)
   (keep:∀ b o,b≠X.env.locals->b ∉ X.fs->b ∉ ch->s.heap.get? b=some o->H b=none->h'.get? b=some o)
   (slot:∀ b o,b≠X.env.locals->b∈X.fs->b ∉ ch->s.heap.get? b=some o->H b=none->∃ sl,h'.get? b=some {o with slots:=sl}) (free:∀ b o,b ∉ ch->s.heap.get? b=some o->H b=none->H' b=none)
   (there:∀ b o,b ∉ ch->s.heap.get? b=some o->∃ o',h'.get? b=some o')
   (tups:∀ b xs,H b=some (.tup xs)->H' b=some (.tup xs)) (frzs:∀ b o u,H b=some (.frz o u)->H' b=some (.frz o u)) (tbls:∀ b ps,H b=some (.tbl ps)->∃ more,H' b=some (.tbl (ps++more)))
   (ns:∀ m,s.heap.Ns X.env.locals m->h'.Ns X.env.locals m) (hok:HOk X.prog X.w H' h') (hg:AllBare g') :
   Inv X pins Z H' {s with heap:=h',gens:=g',drawn:=d',toks:=t'}:=by
 have neL:∀ b o,X.s₀.heap.get? b=some o->b≠X.env.locals:=fun b o e=>Ou (Ot (Heap.lt_size e) I.ok.above);have neC:∀ b o,X.s₀.heap.get? b=some o->b ∉ X.ex->b ∉ ch:=fun b o e hx hb=>by
   rcases (hch b hb).1 with z|z
   . exact hx z
   . exact absurd (Ot (Heap.lt_size e) z) (Nat.lt_irrefl _)
 have cellK:∀ x c,X.env.cells.lookup x=some c->∀ v,s.heap.IsCell c v->h'.IsCell c v:=fun x c e v ⟨o,ho,hd⟩=>by
   have nch:c ∉ ch:=fun z=>(hch c z).2.2.1 x c e rfl;by_cases hc:c∈X.fs
   . obtain ⟨sl,q⟩:=slot c o (I.cne x c e) hc nch ho (I.freeC x c e);exact ⟨_,q,hd⟩
   . exact ⟨o,keep c o (I.cne x c e) hc nch ho (I.freeC x c e),hd⟩
 refine ⟨I.ok,I.os,hg,⟨fun b o e n hb hx=>?_,fun b o e n hb hx=>?_,fun b o e n hx=>?_,fun b o e hx=>?_,fun b xs e=>tups b xs (I.base.tups b xs e),fun b o xs e=>frzs b o xs (I.base.frzs b o xs e),fun b ps e=>?_⟩,?_,fun x c e=>?_,?_,fun x c e=>?_,fun p hp=>?_,hok,I.len⟩
 . exact keep b o (neL b o e) hb (neC b o e hx) (I.base.keep b o e n hb hx) (I.base.free b o e n hx)
 . obtain ⟨sl,e1⟩:=I.base.slot b o e n hb hx;obtain ⟨sl',e2⟩:=slot b _ (neL b o e) hb (neC b o e hx) e1 (I.base.free b o e n hx);exact ⟨sl',e2⟩
 . obtain ⟨o',e1⟩:=I.base.there b o e hx;exact free b o' (neC b o e hx) e1 (I.base.free b o e n hx)
 . obtain ⟨o',e1⟩:=I.base.there b o e hx;exact there b o' (neC b o e hx) e1
 . obtain ⟨m1,e1⟩:=I.base.tbls b ps e;obtain ⟨m2,e2⟩:=tbls b _ e1;exact ⟨m1++m2,by rw [e2,Array.append_assoc]⟩
 . obtain ⟨m,hn,hl⟩:=I.loc;refine ⟨m,ns m hn,fun i x v e1 e2 e3=>?_⟩;obtain ⟨u,r,l⟩:=hl i x v e1 e2 e3;refine ⟨u,r,?_⟩;rcases l with l|⟨k,c,e,z⟩
   . exact .inl l
   . exact .inr ⟨k,c,e,cellK x c e _ z⟩
 . obtain ⟨v,z⟩:=I.cell x c e;exact ⟨v,cellK x c e v z⟩
 . obtain ⟨m,⟨o,_,_,ho,_⟩,_⟩:=I.loc;exact free _ o (fun z=>(hch _ z).2.1 rfl) ho I.free
 . obtain ⟨v,o,ho,hd⟩:=I.cell x c e;exact free c o (fun z=>(hch c z).2.2.1 x c e rfl) ho (I.freeC x c e)
 . obtain ⟨e,n,ne,nf,d⟩:=I.pin p hp;have nch:p.1 ∉ ch:=fun z=>(hch p.1 z).2.2.2 p hp rfl;exact ⟨keep p.1 p.2 ne nf nch e n,free p.1 p.2 nch e n,ne,nf,d⟩
theorem Inv.un{t':Nat}(I:Inv X pins Z H s)(u:Un X.fs [] H H' s.heap h')(hok:HOk X.prog X.w H' h'):Inv X pins Z H' {s with heap:=h',toks:=t'}:=by
 obtain ⟨m,⟨o,es,ep,ho,r⟩,_⟩:=id I.loc;obtain ⟨sl,hL⟩:=u.any ho I.free (by simp);exact I.step (g':=s.gens) (d':=s.drawn) (ch:=[]) (fun _ z=>nomatch z) (fun b o _ hb _ e n=>u.keep b o e n hb (by simp)) (fun b o _ hb _ e n=>u.slot b o e n hb (by simp)) (fun b o _ e n=>u.free b o e n (by simp)) (fun b o _ e=>u.there b o e (by simp)) u.tups u.frzs u.tbls (fun m' hm=>by
   obtain ⟨o',es',ep',ho',r'⟩:=hm;rw [ho] at ho';cases ho';exact ⟨_,es',ep',hL,r'⟩) hok I.bare
theorem Inv.call{g':Array GenState}{t':Nat}{d':Drawn}{ch:List Addr}(I:Inv X pins Z H s)(u:Un (frs X.stack) ch H H' s.heap h')(hok:HOk X.prog X.w H' h')(hg:AllBare g')
   (hch:∀ b∈ch,(b∈X.ex\/X.s₀.heap.objs.size<=b)/\b≠X.env.locals/\(∀ x c,X.env.cells.lookup x=some c->c≠b)/\∀ p∈X.pn++pins,p.1≠b) :
   Inv X pins Z H' {s with heap:=h',gens:=g',drawn:=d',toks:=t'}:=by
 obtain ⟨m,⟨o,es,ep,ho,r⟩,_⟩:=id I.loc;obtain ⟨sl,hL⟩:=u.any ho I.free fun z=>(hch _ z).2.1 rfl;exact I.step (ch:=ch) hch (fun b o hL hb hc e n=>u.keep b o e n (fun z=>(O2.mp (I.stkSub b z)).elim hL hb) hc) (fun b o _ _ hc e n=>u.any e n hc) (fun b o hc e n=>u.free b o e n hc) (fun b o hc e=>u.there b o e hc) u.tups u.frzs u.tbls (fun m' hm=>by
   obtain ⟨o',es',ep',ho',r'⟩:=hm;rw [ho] at ho';cases ho';exact ⟨_,es',ep',hL,r'⟩) hok hg
theorem Inv.turned{t':Nat}{it:Addr}(I:Inv X pins Z H s)(k:∀ b o,b≠it->s.heap.get? b=some o->h'.get? b=some o)(hn:H it=none)(hL:it≠X.env.locals)
   (h1:it∈X.ex\/X.s₀.heap.objs.size<=it) (h2:∀ x c,X.env.cells.lookup x=some c->c≠it) (h3:∀ p∈X.pn++pins,p.1≠it):Inv X pins Z H {s with heap:=h',toks:=t'}:=by
 have nit:∀ b u,H b=some u->b≠it:=fun b u e z=>by rw [z,hn] at e;cases e
 refine I.step (g':=s.gens) (d':=s.drawn) (ch:=[it]) (fun b hb=>?_) (fun b o _ _ hc e _=>k b o (fun z=>hc (by simp [z])) e) (fun b o _ _ hc e _=>⟨o.slots,k b o (fun z=>hc (by simp [z])) e⟩) (fun _ _ _ _ n=>n)
   (fun b o hc e=>⟨o,k b o (fun z=>hc (by simp [z])) e⟩) (fun _ _ e=>e) (fun _ _ _ e=>e) (fun b ps e=>⟨#[],by rw [e];simp⟩) (fun m hm=>?_) (fun b u e=>?_) I.bare
 . have e:b=it:=by simpa using hb
   subst e;exact ⟨h1,hL,h2,h3⟩
 . obtain ⟨o,es,ep,ho,r⟩:=hm;exact ⟨o,es,ep,k _ o (Ne.symm hL) ho,r⟩
 . refine (I.hok b u e).stay (fun c v hc q=>k c v ?_ q) (fun _ q=>q) fun _ _ q=>q;rcases hc with z|z
   . rw [z];exact nit b u e
   . exact nit c _ z
theorem Inv.tok(I:Inv X pins Z H s)(t:Nat):Inv X pins Z H {s with toks:=t}:=I.un (h':=s.heap) (t':=t) Un.refl I.hok
theorem Inv.kept{t':Nat}(I:Inv X pins Z H s)(k:∀ b u,s.heap.get? b=some u->h'.get? b=some u):Inv X pins Z H {s with heap:=h',toks:=t'}:=I.un (Un.kept k) (I.hok.kept k)
theorem Inv.laid{a:Addr}{o:HO}{t':Nat}(I:Inv X pins Z H s)(k:∀ b u,s.heap.get? b=some u->h'.get? b=some u)(hp:s.heap.objs.size<=a)(new:ZJ X.prog X.w (upd H a o) h' a o) :
   Inv X pins Z (upd H a o) {s with heap:=h',toks:=t'}:=I.un (Un.laid k hp (I.hok.fresh hp)) (I.hok.laid k hp new)
theorem Inv.write(I:Inv X pins Z H s)(mu:Mut (H x))(he:e=x\/H e=some (.own x))(k:∀ b u,b≠e->s.heap.get? b=some u->h'.get? b=some u)(heo:∃ u,h'.get? e=some u)
   (new:ZJ X.prog X.w (upd H x o) h' x o):Inv X pins Z (upd H x o) {s with heap:=h',toks:=t'}:=I.un (Un.write mu he k heo) (I.hok.write mu he k heo new)
theorem Inv.weak(I:Inv X pins Z H s)(hl:σ'.length=Z.length)(w:∀ (i:Nat) v,σ'[i]? = some (some v)->Z[i]? = some (some v)):Inv X pins σ' H s :=
 ⟨I.ok,I.os,I.bare,I.base,let ⟨m,hn,hl'⟩:=I.loc;⟨m,hn,fun i x v e1 e2 e3=>hl' i x v e1 (w i v e2) e3⟩,I.cell,I.free,I.freeC,I.pin,I.hok,hl.trans I.len⟩
theorem Inv.pins_of(I:Inv X pins Z H s)(h:∀ p∈pins',s.heap.get? p.1=some p.2/\H p.1=none/\p.1≠X.env.locals/\p.1 ∉ X.fs/\∀ v,p.2.data≠.cell v):Inv X pins' Z H s :=
 ⟨I.ok,I.os,I.bare,I.base,I.loc,I.cell,I.free,I.freeC,fun p hp=>(OD.mp hp).elim (fun z=>I.pin p (List.mem_append_left _ z)) (h p),I.hok,I.len⟩
theorem ZfZ{N:List Str}(hN:N.Nodup){i j:Nat}{x:Str}(a:N[i]? = some x)(b:N[j]? = some x):i=j:=by
 obtain ⟨h1,e1⟩:=Ob.mp a;obtain ⟨h2,e2⟩:=Ob.mp b;exact (List.getElem_inj hN).mp (e1.trans e2.symm)
theorem Zes{M:Model}{A:Around}{Q:Unit->Shared->Prop}(I:Inv X pins Z H s)(hN:X.N.Nodup)(hi:X.N[i]? = some x)(hx:Loc X.env.scope x)(r:RelV v u)
   (h:∀ s',Inv X pins (Z.set i (some v)) H s'->(∃ a,Heap.SameBut a s.heap s'.heap/\(a=X.env.locals\/X.env.cells.lookup x=some a))->Q () s') (hf:X.fn x=true\/X.env.scope.names.lookup x=some .local:=by first|exact .inl rfl|exact .inr rfl|assumption):wpAny M A (storeName X.env x u) Q E s:=by
 obtain ⟨m,hn,hl⟩:=id I.loc;have hcls:(X.env.scope.kind==.class || (X.env.scope.kind==.module&&X.env.locals != X.env.globals))=false:=by rw [I.ok.kind];rfl
 have hiσ:i<Z.length:=by rw [I.len];exact (Ob.mp hi).1
 have cne:=I.cne;have tracked:∀ {a:Addr}{h':Heap},(∃ o,s.heap.get? a=some o/\H a=none)->Heap.SameBut a s.heap h'->HOk X.prog X.w H h':=fun {a h'} ha hs b ob e=>by
   obtain ⟨_,_,hfree⟩:=ha;refine (I.hok b ob e).stay (fun c w' hc q=>(hs.2 c ?_).trans q) (fun _ q=>q) fun _ _ q=>q;rintro rfl;rcases hc with rfl|hc
   . rw [hfree] at e;cases e
   . rw [hfree] at hc;cases hc
 rcases hx with hk|hk
 . refine wpAny_storeName_local hk hn (fun h' hn' hs=>?_) hcls;obtain ⟨oL,_,_,hoL,_⟩:=id hn;refine h _ ⟨I.ok,I.os,I.bare,⟨fun b o e n hb hx=>?_,fun b o e n hb hx=>?_,I.base.free,fun b o e hx=>?_,I.base.tups,I.base.frzs,I.base.tbls⟩,⟨_,hn',fun j y v' e1 e2 e3=>?_⟩,fun y c e=>?_,I.free,I.freeC,fun p hp=>?_,tracked ⟨oL,hoL,I.free⟩ hs,by simpa using I.len⟩ ⟨_,hs,.inl rfl⟩
   . exact (hs.2 b (Ou (Ot (Heap.lt_size e) I.ok.above))).trans (I.base.keep b o e n hb hx)
   . obtain ⟨sl,e1⟩:=I.base.slot b o e n hb hx;exact ⟨sl,(hs.2 b (Ou (Ot (Heap.lt_size e) I.ok.above))).trans e1⟩
   . obtain ⟨o',e1⟩:=I.base.there b o e hx;exact ⟨o',(hs.2 b (Ou (Ot (Heap.lt_size e) I.ok.above))).trans e1⟩
   . by_cases hj:j=i
     . subst hj;rw [hi] at e1;cases e1;rw [Ol hiσ] at e2;cases e2;exact ⟨u,r,.inl ⟨hk,by simp⟩⟩
     . rw [Oc (Ne.symm hj)] at e2;obtain ⟨u',r',q⟩:=hl j y v' e1 e2 e3;refine ⟨u',r',?_⟩;rcases q with ⟨k,e⟩|⟨k,c,e,z⟩
       . refine .inl ⟨k,?_⟩;have:y≠x:=fun e=>hj (ZfZ hN e1 (e ▸ hi));simp [this,e]
       . exact .inr ⟨k,c,e,z.sameBut hs (cne y c e)⟩
   . obtain ⟨w',z⟩:=I.cell y c e;exact ⟨w',z.sameBut hs (cne y c e)⟩
   . obtain ⟨e,n,ne,nf,d⟩:=I.pin p hp;exact ⟨(hs.2 p.1 ne).trans e,n,ne,nf,d⟩
 . have hfn:X.fn x=true:=by
     rcases hf with z|z
     . exact z
     . rw [z] at hk;cases hk
   obtain ⟨c,hc⟩:=I.ok.has x (.inl hk);obtain ⟨w',z⟩:=I.cell x c hc;refine wpAny_storeName_cell I.ok.kind hk hc z (fun h' hc' hs=>?_);obtain ⟨oc,hoc,hocd⟩:=id z;refine h {s with heap:=h'} ⟨I.ok,I.os,I.bare,⟨fun b o e n hb hx=>?_,fun b o e n hb hx=>?_,I.base.free,fun b o e hx=>?_,I.base.tups,I.base.frzs,I.base.tbls⟩,⟨m,hn.sameBut hs (Ne.symm (cne x c hc)),fun j y v' e1 e2 e3=>?_⟩,fun y c' e=>?_,I.free,I.freeC,fun p hp=>?_,tracked ⟨oc,hoc,I.freeC x c hc⟩ hs,by simpa using I.len⟩ ⟨c,hs,.inr hc⟩
   . exact (hs.2 b (Ou (Ot (Heap.lt_size e) (I.ok.cab x c hfn hc)))).trans (I.base.keep b o e n hb hx)
   . obtain ⟨sl,e1⟩:=I.base.slot b o e n hb hx;exact ⟨sl,(hs.2 b (Ou (Ot (Heap.lt_size e) (I.ok.cab x c hfn hc)))).trans e1⟩
   . obtain ⟨o',e1⟩:=I.base.there b o e hx;exact ⟨o',(hs.2 b (Ou (Ot (Heap.lt_size e) (I.ok.cab x c hfn hc)))).trans e1⟩
   . by_cases hj:j=i
     . subst hj;rw [hi] at e1;cases e1;rw [Ol hiσ] at e2;cases e2;exact ⟨u,r,.inr ⟨.inl hk,c,hc,hc'⟩⟩
     . rw [Oc (Ne.symm hj)] at e2;obtain ⟨u',r',q⟩:=hl j y v' e1 e2 e3;refine ⟨u',r',?_⟩;rcases q with q|⟨k,c',e,z'⟩
       . exact .inl q
       . refine .inr ⟨k,c',e,z'.sameBut hs ?_⟩;rintro rfl;exact hj (ZfZ hN e1 (I.ok.inj _ _ _ e hc ▸ hi))
   . by_cases hcc:c'=c
     . subst hcc;exact ⟨_,hc'⟩
     . obtain ⟨w2,z2⟩:=I.cell y c' e;exact ⟨w2,z2.sameBut hs hcc⟩
   . obtain ⟨e,n,ne,nf,d⟩:=I.pin p hp;refine ⟨(hs.2 p.1 ?_).trans e,n,ne,nf,d⟩;intro q;rw [q,hoc] at e;have q':oc=p.2:=Option.some.inj e;exact d w' (by rw [<- q'];exact hocd)
theorem Zdl(I:Inv X pins Z H s)(hN:X.N.Nodup)(hi:X.N[i]? = some x)(hx:Loc X.env.scope x)(r:RelV v u)
   (h:∀ s',Inv X pins (Z.set i (some v)) H s'->Q () s') (hf:X.fn x=true\/X.env.scope.names.lookup x=some .local:=by first|exact .inl rfl|exact .inr rfl|assumption):wpAny M A (storeName X.env x u) Q E s :=
 Zes I hN hi hx r (fun s' I' _=>h s' I') hf
theorem Inv.call'(I:Inv X pins Z H s)(ho:s'.os=s.os)(u:Un (frs X.stack) ch H H' s.heap s'.heap)(hok:HOk X.prog X.w H' s'.heap)(hg:AllBare s'.gens)
   (hch:∀ b∈ch,(b∈X.ex\/X.s₀.heap.objs.size<=b)/\b≠X.env.locals/\(∀ x c,X.env.cells.lookup x=some c->c≠b)/\∀ p∈X.pn++pins,p.1≠b):Inv X pins Z H' s':=by
 obtain ⟨h',g',d',t',o'⟩:=s';have e:o'=s.os:=ho;subst e;exact I.call (g':=g') (t':=t') (d':=d') u hok hg hch
end
noncomputable abbrev XK:=Value->Option Addr->Hp->Prop
noncomputable abbrev St:=List (Option V)
noncomputable abbrev VK:=V->Hp->Prop
noncomputable abbrev TE:=St->Hp->VK->Prop
noncomputable abbrev TT:=St->Hp->(Bool->Hp->Prop)->Prop
noncomputable abbrev TA:=St->Hp->(List V->Hp->Prop)->Prop
structure Ends where
 nx:St->Hp->Prop
 rt:VK
 bk:St->Hp->Prop:=fun _ _=>False
 ct:St->Hp->Prop:=fun _ _=>False
noncomputable abbrev TS:=Ends->St->Hp->Prop
noncomputable def EP(X:Cx)(pins:List (Addr×Obj))(Z:St)(Q:VK)(u:Value)(s':Shared):Prop:=∃ v H',Inv X pins Z H' s'/\RelV v u/\Q v H'
noncomputable def TP(X:Cx)(pins:List (Addr×Obj))(Z:St)(Q:Bool->Hp->Prop)(b:Bool)(s':Shared):Prop:=∃ H',Inv X pins Z H' s'/\Q b H'
noncomputable def AP(X:Cx)(pins:List (Addr×Obj))(Z:St)(Q:List V->Hp->Prop)(us:List Value)(s':Shared):Prop:=∃ vs H',Inv X pins Z H' s'/\Zd vs us/\Q vs H'
noncomputable def SP(X:Cx)(pins:List (Addr×Obj))(D:Ends)(f:Flow)(s':Shared):Prop :=
 match f with
 | .next=>∃ σ' H',Inv X pins σ' H' s'/\D.nx σ' H'
 | .brk=>∃ σ' H',Inv X pins σ' H' s'/\D.bk σ' H'
 | .cont=>∃ σ' H',Inv X pins σ' H' s'/\D.ct σ' H'
 | .ret u=>∃ v σ' H',Inv X pins σ' H' s'/\RelV v u/\D.rt v H'
noncomputable def PE(X:Cx)(e:Expr)(t:TE):Prop :=
 ∀ (pins:List (Addr×Obj)) (s:Shared) (Z:St) (H:Hp) (Q:VK),Inv X pins Z H s->t Z H Q->wpAny (model X.prog X.w) X.A (eval e X.env) (EP X pins Z Q) X.xe s
noncomputable def PT(X:Cx)(e:Expr)(t:TT):Prop :=
 ∀ (pins:List (Addr×Obj)) (s:Shared) (Z:St) (H:Hp) (Q:Bool->Hp->Prop),Inv X pins Z H s->t Z H Q->wpAny (model X.prog X.w) X.A (isTrue e X.env (eval e X.env)) (TP X pins Z Q) X.xe s
noncomputable def PW(X:Cx)(e:Expr)(t:TT):Prop :=
 ∀ (whole:Sem Value) (pins:List (Addr×Obj)) (s:Shared) (Z:St) (H:Hp) (Q:Bool->Hp->Prop),Inv X pins Z H s->t Z H Q->wpAny (model X.prog X.w) X.A (isTrue e X.env whole) (TP X pins Z Q) X.xe s
theorem PW.pt(h:PW X e t):PT X e t:=h _
noncomputable def PA(X:Cx)(es:List Expr)(t:TA):Prop :=
 ∀ (pos:Pos) (pins:List (Addr×Obj)) (s:Shared) (Z:St) (H:Hp) (Q:List V->Hp->Prop),Inv X pins Z H s->t Z H Q->wpAny (model X.prog X.w) X.A (spliced (backTo pos (starEach es X.env))) (AP X pins Z Q) X.xe s
noncomputable def PS(X:Cx)(st:Stmt)(t:TS):Prop :=
 ∀ (pins:List (Addr×Obj)) (s:Shared) (Z:St) (H:Hp) (D:Ends),Inv X pins Z H s->t D Z H->wpAny (model X.prog X.w) X.A (exec st X.env) (SP X pins D) X.xe s
noncomputable def PSs(X:Cx)(st:List Stmt)(t:TS):Prop :=
 ∀ (pins:List (Addr×Obj)) (s:Shared) (Z:St) (H:Hp) (D:Ends),Inv X pins Z H s->t D Z H->wpAny (model X.prog X.w) X.A (execs st X.env) (SP X pins D) X.xe s
theorem thn(h:wpAny M A t Q E s)(hQ:∀ a s,Q a s->Q' a s):wpAny M A t Q' E s:=wpAny_mono h hQ fun _ _ x=>x
end L2
namespace L2
open PySem PySem.Spec PyProof.Rows
section
variable {X:Cx}
noncomputable def Zp9(i:Nat):TE:=fun Z H Q=>∃ v,Z[i]? = some (some v)/\Q v H
noncomputable def tC(v:V):TE:=fun _ H Q=>Q v H
theorem Zm8 (hN:X.N[i]? = some x) (hv:Vis X.env.scope x) (hd:(x==("__debug__" : Str))=false:=by decide) (hcd:(x==("__classdict__" : Str))=false:=by decide):PE X (.Name x pos) (Zp9 i):=by
 intro pins s Z H Q I h;obtain ⟨v,e,h⟩:=h;obtain ⟨m,hn,hl⟩:=I.loc;obtain ⟨u,r,l⟩:=hl i x v hN e hv;have fin:EP X pins Z Q u s:=⟨v,H,I,r,h⟩
 rcases l with ⟨hk,hm⟩|⟨hk,c,hc,hcell⟩
 . exact wpAny_Name (wpAny_loadName_local I.ok.kind hk hn hm fin) hd
 . rcases hk with hk|hk
   . exact wpAny_Name (wpAny_loadName_cell I.ok.kind hk hc hcell fin) hd
   . exact wpAny_Name (wpAny_loadName_free I.ok.kind hk hc hcell fin hcd) hd
theorem Zne{i j pos}:PE X (.Constant (.int i) j pos) (tC (.int i)):=fun _ _ _ H _ I h=>wpAny_Constant_int ⟨.int i,H,I.tok _,⟨_,rfl⟩,h⟩
theorem ZoY{b j pos}:PE X (.Constant (.bool b) j pos) (tC (.bl b)):=fun _ _ _ H _ I h=>Constant_bool ⟨.bl b,H,I,rfl,h⟩
theorem Znc{j pos}:PE X (.Constant .none j pos) (tC .non):=fun _ _ _ H _ I h=>Constant_none ⟨.non,H,I,rfl,h⟩
theorem Zna{x j pos}:PE X (.Constant (.str x) j pos) (tC (.str x)):=fun _ _ _ H _ I h=>Calls.Constant_str ⟨.str x,H,I.tok _,⟨_,rfl⟩,h⟩
noncomputable def Gl(X:Cx)(x:Str):Prop:=X.env.kindOf x=some .globalImplicit
theorem Zhz(I:Inv X pins Z H s)(hg:Gl X x)(hm:X.mg x=some u)(h:Q u s)
   (hd:(x==("__debug__" : Str))=false:=by decide):wpAny (model X.prog X.w) X.A (eval (.Name x pos) X.env) Q E s :=
 Calls.Name_function_global I.ok.kind hg (Calls.loadGlobal_global (by rw [I.ok.glob];exact I.mod.glob.keeps I.bk) hm h) hd
theorem ZaO(I:Inv X pins Z H s)(hg:Gl X x)(hm:X.mg x=none)(hv:bootBuiltins x=some u)(h:Q u s)
   (hn:x ≠ "__name__" := by decide) (hd:(x==("__debug__" : Str))=false:=by decide):wpAny (model X.prog X.w) X.A (eval (.Name x pos) X.env) Q E s:=by
 obtain ⟨mb,h1,h2⟩:=I.mod.blt;exact Calls.Name_function_global I.ok.kind hg (Calls.loadGlobal_builtin (by rw [I.ok.glob];exact I.mod.glob.keeps I.bk) hm (by rw [I.ok.blt];exact h1.keeps I.bk) ((h2 x hn).trans hv) h) hd
theorem ZkZ (hg:Gl X x) (hm:X.mg x=some u) (r:RelV v u) (hd:(x==("__debug__" : Str))=false:=by decide):PE X (.Name x pos) (tC v) :=
 fun _ _ _ H _ I h=>Zhz I hg hm ⟨v,H,I,r,h⟩ hd
theorem Zk4 (hg:Gl X x) (hm:X.mg x=none) (hv:bootBuiltins x=some u) (r:RelV v u) (hn:x ≠ "__name__" := by decide) (hd:(x==("__debug__" : Str))=false:=by decide):PE X (.Name x pos) (tC v) :=
 fun _ _ _ H _ I h=>ZaO I hg hm hv ⟨v,H,I,r,h⟩ hn hd
variable {a b:Expr}{ta tb:TE}{pos:Pos}
variable {tA tB':TT}{rest:List Expr}
noncomputable def Zqm(t u:TT):TT:=fun Z H Q=>t Z H fun c H1=>if c=true then u Z H1 Q else Q false H1
noncomputable def tOr(t u:TT):TT:=fun Z H Q=>t Z H fun c H1=>if c=true then Q true H1 else u Z H1 Q
noncomputable def Zqe(t:TT):TT:=fun Z H Q=>t Z H fun c H1=>Q (!c) H1
theorem ZkJ(ha:PT X a tA):PW X (.BoolOp .And [a] pos) tA:=by
 intro wh pins s Z H Q I h;refine isTrue_and (thn (ha pins s Z H Q I h) fun c s1 e=>?_);cases c with
 | true=>exact isTrue_and_nil e
 | false=>exact e
theorem ZmY(ha:PT X a tA):PW X (.BoolOp .Or [a] pos) tA:=by
 intro wh pins s Z H Q I h;refine isTrue_or (thn (ha pins s Z H Q I h) fun c s1 e=>?_);cases c with
 | false=>exact isTrue_or_nil e
 | true=>exact e
theorem ZmZ(ha:PT X a tA)(hb:PW X (.BoolOp .And (b::rest) pos) tB'):PW X (.BoolOp .And (a::b::rest) pos) (Zqm tA tB'):=by
 intro wh pins s Z H Q I h;refine isTrue_and (thn (ha pins s Z H _ I h) fun c s1 ⟨H1,I1,q1⟩=>?_);cases c with
 | true=>exact hb wh pins s1 Z H1 Q I1 q1
 | false=>exact ⟨H1,I1,q1⟩
theorem ZoN(ha:PT X a tA)(hb:PW X (.BoolOp .Or (b::rest) pos) tB'):PW X (.BoolOp .Or (a::b::rest) pos) (tOr tA tB'):=by
 intro wh pins s Z H Q I h;refine isTrue_or (thn (ha pins s Z H _ I h) fun c s1 ⟨H1,I1,q1⟩=>?_);cases c with
 | true=>exact ⟨H1,I1,q1⟩
 | false=>exact hb wh pins s1 Z H1 Q I1 q1
theorem Zm1(ha:PT X a tA):PT X (.UnaryOp .Not a pos) (Zqe tA):=by
 intro pins s Z H Q I h;exact isTrue_not (ha pins s Z H (fun c H1=>Q (!c) H1) I h)
noncomputable def ZoC(ta tb:TE):TE:=fun Z H Q=>ta Z H fun x H1=>∃ c,x=.bl c/\if c=true then tb Z H1 Q else Q (.bl false) H1
noncomputable def Zqd(ta tb:TE):TE:=fun Z H Q=>ta Z H fun x H1=>∃ c,x=.bl c/\if c=true then Q (.bl true) H1 else tb Z H1 Q
noncomputable def Zov(ta:TE):TE:=fun Z H Q=>ta Z H fun x H1=>∃ c,x=.bl c/\Q (.bl (!c)) H1
theorem Zjt{op}(h:PE X a t):PE X (.BoolOp op [a] pos) t:=fun pins s Z H Q I hw=>BoolOp_one (h pins s Z H Q I hw)
theorem Zni(ha:PE X a ta)(hb:PE X (.BoolOp .And (b::rest) pos) tb):PE X (.BoolOp .And (a::b::rest) pos) (ZoC ta tb):=by
 intro pins s Z H Q I h;refine BoolOp_and (thn (ha pins s Z H _ I h) fun v s1 ⟨x,H1,I1,r1,q1⟩=>?_);obtain ⟨c,rfl,q1⟩:=q1;cases r1;refine wpAny_truthy_bool ?_;cases c with
 | true=>exact hb pins s1 Z H1 Q I1 q1
 | false=>exact ⟨.bl false,H1,I1,rfl,q1⟩
theorem ZoU(ha:PE X a ta)(hb:PE X (.BoolOp .Or (b::rest) pos) tb):PE X (.BoolOp .Or (a::b::rest) pos) (Zqd ta tb):=by
 intro pins s Z H Q I h;refine BoolOp_or (thn (ha pins s Z H _ I h) fun v s1 ⟨x,H1,I1,r1,q1⟩=>?_);obtain ⟨c,rfl,q1⟩:=q1;cases r1;refine wpAny_truthy_bool ?_;cases c with
 | false=>exact hb pins s1 Z H1 Q I1 q1
 | true=>exact ⟨.bl true,H1,I1,rfl,q1⟩
theorem Znb(ha:PE X a ta):PE X (.UnaryOp .Not a pos) (Zov ta):=by
 intro pins s Z H Q I h;refine UnaryOp_ (thn (ha pins s Z H _ I h) fun v s1 ⟨x,H1,I1,r1,q1⟩=>?_);obtain ⟨c,rfl,q1⟩:=q1;cases r1;exact not_of (wpAny_truthy_bool ⟨.bl (!c),H1,I1,rfl,q1⟩)
noncomputable def tIf(t:TT)(ta tb:TE):TE:=fun Z H Q=>t Z H fun c H1=>if c=true then ta Z H1 Q else tb Z H1 Q
theorem Zjv(hc:PT X c tA)(ha:PE X a ta)(hb:PE X b tb):PE X (.IfExp c a b pos) (tIf tA ta tb):=by
 intro pins s Z H Q I h;refine wpAny_IfExp (thn (hc pins s Z H _ I h) fun d s1 ⟨H1,I1,q1⟩=>?_);cases d with
 | true=>exact ha pins s1 Z H1 Q I1 q1
 | false=>exact hb pins s1 Z H1 Q I1 q1
end
end L2
namespace L2
open PySem PySem.Spec PyProof.Rows
noncomputable def SqL(K:PySem.W.Frag)(H:Hp)(a:Addr)(xs:List V):Prop :=
 Rd H a (.lst xs) \/
   ∃ (o:Obj) (its:Array Value) (n:Nat),K.lookup a=some o/\o.cls=.type "list" /\ o.dict=none/\o.data=.seq its n/\its.size<=sizeLine/\Zd xs its.toList
noncomputable def SqT(K:PySem.W.Frag)(H:Hp)(a:Addr)(xs:List V):Prop :=
 Rd H a (.tup xs) \/
   ∃ (o:Obj) (its:Array Value) (n:Nat),K.lookup a=some o/\o.cls=.type "tuple" /\ o.data=.seq its n/\its.size<=sizeLine/\Zd xs its.toList
noncomputable def Zrf:Value->Option V
 | .none=>some .non
 | .bool b=>some (.bl b)
 | .int i _=>some (.int i)
 | .str x _=>some (.str x)
 | .bytes b _=>some (.byt b)
 | .float b _=>some (.flt b)
 | .ref a=>some (.ref a)
 | .type n=>some (.ty n)
 | _=>none
theorem RelV.abs(r:RelV x u):Zrf u=some x:=by
 cases x with
 | non=>cases r;rfl
 | bl _=>cases r;rfl
 | int _=>obtain ⟨t,rfl⟩:=r;rfl
 | str _=>obtain ⟨t,rfl⟩:=r;rfl
 | byt _=>obtain ⟨t,rfl⟩:=r;rfl
 | flt _=>obtain ⟨t,rfl⟩:=r;rfl
 | ref _=>cases r;rfl
 | ty _=>cases r;rfl
theorem RelV.inj(r:RelV x u)(q:RelV y u):x=y:=Option.some.inj (r.abs.symm.trans q.abs)
theorem Zd.inj:∀ {xs ys:List V}{us:List Value},Zd xs us->Zd ys us->xs=ys
 | _,_,_,.nil,.nil=>rfl
 | _,_,_,.cons r t,.cons r' t'=>by rw [r.inj r',Zd.inj t t']
section
variable {X:Cx}{pins:List (Addr×Obj)}{Z:St}{H:Hp}{s:Shared}{a:Addr}{xs ys:List V}
theorem SqL.of{K:PySem.W.Frag}(h:H a=some (.lst xs)):SqL K H a xs:=.inl (.inl h)
theorem Inv.list(I:Inv X pins Z H s)(h:SqL X.K H a xs):∃ its:List Value,Zd xs its/\PlainL s.heap a its.toArray/\xs.length<=sizeLine:=by
 rcases h with h|⟨o,its,n,hk,hc,hd,hs,hz,r⟩
 . obtain ⟨z,its,n,r,e⟩:=h.ok I.hok;exact ⟨its,r,⟨_,n,e,rfl,rfl,rfl⟩,z⟩
 . refine ⟨its.toList,r,⟨o,n,I.kIn a o hk,hc,hd,by simpa using hs⟩,?_⟩;have e:=r.length;simp only [Array.length_toList] at e
   lia
theorem Inv.tuple(I:Inv X pins Z H s)(h:SqT X.K H a xs):∃ its:List Value,Zd xs its/\IsTup s.heap a its.toArray/\xs.length<=sizeLine:=by
 rcases h with h|⟨o,its,n,hk,hc,hs,hz,r⟩
 . obtain ⟨z,its,r,p⟩:=h.ok I.hok;exact ⟨its,r,p.tup,z⟩
 . refine ⟨its.toList,r,⟨o,I.kIn a o hk,hc,n,by simpa using hs⟩,?_⟩;have e:=r.length;simp only [Array.length_toList] at e
   lia
theorem Inv.list_inj(I:Inv X pins Z H s)(h:SqL X.K H a xs)(h':SqL X.K H a ys):xs=ys:=by
 obtain ⟨its,r,⟨o,n,e,_,_,d⟩,_⟩:=I.list h;obtain ⟨its',r',⟨o',n',e',_,_,d'⟩,_⟩:=I.list h';rw [e] at e';cases e';rw [d] at d';injection d' with d1 _;have:its=its':=by simpa using congrArg Array.toList d1
 subst this;exact r.inj r'
theorem Inv.tuple_inj(I:Inv X pins Z H s)(h:SqT X.K H a xs)(h':SqT X.K H a ys):xs=ys:=by
 obtain ⟨its,r,⟨o,e,_,n,d⟩,_⟩:=I.tuple h;obtain ⟨its',r',⟨o',e',_,n',d'⟩,_⟩:=I.tuple h';rw [e] at e';cases e';rw [d] at d';injection d' with d1 _;have:its=its':=by simpa using congrArg Array.toList d1
 subst this;exact r.inj r'
end
section
variable {X:Cx}{st:Stmt}{rest:List Stmt}{t u:TS}{e:Expr}{te:TE}{pos:Pos}
noncomputable def Zma:TS:=fun D Z H=>D.nx Z H
noncomputable def Zqb(t u:TS):TS:=fun D Z H=>t {D with nx:=u D} Z H
theorem ZkM:PSs X [] Zma:=fun _ _ Z H _ I h=>wpAny_execs_nil ⟨Z,H,I,h⟩
theorem Zji(h1:PS X st t)(h2:PSs X rest u):PSs X (st::rest) (Zqb t u):=by
 intro pins s Z H D I h;refine wpAny_execs_cons (thn (h1 pins s Z H {D with nx:=u D} I h) fun f s1 q=>?_);cases f with
 | next =>
   obtain ⟨σ',H',I',q⟩:=q;exact h2 pins s1 σ' H' D I' q
 | ret v=>exact q
 | brk=>exact q
 | cont=>exact q
noncomputable def ZmR:TS:=fun D Z H=>D.bk Z H
noncomputable def Zoz:TS:=fun D Z H=>D.ct Z H
theorem ZkN:PS X (.Pass pos) Zma:=fun _ _ Z H _ I h=>wpAny_Pass ⟨Z,H,I,h⟩
theorem Zjl:PS X (.Break pos) ZmR:=fun _ _ Z H _ I h=>wpAny_Break ⟨Z,H,I,h⟩
theorem ZfR:PS X (.Continue pos) Zoz:=fun _ _ Z H _ I h=>wpAny_Continue ⟨Z,H,I,h⟩
theorem Inv.quiet(I:Inv X pins Z H s):interactive X.env=false:=by simp [interactive,I.ok.kind]
noncomputable def Zox(te:TE):TS:=fun D Z H=>te Z H fun _ H1=>D.nx Z H1
theorem ZkO(he:PE X e te)(hs:swapsWith e none pos.line X.env=pure false:=by rfl):PS X (.Expr e pos) (Zox te):=by
 intro pins s Z H D I h;exact wpAny_Expr_any (thn (he pins s Z H _ I h) fun v s1 ⟨x,H1,I1,r1,q1⟩=>⟨Z,H1,I1,q1⟩) I.quiet hs
noncomputable def Zqc(te:TE):TS:=fun D Z H=>te Z H D.rt
theorem Zm2(he:PE X e te):PS X (.Return (some e) pos) (Zqc te):=by
 intro pins s Z H D I h;exact wpAny_Return_some (thn (he pins s Z H _ I h) fun v s1 ⟨x,H1,I1,r1,q1⟩=>⟨x,Z,H1,I1,r1,q1⟩)
noncomputable def Zqg(c:TT)(t u:TS):TS:=fun D Z H=>c Z H fun b H1=>if b=true then t D Z H1 else u D Z H1
theorem ZoS(hc:PT X c tc)(ha:PSs X a t)(hb:PSs X b u):PS X (.If c a b pos) (Zqg tc t u):=by
 intro pins s Z H D I h;refine wpAny_If (thn (hc pins s Z H _ I h) fun d s1 ⟨H1,I1,q1⟩=>?_);cases d with
 | true=>exact ha pins s1 Z H1 D I1 q1
 | false=>exact hb pins s1 Z H1 D I1 q1
end
noncomputable abbrev TG:=V->St->Hp->(St->Hp->Prop)->Prop
noncomputable abbrev TGs:=List V->St->Hp->(St->Hp->Prop)->Prop
noncomputable def PG(X:Cx)(target:Expr)(t:TG):Prop :=
 ∀ (pins:List (Addr×Obj)) (s:Shared) (Z:St) (H:Hp) (v:V) (u:Value) (Q:St->Hp->Prop),Inv X pins Z H s->RelV v u->t v Z H Q ->
   wpAny (model X.prog X.w) X.A (assign target X.env u) (fun _ s'=>∃ σ' H',Inv X pins σ' H' s'/\Q σ' H') X.xe s
noncomputable def PGs(X:Cx)(ts:List Expr)(t:TGs):Prop :=
 ∀ (pins:List (Addr×Obj)) (s:Shared) (Z:St) (H:Hp) (vs:List V) (us:List Value) (Q:St->Hp->Prop),Inv X pins Z H s->Zd vs us->t vs Z H Q ->
   wpAny (model X.prog X.w) X.A (assignInOrder ((assignEach ts X.env).map (·.2)) us) (fun _ s'=>∃ σ' H',Inv X pins σ' H' s'/\Q σ' H') X.xe s
noncomputable abbrev Zl5:=V->V->V->Hp->(Hp->Prop)->Prop
noncomputable def Zl6(X:Cx)(t:Zl5):Prop :=
 ∀ (pins:List (Addr×Obj)) (s:Shared) (Z:St) (H:Hp) (o i v:V) (ov iv u:Value) (Q:Hp->Prop),Inv X pins Z H s->RelV o ov->RelV i iv->RelV v u->t o i v H Q ->
   wpAny (model X.prog X.w) X.A (setItem ov iv u) (fun _ s'=>∃ H',Inv X pins Z H' s'/\Q H') X.xe s
noncomputable abbrev TIp:=V->V->Hp->VK->Prop
noncomputable def PIp(X:Cx)(op:Operator)(t:TIp):Prop :=
 ∀ (pins:List (Addr×Obj)) (s:Shared) (Z:St) (H:Hp) (x y:V) (v u:Value) (Q:VK),Inv X pins Z H s->RelV x v->RelV y u->t x y H Q ->
   wpAny (model X.prog X.w) X.A (inplaceOp op v u) (EP X pins Z Q) X.xe s
section
variable {X:Cx}{pos:Pos}
noncomputable def ZaE(i:Nat):TG:=fun v Z H Q=>Q (Z.set i (some v)) H
theorem Zhs(hN:X.N.Nodup)(hi:X.N[i]? = some x)(hx:Loc X.env.scope x)(hf:X.fn x=true\/X.env.scope.names.lookup x=some .local:=by first|exact .inl rfl|exact .inr rfl|assumption):PG X (.Name x pos) (ZaE i):=by
 intro pins s Z H v u Q I r h;exact wpAny_assign_Name (Zdl I hN hi hx r (fun s' I'=>⟨_,H,I',h⟩) hf)
noncomputable def Zlz:TGs:=fun vs Z H Q=>vs=[]/\Q Z H
noncomputable def Zga(t:TG)(u:TGs):TGs:=fun vs Z H Q=>∃ v r,vs=v::r/\t v Z H fun σ' H'=>u r σ' H' Q
theorem Zhq:PGs X [] Zlz:=by
 intro pins s Z H vs us Q I r h;obtain ⟨e,h⟩:=h;subst e;cases r;exact assignInOrder_nil ⟨Z,H,I,h⟩
theorem Zdt(h1:PG X e t)(h2:PGs X es u)
   (hs:(assignEach (e::es) X.env).map (·.2)=assign e X.env::(assignEach es X.env).map (·.2):=by rfl):PGs X (e::es) (Zga t u):=by
 intro pins s Z H vs us Q I r h;obtain ⟨v,vr,e1,h⟩:=h;subst e1;cases r with
 | cons r rr =>
   rw [hs];refine assignInOrder_cons (thn (h1 pins s Z H _ _ _ I r h) fun _ s1 ⟨σ1,H1,I1,q1⟩=>?_);exact h2 pins s1 σ1 H1 _ _ Q I1 rr q1
noncomputable def Zly(K:PySem.W.Frag)(n:Nat)(t:TGs):TG:=fun v Z H Q=>∃ a xs,v=.ref a/\SqT K H a xs/\xs.length=n/\t xs Z H Q
theorem Zjq(hc:X.calm=true)(h:PGs X es t)
   (hn:(assignEach es X.env).length=n:=by rfl) (hst:(assignEach es X.env).findIdx? (·.1)=none:=by rfl):PG X (.Tuple es k pos) (Zly X.K n t):=by
 intro pins s Z H v u Q I r hw;obtain ⟨a,xs,e1,hq,hl,hw⟩:=hw;subst e1;cases r;obtain ⟨its,rv,ht,hz⟩:=I.tuple hq;refine assign_Tuple_tuple (I.ok.hd hc) ht (by simp [hn,<- hl,rv.length]) hst fun h' hx=>?_;have I1:Inv X pins Z H {s with heap:=h'}:=I.kept (t':=s.toks) fun b o e=>hx b o (Ou (Heap.lt_size e)) e;exact h pins _ Z H xs _ Q I1 (by simpa using rv) hw
noncomputable def ZqP(to ti:TE)(t:Zl5):TG:=fun v Z H Q=>to Z H fun o H1=>ti Z H1 fun i H2=>t o i v H2 fun H3=>Q Z H3
theorem Zm7(ho:PE X o to)(hi:PE X i ti)(hs:Zl6 X t)
   (ha:∀ v,assign (.Subscript o i pos) X.env v=(do
     let ov <- holding [v] (eval o X.env);let iv <- holding [v,ov] (eval i X.env)
     standAt pos
     holding [v,ov,iv] (setItem ov iv v)
     release [v,ov,iv] []):=by intro _;rfl):PG X (.Subscript o i pos) (ZqP to ti t):=by
 intro pins s Z H v u Q I r h;rw [ha];refine wpAny_bind (wpAny_holding (thn (ho pins s Z H _ I h) fun ov s1 ⟨x,H1,I1,r1,q1⟩=>?_));refine wpAny_bind (wpAny_holding (thn (hi pins s1 Z H1 _ I1 q1) fun iv s2 ⟨y,H2,I2,r2,q2⟩=>?_));refine wpAny_bind (wpAny_standAt (wpAny_bind (wpAny_holding (thn (hs pins s2 Z H2 x y v ov iv u _ I2 r1 r2 r q2) fun _ s3 ⟨H3,I3,q3⟩=>?_))));exact wpAny_release ⟨Z,H3,I3,q3⟩
noncomputable def Zgy(te:TE)(g:TG):TS:=fun D Z H=>te Z H fun x H1=>g x Z H1 D.nx
theorem Zjm(he:PE X e te)(hg:PG X tg g)(hs:swapsWithSole [tg] e pos.line X.env=pure false:=by rfl)(hw:swappedStores [tg] e X.env=pure none:=by rfl)
   (h1:(assignEach [tg] X.env).map (·.2)=[assign tg X.env]:=by rfl):PS X (.Assign [tg] e pos) (Zgy te g):=by
 intro pins s Z H D I h;refine wpAny_Assign_stores (thn (he pins s Z H _ I h) fun v s1 ⟨x,H1,I1,r1,q1⟩=>?_) hs hw;rw [h1];exact thn (hg pins s1 Z H1 x v _ I1 r1 q1) fun _ s2 q=>q
theorem Zjk(hN:X.N.Nodup)(hi:X.N[i]? = some x)(hx:Loc X.env.scope x)(he:PE X e te)(hs:swapsWith e (some (.Name x pos')) pos.line X.env=pure false:=by rfl)(hf:X.fn x=true\/X.env.scope.names.lookup x=some .local:=by first|exact .inl rfl|exact .inr rfl|assumption) :
   PS X (.Assign [.Name x pos'] e pos) (Zgy te (ZaE i)):=by
 intro pins s Z H D I h;refine wpAny_Assign_Name (thn (he pins s Z H _ I h) fun v s1 ⟨y,H1,I1,r1,q1⟩=>?_) hs;exact Zdl I1 hN hi hx r1 (fun s2 I2=>⟨_,H1,I2,q1⟩) hf
noncomputable def Zql(i:Nat)(te:TE)(ti:TIp):TS:=fun D Z H=>∃ x,Z[i]? = some (some x)/\te Z H fun y H1=>ti x y H1 fun z H2=>D.nx (Z.set i (some z)) H2
theorem Zm4(hN:X.N.Nodup)(hi:X.N[i]? = some x)(hx:Loc X.env.scope x)(he:PE X e te)(ho:PIp X op ti)(hf:X.fn x=true\/X.env.scope.names.lookup x=some .local:=by first|exact .inl rfl|exact .inr rfl|assumption) :
   PS X (.AugAssign (.Name x pos') op e pos) (Zql i te ti):=by
 intro pins s Z H D I h;obtain ⟨v,e1,h⟩:=h;obtain ⟨m,hn,hl⟩:=I.loc;have vis:Vis X.env.scope x:=by rcases hx with k|k;exact .inl k;exact .inr (.inl k)
 obtain ⟨u,r,l⟩:=hl i x v hi e1 vis;refine wpAny_AugAssign_Name ?_;have go:wpAny (model X.prog X.w) X.A (eval e X.env) (fun w s₂=>wpAny (model X.prog X.w) X.A (inplaceOp op u w) (fun r s₃=>wpAny (model X.prog X.w) X.A (storeName X.env x r) (fun _=>SP X pins D .next) X.xe s₃) X.xe s₂) X.xe s:=by
   refine thn (he pins s Z H _ I h) fun w s1 ⟨y,H1,I1,r1,q1⟩=>?_;refine thn (ho pins s1 Z H1 v y u w _ I1 r r1 q1) fun z s2 ⟨zv,H2,I2,r2,q2⟩=>?_;exact Zdl I2 hN hi hx r2 (fun s3 I3=>⟨_,H2,I3,q2⟩) hf
 rcases l with ⟨hk,hm⟩|⟨hk,c,hc,hcell⟩
 . exact wpAny_loadName_local I.ok.kind hk hn hm go
 . rcases hk with hk|hk
   . exact wpAny_loadName_cell I.ok.kind hk hc hcell go
   . rcases hx with k|k
     . have:X.env.scope.names.lookup x=some .free:=hk;rw [k] at this;cases this
     . have:X.env.scope.names.lookup x=some .free:=hk;rw [k] at this;cases this
noncomputable def ipI(f:Int->Int->Int):TIp:=fun x y H Q=>∃ i j,x=.int i/\y=.int j/\Q (.int (f i j)) H
theorem ZnP:PIp X .Add (ipI fun i j=>i+j):=by
 intro pins s Z H x y v u Q I r1 r2 h;obtain ⟨i,j,e1,e2,q⟩:=h;subst e1;subst e2;obtain ⟨t,rfl⟩:=r1;obtain ⟨t',rfl⟩:=r2;exact iadd_int ⟨.int _,H,I.tok _,⟨_,rfl⟩,q⟩
end
section
variable {X:Cx}{pos:Pos}
noncomputable def ZiZ(c:TT)(tb:TS):TS:=fun D Z H=>∃ W:Nat->St->Hp->Prop,(∃ m,W m Z H)/\∀ m Z H,W m Z H ->
 c Z H fun b H1=>if b=true then ∃ N:St->Hp->Prop,(∀ σ' H',N σ' H'->∃ m',m'<m/\W m' σ' H')/\tb {D with nx:=N,ct:=N,bk:=D.nx} Z H1 else D.nx Z H1
theorem Zjj(hp:PassesOwn (model X.prog X.w) X.A X.env X.xe)(hc:PT X c tc)(hb:PSs X body tb):PS X (.While c body [] pos) (ZiZ tc tb):=by
 intro pins s Z H D I h;obtain ⟨W,⟨m0,w0⟩,turn⟩:=h;refine wpAny_While (codeAny_whileLoop (fun n s'=>∃ σ' H',Inv X pins σ' H' s'/\W n σ' H') ?_ m0 ⟨Z,H,I,w0⟩);rintro n s1 ⟨σ1,H1,I1,w1⟩;refine wpAny_passesOwn hp (thn (hc pins s1 σ1 H1 _ I1 (turn n σ1 H1 w1)) fun b s2 ⟨H2,I2,q2⟩=>?_);cases b with
 | true =>
   obtain ⟨N,hN,q2⟩:=q2;rw [if_pos rfl];refine wpAny_passesOwn hp (thn (hb pins s2 σ1 H2 _ I2 q2) fun f s3 q3=>?_);cases f with
   | next =>
     obtain ⟨σ3,H3,I3,n3⟩:=q3;obtain ⟨m',hm,w3⟩:=hN σ3 H3 n3;exact ⟨m',hm,σ3,H3,I3,w3⟩
   | cont =>
     obtain ⟨σ3,H3,I3,n3⟩:=q3;obtain ⟨m',hm,w3⟩:=hN σ3 H3 n3;exact ⟨m',hm,σ3,H3,I3,w3⟩
   | brk=>exact q3
   | ret v=>exact q3
 | false =>
   rw [if_neg Ow];exact wpAny_execs_nil ⟨σ1,H2,I2,q2⟩
end
structure It where
 go:Nat->Hp->Prop
 yld:Nat->Hp->V->Hp->Prop
 stop:Nat->Hp->Prop
noncomputable def ZaZ(X:Cx)(pins:List (Addr×Obj))(H:Hp)(b:Addr):Prop :=
 H b=none/\b≠X.env.locals/\b ∉ X.fs/\(b∈X.ex\/X.s₀.heap.objs.size<=b)/\(∀ x c,X.env.cells.lookup x=some c->c≠b)/\∀ p∈X.pn++pins,p.1≠b
theorem Inv.fpOk(I:Inv X pins Z H s)(hb:s.heap.objs.size<=b)(hn:H' b=none):ZaZ X pins H' b:=by
 refine ⟨hn,Nat.ne_of_gt (Ot I.lt hb),I.nofs hb,.inr (OE I.sz hb),fun x c e z=>?_,fun p hp z=>?_⟩
 . obtain ⟨v,q⟩:=I.cell x c e;exact absurd (Ot q.lt (by rw [z];exact hb)) (Nat.lt_irrefl _)
 . exact absurd (Ot (Heap.lt_size (I.pin p hp).1) (by rw [z];exact hb)) (Nat.lt_irrefl _)
structure Turn(P:Program)(w:World)(K:PySem.W.Frag)(tg:Expr)(J:It)(fp:List Addr)(it:Addr)(tn:Nat->Heap->Prop):Prop where
 mem:it∈fp
 obj:∀ i h,tn i h->∀ b∈fp,∃ o,h.get? b=some o/\∀ v,o.data≠.cell v
 keep:∀ i h h',tn i h->(∀ b∈fp,∀ o,h.get? b=some o->h'.get? b=some o)->tn i h'
 item:∀ (X:Cx),X.prog=P->X.w=w->X.K=K->X.calm=true->∀ (i:Nat) (pins:List (Addr×Obj)) (s:Shared) (Z:St) (H:Hp) (E:Value->Shared->Prop),Inv X pins Z H s->(∀ b∈fp,ZaZ X pins H b)->tn i s.heap->J.go i H ->
   wpAny (model P w) X.A (pyNext (.ref it)) (fun r s1=>∃ u,r=some u /\
     wpAny (model P w) X.A (letOwnedTupleGo tg (.ref it) u) (fun _ s2=>∃ x H',Inv X pins Z H' s2/\RelV x u/\J.yld i H x H'/\tn (i+1) s2.heap/\∀ b∈fp,H' b=none) E s1) E s
 done:∀ (X:Cx),X.prog=P->X.w=w->X.K=K->X.calm=true->∀ (i:Nat) (pins:List (Addr×Obj)) (s:Shared) (Z:St) (H:Hp) (E:Value->Shared->Prop),Inv X pins Z H s->(∀ b∈fp,ZaZ X pins H b)->tn i s.heap->J.stop i H ->
   wpAny (model P w) X.A (pyNext (.ref it)) (fun r s1=>r=none/\Inv X pins Z H s1) E s
 self:∀ (A:Around) (i:Nat) (s:Shared) (Q:Value->Shared->Prop) (E:Value->Shared->Prop),tn i s.heap->Q (.ref it) s->wpAny (model P w) A (pyIter (.ref it)) Q E s
noncomputable abbrev TI:=St->Hp->(It->Hp->Prop)->Prop
noncomputable def PIE(X:Cx)(pins:List (Addr×Obj))(Z:St)(tg:Expr)(R:It->Hp->Prop)(itv:Value)(s2:Shared):Prop :=
 ∃ (it:Addr) (fp:List Addr) (tn:Nat->Heap->Prop) (J:It) (H':Hp),itv=.ref it/\Inv X pins Z H' s2/\Turn X.prog X.w X.K tg J fp it tn/\tn 0 s2.heap/\(∀ b∈fp,ZaZ X pins H' b)/\R J H'
noncomputable def PI(X:Cx)(tg iter:Expr)(wi:TI):Prop :=
 ∀ (pins:List (Addr×Obj)) (s:Shared) (Z:St) (H:Hp) (R:It->Hp->Prop),Inv X pins Z H s->wi Z H R ->
   wpAny (model X.prog X.w) X.A (eval iter X.env) (fun v s1=>wpAny (model X.prog X.w) X.A (pyIter v) (PIE X pins Z tg R) X.xe s1) X.xe s
theorem Zf8(ho:s.heap.get? it=some o)(hc:o.cls=.type n)(hd:o.data=.fields vs)
   (hn:["enumerate", "zip", "dict_itemiterator", "dict_reverseitemiterator", "odict_iterator", "itertools.zip_longest", "itertools.pairwise"].contains n=false) (hQ:Q () s):wpAny M A (letOwnedTupleGo tg (.ref it) u) Q E s:=by
 unfold letOwnedTupleGo;cases tg<;>first
   | exact wpAny_pure hQ
   | (cases u<;>first
       | exact wpAny_pure hQ
       | (refine wpAny_bind (wpAny_load ho ?_)
          rw [hc,hd];show wpAny M A (if (["enumerate", "zip", "dict_itemiterator", "dict_reverseitemiterator", "odict_iterator", "itertools.zip_longest", "itertools.pairwise"].contains n&&vs[0]?==some (rawInt _))=true then _ else _) Q E s;rw [if_neg (by intro h;rw [hn,Bool.false_and] at h;cases h)];exact wpAny_pure hQ))
noncomputable def Itl(K:PySem.W.Frag)(a:Addr):It :=
 ⟨fun i H=>∃ xs x,SqL K H a xs/\xs[i]? = some x,fun i H x H'=>H'=H/\∀ xs,SqL K H a xs->xs[i]? = some x,fun i H=>∃ xs,SqL K H a xs/\xs.length<=i⟩
noncomputable def Itt(K:PySem.W.Frag)(a:Addr):It :=
 ⟨fun i H=>∃ xs x,SqT K H a xs/\xs[i]? = some x,fun i H x H'=>H'=H/\∀ xs,SqT K H a xs->xs[i]? = some x,fun i H=>∃ xs,SqT K H a xs/\xs.length<=i⟩
noncomputable def Itr(lo:Int)(n:Nat):It:=⟨fun i _=>i<n,fun i H x H'=>H'=H/\x=.int (lo+i),fun i _=>n<=i⟩
theorem Zh7{P:Program}{w:World}{K:PySem.W.Frag}{tg:Expr}(a it:Addr):Turn P w K tg (Itl K a) [it] it (fun i h=>h.IsListIter it a i) where
 mem:=by simp
 obj:=fun i h st b hb=>by
   have e:b=it:=by simpa using hb
   subst e;obtain ⟨o,e,c,d⟩:=st;exact ⟨o,e,fun v z=>by rw [d] at z;cases z⟩
 keep:=fun i h h' st k=>st.at fun o e=>k it (by simp) o e
 item:=by
   intro X hP hw hK hc i pins s Z H E I hf st hg;subst hP hw hK;obtain ⟨xs,x,hq,hx⟩:=hg;obtain ⟨its,rv,p,hz⟩:=I.list hq;obtain ⟨u,hu,ru⟩:=rv.get hx;obtain ⟨f0,f1,f2,f3,f4,f5⟩:=hf it (by simp);refine wpAny_pyNext_list_item st p.isList (x:=u) (by simpa using hu) fun h' st' sb=>?_;have I1:Inv X pins Z H {s with heap:=h'}:=I.turned (t':=s.toks) (fun b o hb e=>(sb.2 b hb).trans e) f0 f1 f3 f4 f5;obtain ⟨o,e,c,d⟩:=id st';exact ⟨u,rfl,Zf8 (s:={s with heap:=h'}) e c d (by decide) ⟨x,H,I1,ru,⟨rfl,fun ys hy=>by rw [I.list_inj hy hq];exact hx⟩,st',fun b hb=>(hf b hb).1⟩⟩
 done:=by
   intro X hP hw hK hc i pins s Z H E I hf st hg;subst hP hw hK;obtain ⟨xs,hq,hx⟩:=hg;obtain ⟨its,rv,p,hz⟩:=I.list hq;obtain ⟨f0,f1,f2,f3,f4,f5⟩:=hf it (by simp);have hl:=rv.length;exact wpAny_pyNext_list_end (I.ok.hd hc) st p.isList (by simp;lia) fun h' eb=>⟨rfl,I.turned (t':=s.toks) (fun b o hb e=>eb b o hb e) f0 f1 f3 f4 f5⟩
 self:=fun _ _ _ _ _ st h=>wpAny_pyIter_listiter st h
theorem Zgw{P:Program}{w:World}{K:PySem.W.Frag}{tg:Expr}(a it:Addr):Turn P w K tg (Itt K a) [it] it (fun i h=>h.IsTupleIter it a i) where
 mem:=by simp
 obj:=fun i h st b hb=>by
   have e:b=it:=by simpa using hb
   subst e;obtain ⟨o,e,c,d⟩:=st;exact ⟨o,e,fun v z=>by rw [d] at z;cases z⟩
 keep:=fun i h h' st k=>st.at fun o e=>k it (by simp) o e
 item:=by
   intro X hP hw hK hc i pins s Z H E I hf st hg;subst hP hw hK;obtain ⟨xs,x,hq,hx⟩:=hg;obtain ⟨its,rv,p,hz⟩:=I.tuple hq;obtain ⟨u,hu,ru⟩:=rv.get hx;obtain ⟨f0,f1,f2,f3,f4,f5⟩:=hf it (by simp);refine wpAny_pyNext_tuple_item st (show s.heap.IsTuple a its.toArray from p) (x:=u) (by simpa using hu) fun h' st' sb=>?_;have I1:Inv X pins Z H {s with heap:=h'}:=I.turned (t':=s.toks) (fun b o hb e=>(sb.2 b hb).trans e) f0 f1 f3 f4 f5;obtain ⟨o,e,c,d⟩:=id st';exact ⟨u,rfl,Zf8 (s:={s with heap:=h'}) e c d (by decide) ⟨x,H,I1,ru,⟨rfl,fun ys hy=>by rw [I.tuple_inj hy hq];exact hx⟩,st',fun b hb=>(hf b hb).1⟩⟩
 done:=by
   intro X hP hw hK hc i pins s Z H E I hf st hg;subst hP hw hK;obtain ⟨xs,hq,hx⟩:=hg;obtain ⟨its,rv,p,hz⟩:=I.tuple hq;obtain ⟨f0,f1,f2,f3,f4,f5⟩:=hf it (by simp);have hl:=rv.length;exact wpAny_pyNext_tuple_end (I.ok.hd hc) st (show s.heap.IsTuple a its.toArray from p) (by simp;lia) fun h' eb=>⟨rfl,I.turned (t':=s.toks) (fun b o hb e=>eb b o hb e) f0 f1 f3 f4 f5⟩
 self:=fun _ _ _ _ _ st h=>wpAny_pyIter_tupleiter st h
theorem Zgx{P:Program}{w:World}{K:PySem.W.Frag}{tg:Expr}(it:Addr)(lo:Int)(n:Nat):Turn P w K tg (Itr lo n) [it] it (fun i h=>IsRangeIter h it (lo+(i:Nat) * 1) ((n:Int) - (i:Nat)) 1) where
 mem:=by simp
 obj:=fun i h st b hb=>by
   have e:b=it:=by simpa using hb
   subst e;exact ⟨_,st,fun v z=>by
     have z':Data.fields _=Data.cell v:=z;cases z'⟩
 keep:=fun i h h' st k=>k it (by simp) _ st
 item:=by
   intro X hP hw hK hc i pins s Z H E I hf st hg;subst hP hw hK;obtain ⟨f0,f1,f2,f3,f4,f5⟩:=hf it (by simp);have W:=Walks.range (prog:=X.prog) (w:=X.w) (I.ok.hd hc) it lo 1 n;refine W.item i s _ _ hg st fun v h' tk hv st' kk=>?_;obtain ⟨t,rfl⟩:=hv;have I1:Inv X pins Z H {s with heap:=h',toks:=tk}:=I.turned (fun b o hb e=>kk b o (by simpa using hb) e) f0 f1 f3 f4 f5;refine ⟨_,rfl,Zf8 (s:={s with heap:=h',toks:=tk}) (n := "range_iterator") st' rfl rfl (by decide) ⟨.int (lo+i),H,I1,⟨t,?_⟩,⟨rfl,rfl⟩,st',fun b hb=>(hf b hb).1⟩⟩;rw [Int.mul_one]
 done:=by
   intro X hP hw hK hc i pins s Z H E I hf st hg;subst hP hw hK;obtain ⟨f0,f1,f2,f3,f4,f5⟩:=hf it (by simp);exact wpAny_pyNext_range_end (I.ok.hd hc) st (by have:n<=i:=hg;lia) fun h' eb=>⟨rfl,I.turned (t':=s.toks) (fun b o hb e=>eb b o hb e) f0 f1 f3 f4 f5⟩
 self:=fun _ _ _ _ _ st h=>wpAny_pyIter_rangeiter st h
end L2
namespace L2
open PySem PySem.Spec PyProof.Rows
section
variable {X:Cx}{tg:Expr}
theorem Zja{pins:List (Addr×Obj)}{Z:St}{H:Hp}{s:Shared}{R:It->Hp->Prop}{E:Value->Shared->Prop}{lo hi:Int}{t u v:Tok}{tk:Nat}(I:Inv X pins Z H s)(h1:-(2 ^ 62)<=lo)(h2:lo<2 ^ 62)(h3:-(2 ^ 62)<=hi)(h4:hi<2 ^ 62)
   (q:R (Itr lo (hi - lo).toNat) H):wpAny (model X.prog X.w) X.A (pyIter (.ref s.heap.objs.size)) (PIE X pins Z tg R) E {s with heap:=s.heap.push {cls:=.type "range",data:=.fields #[.int lo t,.int hi u,.int 1 v]},toks:=tk}:=by
 refine wpAny_pyIter_range (IsRange.new ..) (small_one h1 h2 h3 h4) ?_;have I1:Inv X pins Z H {s with heap:=s.heap.push {cls:=.type "range",data:=.fields #[.int lo t,.int hi u,.int 1 v]},toks:=tk}:=I.kept fun b o e=>Od _ e;refine ⟨(s.heap.push {cls:=.type "range",data:=.fields #[.int lo t,.int hi u,.int 1 v]}).objs.size,[(s.heap.push {cls:=.type "range",data:=.fields #[.int lo t,.int hi u,.int 1 v]}).objs.size],_,_,H,rfl,
   I1.kept (t':=tk) fun b o e=>Od _ e,Zgx _ lo (hi - lo).toNat,?_,fun b hb=>?_,q⟩
 . have e1:lo+((0:Nat):Int) * 1=lo:=by simp
   have e2:(((hi - lo).toNat:Nat):Int) - ((0:Nat):Int)=Builtin.Range.rangeSize lo hi 1:=by rw [rangeSize_one];split<;>lia
   show IsRangeIter _ _ (lo+((0:Nat):Int) * 1) ((((hi - lo).toNat:Nat):Int) - ((0:Nat):Int)) 1;rw [e1,e2];exact Oj _ rfl
 . have e:b=(s.heap.push {cls:=.type "range",data:=.fields #[.int lo t,.int hi u,.int 1 v]}).objs.size:=by simpa using hb
   subst e;exact I1.fpOk (Oq _) (I1.hok.fresh (Oq _))
noncomputable def Zpv(ta:TA):TI:=fun Z H R=>ta Z H fun vs H1=>∃ j:Int,vs=[.int j]/\-(2 ^ 62)<=j/\j<2 ^ 62/\R (Itr 0 j.toNat) H1
theorem Zih {a:Expr}{ta:TA}{p pos:Pos} (hg:Gl X "range") (hm:X.mg "range" = none) (ha:PA X [a] ta) (hs:starEach [a] X.env=[(false,eval a X.env)]:=by rfl):PI X tg (.Call (.Name "range" p) [a] [] pos) (Zpv ta):=by
 intro pins s Z H R I h;refine Call_ (ZaO I hg hm boot_range (PyProof.Rows.callWith_type1 (thn (ha pos pins s Z H _ I h) fun us s1 ⟨vs,H1,I1,r1,q1⟩=>?_) hs rfl));obtain ⟨j,e,q1,q2,q⟩:=q1;subst e;cases r1 with
 | cons r rr =>
   cases rr;obtain ⟨t,rfl⟩:=r;exact call_range_1 (Zja I1 (by lia) (by lia) q1 q2 (by simpa using q))
noncomputable def Zqh(wi:TI)(g:TG)(tb:TS):TS:=fun D Z H=>wi Z H fun J H1=>∃ W:Nat->Nat->St->Hp->Prop,(∃ m,W 0 m Z H1)/\∀ i m Z H,W i m Z H ->
 (J.stop i H/\D.nx Z H)\/(J.go i H/\∃ N:St->Hp->Prop,(∀ σ' H',N σ' H'->∃ m',m'<m/\W (i+1) m' σ' H')/\∀ x H',J.yld i H x H'->g x Z H' fun σ2 H2=>tb {D with nx:=N,ct:=N,bk:=D.nx} σ2 H2)
noncomputable def Zds(fp:List Addr)(h:Heap):List (Addr×Obj):=fp.filterMap fun b=>(h.get? b).map fun o=>(b,o)
theorem Zav(hb:b∈fp)(e:h.get? b=some o):(b,o)∈Zds fp h:=List.mem_filterMap.mpr ⟨b,hb,by rw [e];rfl⟩
theorem Zip(hp:p∈Zds fp h):p.1∈fp/\h.get? p.1=some p.2:=by
 obtain ⟨b,hb,e⟩:=List.mem_filterMap.mp hp;cases q:h.get? b with
 | none=>rw [q] at e;cases e
 | some o =>
   rw [q] at e;have e':(b,o)=p:=Option.some.inj e;subst e';exact ⟨hb,q⟩
theorem Inv.pinned(I:Inv X pins Z H s)(hf:∀ b∈fp,ZaZ X pins H b)(ho:∀ b∈fp,∃ o,s.heap.get? b=some o/\∀ v,o.data≠.cell v):Inv X (pins++Zds fp s.heap) Z H s :=
 I.pins_of fun p hp=>(OD.mp hp).elim (fun z=>I.pin p (Ov _ z)) fun z=>by
   obtain ⟨hb,e⟩:=Zip z;obtain ⟨f0,f1,f2,_⟩:=hf p.1 hb;obtain ⟨o,e',d⟩:=ho p.1 hb;rw [e] at e';cases e';exact ⟨e,f0,f1,f2,d⟩
theorem Inv.unpinned(I:Inv X (pins++pl) Z H s):Inv X pins Z H s:=I.pins_of fun p hp=>I.pin p (Ov _ (List.mem_append_left _ hp))
theorem Zm3(hp:PassesOwn (model X.prog X.w) X.A X.env X.xe)(hc:X.calm=true)(hi:PI X tg iter wi)(hg:PG X tg g)(hb:PSs X body tb)
   (hs:∀ x,foldedSetIterable iter X.env x=pure x:=by intro _;rfl):PS X (.For tg iter body [] pos) (Zqh wi g tb):=by
 intro pins s Z H D I h;refine wpAny_For (thn (hi pins s Z H _ I h) fun v s1 h1=>thn h1 fun itv s2 h2=>?_) hs;obtain ⟨it,fp,tn,J,H2,e,I2,T,st2,f2,W,⟨m0,w0⟩,turn⟩:=h2;subst e;have stat:∀ {H':Hp},(∀ b∈fp,H' b=none)->∀ b∈fp,ZaZ X pins H' b:=fun hn b hb=>⟨hn b hb,(f2 b hb).2⟩
 refine codeAny_forLoop_any (fun n s'=>∃ i σ' H',Inv X pins σ' H' s'/\tn i s'.heap/\(∀ b∈fp,H' b=none)/\W i n σ' H') ?_ m0 ⟨0,Z,H2,I2,st2,fun b hb=>(f2 b hb).1,w0⟩;rintro n s3 ⟨i,σ3,H3,I3,st3,fr3,w3⟩;rcases turn i n σ3 H3 w3 with ⟨stop,qn⟩|⟨go,N,hN,step⟩
 . refine wpAny_passesOwn hp (thn (T.done X rfl rfl rfl hc i pins s3 σ3 H3 X.xe I3 (stat fr3) st3 stop) fun r s4 ⟨hr,I4⟩=>?_);subst hr;exact wpAny_execs_nil ⟨σ3,H3,I4,qn⟩
 . refine wpAny_passesOwn hp (thn (T.item X rfl rfl rfl hc i pins s3 σ3 H3 X.xe I3 (stat fr3) st3 go) fun r s4 ⟨u,hr,h4⟩=>?_);subst hr;refine wpAny_passesOwn hp (thn h4 fun _ s5 ⟨x,H5,I5,r5,y5,st5,fr5⟩=>?_);have I5':=I5.pinned (stat fr5) (T.obj _ _ st5);refine wpAny_passesOwn hp (thn (hg _ s5 σ3 H5 x u _ I5' r5 (step x H5 y5)) fun _ s6 ⟨σ6,H6,I6,q6⟩=>?_);refine wpAny_passesOwn hp (thn (hb _ s6 σ6 H6 _ I6 q6) fun f s7 q7=>?_);have again:∀ {σ7:St}{H7:Hp},Inv X (pins++Zds fp s5.heap) σ7 H7 s7->N σ7 H7->∃ m,m<n/\∃ i σ' H',Inv X pins σ' H' s7/\tn i s7.heap/\(∀ b∈fp,H' b=none)/\W i m σ' H':=fun {σ7 H7} I7 n7=>by
     obtain ⟨m',hm,w7⟩:=hN σ7 H7 n7;refine ⟨m',hm,i+1,σ7,H7,I7.unpinned,T.keep _ _ _ st5 fun b hb o e=>(I7.pin (b,o) (Ov _ (Ov _ (Zav hb e)))).1,fun b hb=>?_,w7⟩;obtain ⟨o,e,d⟩:=T.obj _ _ st5 b hb;exact (I7.pin (b,o) (Ov _ (Ov _ (Zav hb e)))).2.1
   cases f with
   | next=>obtain ⟨σ7,H7,I7,n7⟩:=q7;exact again I7 n7
   | cont=>obtain ⟨σ7,H7,I7,n7⟩:=q7;exact again I7 n7
   | brk=>obtain ⟨σ7,H7,I7,q7⟩:=q7;exact ⟨σ7,H7,I7.unpinned,q7⟩
   | ret v=>obtain ⟨x7,σ7,H7,I7,r7,q7⟩:=q7;exact ⟨x7,σ7,H7,I7.unpinned,r7,q7⟩
end
end L2
namespace L2
open PySem PySem.Spec PyProof.Rows
noncomputable abbrev R2:=V->V->Hp->VK->Prop
noncomputable def OpR(X:Cx)(f:Value->Value->Sem Value)(r:R2):Prop :=
 ∀ (pins:List (Addr×Obj)) (s:Shared) (Z:St) (H:Hp) (x y:V) (v u:Value) (Q:VK),Inv X pins Z H s->RelV x v->RelV y u->r x y H Q ->
   wpAny (model X.prog X.w) X.A (f v u) (EP X pins Z Q) X.xe s
noncomputable def UnR(X:Cx)(f:Value->Sem Value)(r:V->Hp->VK->Prop):Prop :=
 ∀ (pins:List (Addr×Obj)) (s:Shared) (Z:St) (H:Hp) (x:V) (v:Value) (Q:VK),Inv X pins Z H s->RelV x v->r x H Q ->
   wpAny (model X.prog X.w) X.A (f v) (EP X pins Z Q) X.xe s
noncomputable def Zau(X:Cx)(f:Value)(r:List V->Hp->VK->Prop):Prop :=
 ∀ (pins:List (Addr×Obj)) (s:Shared) (Z:St) (H:Hp) (xs:List V) (us:List Value) (Q:VK),Inv X pins Z H s->Zd xs us->r xs H Q ->
   wpAny (model X.prog X.w) X.A (call f us) (EP X pins Z Q) X.xe s
noncomputable def Zrg(X:Cx)(r:V->Hp->(Bool->Hp->Prop)->Prop):Prop :=
 ∀ (pins:List (Addr×Obj)) (s:Shared) (Z:St) (H:Hp) (x:V) (v:Value) (Q:Bool->Hp->Prop),Inv X pins Z H s->RelV x v->r x H Q ->
   wpAny (model X.prog X.w) X.A (truthy v) (TP X pins Z Q) X.xe s
noncomputable def tOp(r:R2)(ta tb:TE):TE:=fun Z H Q=>ta Z H fun x H1=>tb Z H1 fun y H2=>r x y H2 Q
noncomputable def tUn(r:V->Hp->VK->Prop)(ta:TE):TE:=fun Z H Q=>ta Z H fun x H1=>r x H1 Q
noncomputable def rI(C:Int->Int->Prop)(g:Int->Int->V):R2:=fun x y H Q=>∃ i j,x=.int i/\y=.int j/\C i j/\Q (g i j) H
noncomputable def rI0(g:Int->Int->V):R2:=fun x y H Q=>∃ i j,x=.int i/\y=.int j/\Q (g i j) H
noncomputable def rU(g:Int->V):V->Hp->VK->Prop:=fun x H Q=>∃ i,x=.int i/\Q (g i) H
section
variable {X:Cx}{a b c:Expr}{ta tb tc:TE}{pos:Pos}
theorem Zn3(ha:PE X a ta)(hb:PE X b tb){pins:List (Addr×Obj)}{s:Shared}{Z:St}{H:Hp}{R:V->V->Hp->Prop}(I:Inv X pins Z H s)
   (h:ta Z H fun x H1=>tb Z H1 fun y H2=>R x y H2) {Q:Value->Shared->Prop}{f:Value->Value->Sem Value}
   (hf:∀ v u s2 x y H2,Inv X pins Z H2 s2->RelV x v->RelV y u->R x y H2->wpAny (model X.prog X.w) X.A (f v u) Q X.xe s2) :
   wpAny (model X.prog X.w) X.A (eval a X.env) (fun v s₁=>wpAny (model X.prog X.w) X.A (eval b X.env) (fun u s₂=>wpAny (model X.prog X.w) X.A (f v u) Q X.xe s₂) X.xe s₁) X.xe s:=by
 refine thn (ha pins s Z H _ I h) fun v s1 ⟨x,H1,I1,r1,q1⟩=>?_;refine thn (hb pins s1 Z H1 _ I1 q1) fun u s2 ⟨y,H2,I2,r2,q2⟩=>?_;exact hf v u s2 x y H2 I2 r1 r2 q2
theorem ZoV{op:Operator}{r:R2}(ho:OpR X (binaryOp op) r)(ha:PE X a ta)(hb:PE X b tb):PE X (.BinOp a op b pos) (tOp r ta tb):=by
 intro pins s Z H Q I h;exact wpAny_BinOp (Zn3 ha hb I h fun v u s2 x y H2 I2 rx ry q=>ho pins s2 Z H2 x y v u Q I2 rx ry q)
theorem ZoT{op:UnaryOp}{r:V->Hp->VK->Prop}(ho:UnR X (unaryOp op) r)(ha:PE X a ta):PE X (.UnaryOp op a pos) (tUn r ta):=by
 intro pins s Z H Q I h;exact UnaryOp_ (thn (ha pins s Z H _ I h) fun v s1 ⟨x,H1,I1,r1,q1⟩=>ho pins s1 Z H1 x v Q I1 r1 q1)
theorem opI{f:Value->Value->Sem Value}{C:Int->Int->Prop}{g:Int->Int->Int}
   (rule:∀ (i j:Int) (t u:Tok) (s:Shared) (Q:Value->Shared->Prop) (E:Value->Shared->Prop),C i j->Q (.int (g i j) s.toks) {s with toks:=s.toks+1}->wpAny (model X.prog X.w) X.A (f (.int i t) (.int j u)) Q E s) :
   OpR X f (rI C fun i j=>.int (g i j)):=by
 intro pins s Z H x y v u Q I rx ry h;obtain ⟨i,j,rfl,rfl,hc,q⟩:=h;obtain ⟨t,rfl⟩:=rx;obtain ⟨t',rfl⟩:=ry;exact rule i j t t' s _ _ hc ⟨.int (g i j),H,I.tok _,⟨_,rfl⟩,q⟩
theorem Zo8{g:Int->Int->Int}
   (rule:∀ (i j:Int) (t u:Tok) (s:Shared) (Q:Value->Shared->Prop) (E:Value->Shared->Prop),Q (.int (g i j) s.toks) {s with toks:=s.toks+1}->wpAny (model X.prog X.w) X.A (f (.int i t) (.int j u)) Q E s) :
   OpR X f (rI0 fun i j=>.int (g i j)):=by
 intro pins s Z H x y v u Q I rx ry h;obtain ⟨i,j,rfl,rfl,q⟩:=h;obtain ⟨t,rfl⟩:=rx;obtain ⟨t',rfl⟩:=ry;exact rule i j t t' s _ _ ⟨.int (g i j),H,I.tok _,⟨_,rfl⟩,q⟩
theorem Zlj{g:Int->Int->Bool}
   (rule:∀ (i j:Int) (t u:Tok) (s:Shared) (Q:Value->Shared->Prop) (E:Value->Shared->Prop),Q (.bool (g i j)) s->wpAny (model X.prog X.w) X.A (f (.int i t) (.int j u)) Q E s) :
   OpR X f (rI0 fun i j=>.bl (g i j)):=by
 intro pins s Z H x y v u Q I rx ry h;obtain ⟨i,j,rfl,rfl,q⟩:=h;obtain ⟨t,rfl⟩:=rx;obtain ⟨t',rfl⟩:=ry;exact rule i j t t' s _ _ ⟨.bl (g i j),H,I,rfl,q⟩
noncomputable def Zri(i j:Int):Prop:=0<j/\j<1073741824
noncomputable def Zrh(i j:Int):Prop:=0<=j/\j<=1000000/\i.natAbs<2 ^ 64
theorem Znq:OpR X (binaryOp .Add) (rI0 fun i j=>.int (i+j)):=Zo8 fun _ _ _ _ _ _ _ q=>add_int q
theorem Znk:OpR X (binaryOp .Sub) (rI0 fun i j=>.int (i - j)):=Zo8 fun _ _ _ _ _ _ _ q=>sub_int q
theorem Zk8:OpR X (binaryOp .FloorDiv) (rI Zri fun i j=>.int (i / j)):=opI fun i j _ _ _ _ _ hc q=>by
 have h1:(0:Int)<j:=hc.1;have h2:j<1073741824:=hc.2;exact floordiv_int (by lia) (by rw [Int.fdiv_eq_ediv_of_nonneg i (by lia)];exact q) (.inl (PyProof.noPylong_small (by lia)))
theorem Znm:OpR X (binaryOp .Mod) (rI (fun _ j=>0<j) fun i j=>.int (i % j)):=opI fun i j _ _ _ _ _ hc q=>by
 have h1:(0:Int)<j:=hc;exact mod_int' (by lia) (by rw [Int.fmod_eq_emod_of_nonneg i (by lia)];exact q)
theorem Znl:OpR X (binaryOp .Pow) (rI Zrh fun i j=>.int (i ^ j.toNat)):=opI fun _ _ _ _ _ _ _ hc q=>pow_int_small hc.1 hc.2.1 hc.2.2 q
theorem unI{g:Int->Int}
   (rule:∀ (i:Int) (t:Tok) (s:Shared) (Q:Value->Shared->Prop) (E:Value->Shared->Prop),Q (.int (g i) s.toks) {s with toks:=s.toks+1}->wpAny (model X.prog X.w) X.A (f (.int i t)) Q E s) :
   UnR X f (rU fun i=>.int (g i)):=by
 intro pins s Z H x v Q I rx h;obtain ⟨i,rfl,q⟩:=h;obtain ⟨t,rfl⟩:=rx;exact rule i t s _ _ ⟨.int (g i),H,I.tok _,⟨_,rfl⟩,q⟩
theorem ZmJ:UnR X (unaryOp .USub) (rU fun i=>.int (-i)):=unI fun _ _ _ _ _ q=>neg_int q
end
section
variable {X:Cx}{a b c:Expr}{ta tb tc:TE}{pos:Pos}
theorem ZjX(I:Inv X pins Z H s)(q:Q (.bl k) H)(e:k=k'):EP X pins Z Q (.bool k') s:=by
 subst e;exact ⟨.bl k,H,I,rfl,q⟩
theorem Zo1:OpR X (compareOp .Lt) (rI0 fun i j=>.bl (decide (i<j))):=Zlj fun _ _ _ _ _ _ _ q=>lt_int q
theorem Zo2:OpR X (compareOp .LtE) (rI0 fun i j=>.bl (decide (i<=j))):=Zlj fun _ _ _ _ _ _ _ q=>le_int q
theorem Zo3:OpR X (compareOp .Gt) (rI0 fun i j=>.bl (decide (j<i))):=Zlj fun _ _ _ _ _ _ _ q=>gt_int q
theorem Zo4:OpR X (compareOp .GtE) (rI0 fun i j=>.bl (decide (j<=i))):=Zlj fun _ _ _ _ _ _ _ q=>ge_int q
theorem Znn:OpR X (compareOp .Is) (fun x y H Q=>y=.non/\Q (.bl (decide (x=.non))) H):=by
 intro pins s Z H x y v u Q I rx ry h;obtain ⟨rfl,q⟩:=h;cases ry;refine is_none_gen (ZjX I q ?_);cases x<;>first
   | (cases rx;rfl)
   | (obtain ⟨t,rfl⟩:=rx;rfl)
theorem Zk6:OpR X (compareOp .IsNot) (fun x y H Q=>y=.non/\Q (.bl (!decide (x=.non))) H):=by
 intro pins s Z H x y v u Q I rx ry h;obtain ⟨rfl,q⟩:=h;cases ry;refine isnot_none_gen (ZjX I q ?_);cases x<;>first
   | (cases rx;rfl)
   | (obtain ⟨t,rfl⟩:=rx;rfl)
theorem Zk2{op:CmpOp}{r:R2}(ho:OpR X (compareOp op) r)(ha:PE X a ta)(hb:PE X b tb)(hm:behindInMarks op b=false):PE X (.Compare a [op] [b] pos) (tOp r ta tb):=by
 intro pins s Z H Q I h;exact wpAny_Compare1 (Zn3 ha hb I h fun v u s2 x y H2 I2 rx ry q=>ho pins s2 Z H2 x y v u Q I2 rx ry q) hm
noncomputable def Zot(t:TE):TT:=fun Z H Q=>t Z H fun x H'=>∃ k,x=.bl k/\Q k H'
theorem ZkL{op:CmpOp}{r:R2}(ho:OpR X (compareOp op) r)(ha:PE X a ta)(hb:PE X b tb)(hm:behindInMarks op b=false):PT X (.Compare a [op] [b] pos) (Zot (tOp r ta tb)):=by
 intro pins s Z H Q I h;refine wpAny_isTrue_Compare1 (thn (ha pins s Z H _ I h) fun v s1 ⟨x,H1,I1,r1,q1⟩=>thn (hb pins s1 Z H1 _ I1 q1) fun u s2 ⟨y,H2,I2,r2,q2⟩ =>
   thn (ho pins s2 Z H2 x y v u _ I2 r1 r2 q2) fun c s3 ⟨z,H3,I3,r3,k,e,q3⟩=>?_) hm
 subst e;cases r3;exact wpAny_truthy_bool ⟨H3,I3,q3⟩
noncomputable def Zn8(K:PySem.W.Frag)(x:V)(H:Hp)(k:Bool):Prop :=
 match x with
 | .non=>k=false
 | .bl b=>k=b
 | .int i=>k=(i != 0)
 | .str y=>y.length<=sizeLine/\k=((y.length:Int) != 0)
 | .byt y=>y.size<=sizeLine/\k=((y.size:Int) != 0)
 | .ref p=>(∃ xs,SqL K H p xs/\k=!xs.isEmpty)\/(∃ xs,SqT K H p xs/\k=!xs.isEmpty)\/∃ kvs,H p=some (.dK kvs)/\k=!kvs.isEmpty
 | _=>False
theorem ZgU(r:KV kvs vs):(!vs.isEmpty)=!kvs.isEmpty:=by
 cases r<;>rfl
theorem ZdC(r:Zd xs its):(!its.toArray.isEmpty)=!xs.isEmpty:=by
 cases r<;>simp
theorem Zaw:(sizeLine:Nat)<2 ^ 63:=by rw [sizeLine_eq];decide
theorem ZmO:Zrg X (fun x H Q=>∃ k,Zn8 X.K x H k/\Q k H):=by
 intro pins s Z H x v Q I rx h;obtain ⟨k,e,q⟩:=h;have hl:=Zaw;have hs:sizeLine=16777216:=sizeLine_eq;cases x with
 | non =>
   cases rx;have e':k=false:=e;subst e';exact truthy_none ⟨H,I,q⟩
 | bl b =>
   cases rx;have e':k=b:=e;subst e';exact wpAny_truthy_bool ⟨H,I,q⟩
 | int i =>
   obtain ⟨t,rfl⟩:=rx;have e':k=(i != 0):=e;subst e';exact PySem.P.truthy_int ⟨H,I,q⟩
 | str y =>
   obtain ⟨t,rfl⟩:=rx;obtain ⟨hy,e'⟩:y.length<=sizeLine/\k=((y.length:Int) != 0):=e;subst e';exact PySem.P.truthy_str (by lia) ⟨H,I.tok _,q⟩
 | byt y =>
   obtain ⟨t,rfl⟩:=rx;obtain ⟨hy,e'⟩:y.size<=sizeLine/\k=((y.size:Int) != 0):=e;subst e';exact PySem.W.truthy_bytes (by lia) ⟨H,I.tok _,q⟩
 | ref p =>
   cases rx;have e':(∃ xs,SqL X.K H p xs/\k=!xs.isEmpty)\/(∃ xs,SqT X.K H p xs/\k=!xs.isEmpty)\/∃ kvs,H p=some (.dK kvs)/\k=!kvs.isEmpty:=e;rcases e' with ⟨xs,hx,e'⟩|⟨xs,hx,e'⟩|⟨kvs,hx,e'⟩
   . subst e';obtain ⟨its,r,pl,hz⟩:=I.list hx;have hlen:=r.length;exact wpAny_truthy_list pl.isList (by simp only [Of];lia) ⟨H,I.tok _,by rw [ZdC r];exact q⟩
   . subst e';obtain ⟨its,r,pl,hz⟩:=I.tuple hx;have hlen:=r.length;exact truthy_tuple pl (by simp only [Of];lia) ⟨H,I.tok _,by rw [ZdC r];exact q⟩
   . subst e';obtain ⟨hz,hS,vs,r,m⟩:kvs.length<=sizeLine/\(p==sysModules)=false/\∃ vs,KV kvs vs/\s.heap.DictOf (Zw X.prog X.w) p vs:=I.hok p _ hx;have hlen:kvs.length=vs.length:=Paired.length r;exact wpAny_truthy_dict hS m (by lia) ⟨H,I.tok _,by rw [ZgU r];exact q⟩
 | _=>exact (show False from e).elim
theorem Zjh(ha:PE X a ta)(he:∀ whole,isTrue a X.env whole=(do let v <- whole;standAt a.pos;holding [v] (truthy v))) :
   PT X a (fun Z H Q=>ta Z H fun x H'=>∃ k,Zn8 X.K x H' k/\Q k H'):=by
 intro pins s Z H Q I h;exact isTrue_plain (thn (ha pins s Z H _ I h) fun v s1 ⟨x,H1,I1,r1,q1⟩=>ZmO pins s1 Z H1 x v Q I1 r1 q1) (he _)
theorem ZgI:OpR X (binaryOp .Add) (fun x y H Q=>∃ i j,x=.str i/\y=.str j/\i.length+j.length<=sizeLine/\Q (.str (i++j)) H):=by
 intro pins s Z H x y v u Q I rx ry h;obtain ⟨i,j,rfl,rfl,hz,q⟩:=h;obtain ⟨t,rfl⟩:=rx;obtain ⟨t',rfl⟩:=ry;exact add_str (fun t' tk=>⟨.str (i++j),H,I.tok _,⟨_,rfl⟩,q⟩) hz
theorem vals1{x:V}{us:List Value}(r:Zd [x] us):∃ u,us=[u]/\RelV x u:=by
 cases r with
 | cons r1 r2=>cases r2;exact ⟨_,rfl,r1⟩
theorem vals2{x y:V}{us:List Value}(r:Zd [x,y] us):∃ u w',us=[u,w']/\RelV x u/\RelV y w':=by
 cases r with
 | cons r1 r2 =>
   cases r2 with
   | cons r3 r4=>cases r4;exact ⟨_,_,rfl,r1,r3⟩
theorem ZeI:Zau X (.type "int") (fun xs H Q=>(∃ i,xs=[.int i]/\Q (.int i) H)\/∃ k,xs=[.bl k]/\Q (.int (if k then 1 else 0)) H):=by
 intro pins s Z H xs us Q I r h;rcases h with ⟨i,rfl,q⟩|⟨k,rfl,q⟩
 . obtain ⟨u,rfl,t,rfl⟩:=vals1 r;exact call_int_int ⟨.int i,H,I,⟨_,rfl⟩,q⟩
 . obtain ⟨u,rfl,r1⟩:=vals1 r;cases r1;exact call_int_bool ⟨.int (if k then 1 else 0),H,I.tok _,⟨_,rfl⟩,q⟩
end
end L2
namespace L2
open PySem PySem.Spec PyProof.Rows
structure ObjM(h:Heap)(x dx C:Addr)(mA:Str->Option Value):Prop where
 obj:h.get? x=some (PySem.W.instObj C dx)
 ns:h.Ns1 dx mA
 ne:dx≠x
theorem Zit{h:Heap}(n:h.Ns1 dx mA):∃ od,h.get? dx=some od/\∀ name,PySem.W.lookIn name od=some (mA name):=by
 obtain ⟨o,es,ep,ho,hd,hk,_,hm⟩:=n;refine ⟨o,ho,fun name=>?_⟩;have e:=hm name;unfold nsFind findBy at e;rw [<- Array.find?_toList] at e;unfold PySem.W.lookIn;rw [hd];dsimp only;split
 . rename_i y q;rw [q] at e;exact congrArg some e
 . rename_i q;rw [q] at e;have a:es.toList.any (·.refKey)=false:=by
     rw [List.any_eq_false];intro y hy;obtain ⟨z,t,hkey⟩:=hk y (Array.mem_toList_iff.mp hy);simp [DictEntry.refKey,hkey]
   have a':¬ es.toList.any (·.refKey)=true:=by rw [a];exact Ow
   rw [if_neg a'];exact congrArg some e
theorem ObjM.look(I:ObjM h x dx C mA):∃ od,PySem.W.InstAt h x (PySem.W.instObj C dx) C (some od)/\∀ name,PySem.W.lookIn name od=some (mA name) :=
 let ⟨od,ho,hl⟩:=Zit I.ns
 ⟨od,⟨I.obj,rfl,rfl,ho⟩,hl⟩
section
variable {prog:Program}{w:World}{A:Around}{E:Value->Shared->Prop}{s:Shared}{K:PySem.W.Frag}{x dx C f:Addr}{mA:Str->Option Value}{name:Str}{v:Value}
theorem Zlx(X:K.In s.heap)(I:ObjM s.heap x dx C mA)(hg:PySem.W.plainGet K C name=true)(hh:PySem.W.hasDictIn K C=true)
   (ha:PySem.W.findIn K (.ref C) name=some none) (hv:mA name=some v) (hv':PySem.W.handedIn v=true) (h:Q v {s with toks:=s.toks+1}) :
   wpAny (model prog w) A (getAttr (.ref x) name expr) Q E s:=by
 obtain ⟨od,J,hl⟩:=I.look;exact PySem.W.get_value X J (PySem.W.plainGet_of hg).1 (PySem.W.findObj_own hh ha rfl (by rw [hl,hv])) hv' h
theorem ZjT(X:K.In s.heap)(I:ObjM s.heap x dx C mA)(hg:PySem.W.plainGet K C name=true)
   (hf:PySem.W.findIn K (.ref C) name=some (some (.ref f))) (ht:PySem.W.isFn K (.ref f)=true) (hv:mA name=none) (h:Q (.ref f,[.ref x]) s) :
   wpAny (model prog w) A (getMethod (.ref x) name pl) Q E s:=by
 obtain ⟨od,J,hl⟩:=I.look;exact PySem.W.method_fn X J (PySem.W.plainGet_of hg).1 (PySem.W.plainGet_of hg).2 hf (beq_iff_eq.mp ht) (by show (PySem.W.lookIn name od).map (·.isSome)=some false;rw [hl,hv];rfl) h
end
theorem ZcE.some_of(r:ZcE (some v) o):∃ u,o=some u/\RelV v u:=by
 cases o with
 | none=>exact (show False from r).elim
 | some u=>exact ⟨u,rfl,r⟩
theorem ZcE.none_of(r:ZcE none o):o=none:=by
 cases o with
 | none=>rfl
 | some u=>exact (show False from r).elim
theorem ZiA(r:RelV v u):PySem.W.handedIn u=true:=by
 cases v with
 | non=>cases (show u=Value.none from r);rfl
 | bl b=>cases (show u=Value.bool b from r);rfl
 | int i=>obtain ⟨t,e⟩:=(show ∃ t,u=Value.int i t from r);cases e;rfl
 | str x=>obtain ⟨t,e⟩:=(show ∃ t,u=Value.str x t from r);cases e;rfl
 | byt b=>obtain ⟨t,e⟩:=(show ∃ t,u=Value.bytes b t from r);cases e;rfl
 | flt b=>obtain ⟨t,e⟩:=(show ∃ t,u=Value.float b t from r);cases e;rfl
 | ref a=>cases (show u=Value.ref a from r);rfl
 | ty n=>cases (show u=Value.type n from r);rfl
section
variable {P:Program}{w:World}{H H':Hp}{h h':Heap}{a C dx:Addr}{fs fs':List (Str×V)}
theorem ZhH(hok:HOk P w H h)(e:H a=some (.ins C dx fs)):∃ mA,ObjM h a dx C mA/\(∀ f,ZcE (fs.lookup f) (mA f))/\PySem.Within mA (fs.map (·.1))/\fs.length<=1000/\H dx=some (.own a):=by
 obtain ⟨d,z,ne,ob,mA,n,r,q⟩:=(show ZJ P w H h a (.ins C dx fs) from hok a _ e)
 exact ⟨mA,⟨ob,n,ne⟩,r,q,z,d⟩
end
structure Cls(K:PySem.W.Frag)(C:Addr):Prop where
 pg:PySem.W.plainGet K C Str.empty=true
 hd:PySem.W.hasDictIn K C=true
 po:PySem.W.plainOver K C=true
 sa:PySem.W.findIn K (.ref C) "__setattr__" = some (some (.builtin "object.__setattr__"))
theorem Cls.get{K:PySem.W.Frag}(c:Cls K C)(f:Str):PySem.W.plainGet K C f=true:=c.pg
noncomputable def ZcF(K:PySem.W.Frag)(C:Addr)(f:Str):Prop:=PySem.W.findIn K (.ref C) f=some none
structure Meth(K:PySem.W.Frag)(C:Addr)(m:Str)(f:Addr):Prop where
 at_:PySem.W.findIn K (.ref C) m=some (some (.ref f))
 fn:PySem.W.isFn K (.ref f)=true
 kp:PySem.W.keepIn K (.ref f)=true
section
variable {X:Cx}{pins:List (Addr×Obj)}{Z:St}{H:Hp}{s:Shared}{a C dx:Addr}{fs:List (Str×V)}{f:Str}{v:V}{A:Around}{E:Value->Shared->Prop}
theorem ZgV(I:Inv X pins Z H s)(e:H a=some (.ins C dx fs))(c:Cls X.K C)(n:ZcF X.K C f)(l:fs.lookup f=some v)
   (h:∀ u s',Inv X pins Z H s'->RelV v u->Q u s'):wpAny (model X.prog X.w) A (getAttr (.ref a) f b) Q E s:=by
 obtain ⟨mA,O_,r,_,_,_⟩:=ZhH I.hok e;obtain ⟨u,hu,ru⟩:=ZcE.some_of (v:=v) (o:=mA f) (by rw [<- l];exact r f);exact Zlx I.kIn O_ (c.get f) c.hd n hu (ZiA ru) (h u _ (I.tok _) ru)
theorem ZdE(I:Inv X pins Z H s)(e:H a=some (.ins C dx fs))(c:Cls X.K C)(k:Meth X.K C m g)(l:fs.lookup m=none)
   (h:Q (.ref g,[.ref a]) s):wpAny (model X.prog X.w) A (getMethod (.ref a) m pl) Q E s:=by
 obtain ⟨mA,O_,r,_,_,_⟩:=ZhH I.hok e;have hn:mA m=none:=ZcE.none_of (by rw [<- l];exact r m);exact ZjT I.kIn O_ (c.get m) k.at_ k.fn hn h
theorem Zl3(hb:attributeBase e f env (eval e env)=eval e env)
   (h:wpAny (model prog w) A (eval e env) (fun o s₁=>wpAny (model prog w) A (getAttr o f true) Q E s₁) E s):wpAny (model prog w) A (eval (.Attribute e f pos) env) Q E s :=
 Attribute_any_ h (by rw [arm_eval_Attribute,hb])
end
noncomputable def Zqi(K:PySem.W.Frag)(ta:TE)(f:Str):TE:=fun Z H Q=>ta Z H fun x H1=>∃ a C dx fs v,x=.ref a/\H1 a=some (.ins C dx fs)/\Cls K C/\ZcF K C f/\fs.lookup f=some v/\Q v H1
section
variable {X:Cx}{o e value:Expr}{f:Str}{pos pos' tpos:Pos}{ta tv:TE}
theorem Znf(he:PE X e ta)(hb:attributeBase e f X.env (eval e X.env)=eval e X.env):PE X (.Attribute e f pos) (Zqi X.K ta f):=by
 intro pins s Z H Q I h;refine Zl3 hb (thn (he pins s Z H _ I h) fun u s1 ⟨x,H1,I1,rx,a,C,dx,fs,v,ex,ea,c,n,l,q⟩=>?_);subst ex;obtain rfl:u=Value.ref a:=rx;exact ZgV I1 ea c n l fun u' s2 I2 ru=>⟨v,H1,I2,ru,q⟩
end
end L2
namespace L2
open PySem PySem.Spec PyProof.Rows
structure Room(k:Nat)(A:Around):Prop where
 hd:A.handled=none
 dp:A.depth+k+5<recursionLimit
 un:A.units+4 * k+1300<cLine
 gd:A.guards=some []
theorem Room.mono(r:Room k A)(h:j<=k):Room j A:=⟨r.hd,by have:=r.dp;lia,by have:=r.un;lia,r.gd⟩
theorem Room.deeper(r:Room (k+1) A)(env:Env):Room k (A.deeper env) :=
 ⟨r.hd,by have:=r.dp;show A.depth+1+k+5<_;lia,by have:=r.un;show A.units+3+4 * k+1300<_;lia,r.gd⟩
theorem Room.depth(r:Room k A):A.depth<recursionLimit:=by have:=r.dp;lia
noncomputable def Zow:TA:=fun _ H Q=>Q [] H
noncomputable def ZoA(ta:TE)(tr:TA):TA:=fun Z H Q=>ta Z H fun x H1=>tr Z H1 fun xs H2=>Q (x::xs) H2
section
variable {X:Cx}{e:Expr}{es:List Expr}{te:TE}{t:TA}{pos:Pos}
theorem ZeT:PA X [] Zow:=fun _ _ _ _ H Q I h=>Calls.spliced_nil ⟨[],H,I,.nil,h⟩
theorem Zdc(ha:PE X e te)(hr:PA X es t)(hs:starEach (e::es) X.env=(false,eval e X.env)::starEach es X.env:=by rfl):PA X (e::es) (ZoA te t):=by
 intro pos pins s Z H Q I h;rw [hs];show wpAny _ _ (spliced ((false,eval e X.env)::backTo pos (starEach es X.env))) _ _ s;refine Calls.spliced_cons (thn (ha pins s Z H _ I h) fun u s1 ⟨x,H1,I1,r1,q1⟩=>?_);exact thn (hr pos pins s1 Z H1 _ I1 q1) fun us s2 ⟨xs,H2,I2,r2,q2⟩=>⟨x::xs,H2,I2,.cons r1 r2,q2⟩
noncomputable def Zqa(t:TA):TE:=fun Z H Q=>t Z H fun xs H1=>xs.length<=sizeLine/\∀ p,H1 p=none->Q (.ref p) (upd H1 p (.tup xs))
noncomputable def Zqf(t:TA):TE:=fun Z H Q=>t Z H fun xs H1=>xs.length<=sizeLine/\∀ p,H1 p=none->Q (.ref p) (upd H1 p (.lst xs))
theorem Zm9{x1}(h:PA X es t):PE X (.Tuple es x1 pos) (Zqa t):=by
 intro pins s Z H Q I hq;refine wpAny_Tuple_spliced (thn (h pos pins s Z H _ I hq) fun us s1 ⟨xs,H1,I1,r,z,q⟩=>⟨by rw [<- r.length];exact z,?_⟩);have hf:H1 s1.heap.objs.size=none:=I1.hok.fresh (Oq _);refine ⟨.ref s1.heap.objs.size,upd H1 s1.heap.objs.size (.tup xs),I1.laid (t':=s1.toks) (fun b u e=>Od _ e) (Oq _) ?_,rfl,q _ hf⟩;exact ⟨z,us,r,⟨_,Oj _ rfl,rfl,rfl,_,rfl⟩⟩
theorem Znd(h:PA X es t):PE X (.List es pos) (Zqf t):=by
 intro pins s Z H Q I hq;refine wpAny_List_spliced (thn (h pos pins s Z H _ I hq) fun us s1 ⟨xs,H1,I1,r,z,q⟩=>⟨by rw [<- r.length];exact z,?_⟩);have hf:H1 s1.heap.objs.size=none:=I1.hok.fresh (Oq _);refine ⟨.ref s1.heap.objs.size,upd H1 s1.heap.objs.size (.lst xs),I1.laid (t':=s1.toks) (fun b u e=>Od _ e) (Oq _) ?_,rfl,q _ hf⟩;exact ⟨z,us,0,r,Oj _ rfl⟩
end
noncomputable abbrev Sp:=List V->Hp->VK->XK->Prop
noncomputable abbrev CXT:=List Env->Hp->Shared->XK->Value->Shared->Prop
structure Env0(P:Program)(w:World)(K:PySem.W.Frag)(mg:Str->Option Value)(base:Heap)(A:Around)(outer:List Env)(s:Shared)(H:Hp):Prop where
 frames:A.frames=some outer
 mod:Mod K mg base
 bs:∀ b o,base.get? b=some o->s.heap.get? b=some o/\H b=none
 bsz:base.objs.size<=s.heap.objs.size
 funs:s.heap.FunFrames base outer
 frf:∀ b∈frs outer,H b=none
 hok:HOk P w H s.heap
 bare:AllBare s.gens
noncomputable def CE(outer:List Env)(P:Program)(w:World)(H:Hp)(s:Shared)(Q:VK)(u:Value)(s':Shared):Prop :=
 ∃ v H',s'.os=s.os/\AllBare s'.gens/\Un (frs outer) [] H H' s.heap s'.heap/\HOk P w H' s'.heap/\RelV v u/\Q v H'
noncomputable def CR(CX:CXT)(outer:List Env)(P:Program)(w:World)(H:Hp)(s:Shared)(Q:VK)(E:XK)(r:Result)(s':Shared):Prop :=
 match r with
 | .ok (.ret u)=>CE outer P w H s Q u s'
 | .ok _=>False
 | .error e=>CX outer H s E e s'
structure FnOk(P:Program)(w:World)(K:PySem.W.Frag)(mg:Str->Option Value)(base:Heap)(CX:CXT)(k:Nat)(f:Addr)(fd:FuncData)(ps:List Str)(sp:Sp):Prop where
 len:∀ vs H Q E,sp vs H Q E->vs.length=ps.length
 run:∀ (A:Around) (outer:List Env) (s:Shared) (H:Hp) (args:Args) (us:List Value) (vs:List V) (Q:VK) (E:XK),Room k A->Env0 P w K mg base A outer s H->BindsTo s fd args (ps.zip us)->Zd vs us->sp vs H Q E ->
   codeAny (model P w) A (.call (.ref f) args) (CR CX outer P w H s Q E) s
theorem FnOk.imp{P:Program}{w:World}{K:PySem.W.Frag}{mg:Str->Option Value}{base:Heap}{CX:CXT}{k:Nat}{f:Addr}{fd:FuncData}{ps:List Str}{sp sp':Sp}(F:FnOk P w K mg base CX k f fd ps sp)
   (h:∀ vs H Q E,sp' vs H Q E->sp vs H Q E):FnOk P w K mg base CX k f fd ps sp' :=
 ⟨fun vs H Q E q=>F.len vs H Q E (h _ _ _ _ q),fun A outer s H args us vs Q E hr he hb hv hs=>F.run A outer s H args us vs Q E hr he hb hv (h _ _ _ _ hs)⟩
section
variable {X:Cx}{pins:List (Addr×Obj)}{Z:St}{H:Hp}{s s':Shared}
theorem Inv.env0(I:Inv X pins Z H s):Env0 X.prog X.w X.K X.mg X.base X.A X.stack s H :=
 ⟨I.ok.frames,I.ok.mod,I.bs,OE I.ok.bsz I.sz,I.stack,I.stkFree,I.hok,I.bare⟩
theorem Inv.after(I:Inv X pins Z H s)(h:CE X.stack X.prog X.w H s Q u s'):EP X pins Z Q u s':=by
 obtain ⟨v,H',os,bare,un,hok,r,q⟩:=h;obtain ⟨hh,g,d,t,os'⟩:=s';obtain rfl:os'=s.os:=os;exact ⟨v,H',I.call (h':=hh) (g':=g) (d':=d) (t':=t) (ch:=[]) un hok bare (fun b z=>absurd z (by simp)),r,q⟩
end
noncomputable def ZoB(sp:Sp)(dvs:List V)(E:XK)(t:TA):TE:=fun Z H Q=>t Z H fun vs H1=>sp (vs++dvs) H1 Q E
noncomputable def Zmb(C:Addr)(m:Str)(sp:Sp)(dvs:List V)(E:XK)(ta:TE)(t:TA):TE:=fun Z H Q=>ta Z H fun x H1=>∃ a dx fs,x=.ref a/\H1 a=some (.ins C dx fs)/\fs.lookup m=none /\
 t Z H1 fun vs H2=>sp (x::(vs++dvs)) H2 Q E
noncomputable def Binds(K:PySem.W.Frag)(fd:FuncData)(ps:List Str)(ds:List Value):Prop :=
 ∀ (s:Shared) (us:List Value),K.In s.heap->(us++ds).length=ps.length->BindsTo s fd ⟨us,[]⟩ (ps.zip (us++ds))
theorem Binds.all{K:PySem.W.Frag}(h:∀ us:List Value,us.length=ps.length->bindArgs fd ⟨us,[]⟩=pure (ps.zip us)):Binds K fd ps []:=fun s us _ hl=>by
 rw [List.append_nil] at hl ⊢;exact .of_eq (h us hl)
noncomputable def ZaY(CX:CXT)(X:Cx)(E:XK):Prop:=∀ (pins:List (Addr×Obj)) (Z:St) (H:Hp) (s:Shared) (e:Value) (s':Shared),Inv X pins Z H s->CX X.stack H s E e s'->X.xe e s'
section
variable {X:Cx}{CX:CXT}{k:Nat}{f C:Addr}{fd:FuncData}{ps:List Str}{sp:Sp}{dvs:List V}{ds:List Value}{E:XK}{x m:Str}{p pos apos:Pos}{e o:Expr}{es:List Expr}{ta:TE}{t:TA}
theorem ZgE(F:FnOk X.prog X.w X.K X.mg X.base CX k f fd ps sp)(hr:Room k X.A)(hb:Binds X.K fd ps ds)(hd:Zd dvs ds)(hx:ZaY CX X E)
   (I:Inv X pins Z H s) (r:Zd vs us) (h:sp (vs++dvs) H Q E):wpAny (model X.prog X.w) X.A (call (.ref f) us) (EP X pins Z Q) X.xe s:=by
 have r2:Zd (vs++dvs) (us++ds):=r.append hd;have hl:(us++ds).length=ps.length:=by rw [<- r2.length];exact F.len _ _ _ _ h
 refine wpAny_call (codeAny_mono (F.run X.A X.stack s H ⟨us,[]⟩ (us++ds) (vs++dvs) Q E hr I.env0 (hb s us I.kIn hl) r2 h) fun r s' hq=>?_);cases r with
 | error e=>exact hx pins Z H s e s' I hq
 | ok fl =>
   cases fl with
   | ret u=>exact I.after hq
   | next=>exact False.elim hq
   | brk=>exact False.elim hq
   | cont=>exact False.elim hq
theorem Zk3(F:FnOk X.prog X.w X.K X.mg X.base CX k f fd ps sp)(hr:Room k X.A)(hg:Gl X x)(hm:X.mg x=some (.ref f))(hk:PySem.W.keepIn X.K (.ref f)=true)(hb:Binds X.K fd ps ds)(hd:Zd dvs ds)(hx:ZaY CX X E)
   (ha:PA X (e::es) t) (hdb:(x==("__debug__" : Str))=false:=by decide) (he:starEach (e::es) X.env=(false,eval e X.env)::starEach es X.env:=by rfl) (hpl:(backTo pos (starEach es X.env)).any (·.1)=false:=by rfl) :
   PE X (.Call (.Name x p) (e::es) [] pos) (ZoB sp dvs E t):=by
 intro pins s Z H Q I h;refine wpAny_Call_Name_kw (Zhz I hg hm ?_ hdb);refine PySem.W.callWith_K (h₀:=X.base) I.ok.mod.kin hk (thn (ha pos pins s Z H _ I h) fun us s1 ⟨vs,H1,I1,r,q⟩=>⟨I1.kIn,?_⟩) he hpl;exact ZgE F hr hb hd hx I1 r q
theorem ZkY(he:PE X o ta)(c:Cls X.K C)(hm:Meth X.K C m f)(F:FnOk X.prog X.w X.K X.mg X.base CX k f fd ps sp)(hr:Room k X.A)(hb:Binds X.K fd ps ds)(hd:Zd dvs ds)(hx:ZaY CX X E)(ha:PA X (e::es) t)
   (hst:starEach (e::es) X.env=(false,eval e X.env)::starEach es X.env:=by rfl) (hpl:(backTo pos (starEach es X.env)).any (·.1)=false:=by rfl)
   (ht:eval (.Call (.Attribute o m apos) (e::es) [] pos) X.env=(do
     let ov <- eval o X.env
     standAt apos.atName
     let (f,first) <- holding [ov] (getMethod ov m pl)
     callWith pos f first (backTo pos (starEach (e::es) X.env)) (backToKw pos (keywordEach [] X.env))):=by rfl) :
   PE X (.Call (.Attribute o m apos) (e::es) [] pos) (Zmb C m sp dvs E ta t):=by
 intro pins s Z H Q I h;refine PySem.W.methodCall_KW (pl:=pl) (thn (he pins s Z H _ I h) fun u s1 ⟨x,H1,I1,rx,a,dx,fs,ex,ea,l,q⟩=>?_) ht;subst ex;obtain rfl:u=Value.ref a:=rx;refine ZdE I1 ea c hm l ?_;refine PySem.W.callWith_K (first:=[.ref a]) (h₀:=X.base) I.ok.mod.kin hm.kp (thn (ha pos pins s1 Z H1 _ I1 q) fun us s2 ⟨vs,H2,I2,r,q2⟩=>⟨I2.kIn,?_⟩) hst hpl;exact ZgE (us:=.ref a::us) (vs:=.ref a::vs) F hr hb hd hx I2 (.cons rfl r) q2
theorem Zju(he:PE X o ta)(c:Cls X.K C)(hm:Meth X.K C m f)(F:FnOk X.prog X.w X.K X.mg X.base CX k f fd ps sp)(hr:Room k X.A)(hb:Binds X.K fd ps ds)(hd:Zd dvs ds)(hx:ZaY CX X E)
   (ht:eval (.Call (.Attribute o m apos) [] [] pos) X.env=(do
     let ov <- eval o X.env
     standAt apos.atName
     let (f,first) <- holding [ov] (getMethod ov m pl)
     callWith pos f first (backTo pos (starEach [] X.env)) (backToKw pos (keywordEach [] X.env))):=by rfl) :
   PE X (.Call (.Attribute o m apos) [] [] pos) (Zmb C m sp dvs E ta Zow):=by
 intro pins s Z H Q I h;refine PySem.W.methodCall_KW (pl:=pl) (thn (he pins s Z H _ I h) fun u s1 ⟨x,H1,I1,rx,a,dx,fs,ex,ea,l,q⟩=>?_) ht;subst ex;obtain rfl:u=Value.ref a:=rx;refine ZdE I1 ea c hm l ?_;exact PySem.W.callWith_K0 (first:=[.ref a]) I1.kIn hm.kp (ZgE (us:=[.ref a]) (vs:=[.ref a]) F hr hb hd hx I1 (.cons rfl .nil) q)
structure Mk(K:PySem.W.Frag)(C f:Addr):Prop where
 makes:PySem.W.makesIn K C=true
 init:PySem.W.findIn K (.ref C) "__init__" = some (some (.ref f))
 fn:PySem.W.isFn K (.ref f)=true
 kp:PySem.W.keepIn K (.ref C)=true
end
structure FnScope(N P:List Str)(sc:Scope):Prop where
 kind:sc.kind=.function
 co:sc.isCoroutine=false
 gen:sc.isGenerator=false
 nd:N.Nodup
 pre:N.take P.length=P
 par:∀ x∈P,sc.names.lookup x=some .local\/sc.names.lookup x=some .cell
 nofree:∀ y∈sc.names,y.2≠.free
theorem ZeJ{kindOf:Str->Option NameKind}:∀ {binds:List (Str×Value)}{m:Str->Option Value},(∀ v,(x,v) ∉ binds)->bindL kindOf binds m x=m x
 | [],_,_=>rfl
 | (n,v)::r,m,h=>by
   unfold bindL;rw [ZeJ fun w hw=>h w (Oh _ hw)];split
   . have:x≠n:=by rintro rfl;exact h v Oi
     simp [this]
   . rfl
theorem ZeL{kindOf:Str->Option NameKind}:∀ {binds:List (Str×Value)}{m:Str->Option Value},(∀ v,(x,v) ∉ binds)->bindC kindOf binds m x=m x
 | [],_,_=>rfl
 | (n,v)::r,m,h=>by
   unfold bindC;rw [ZeL fun w hw=>h w (Oh _ hw)];split
   . rfl
   . have:x≠n:=by rintro rfl;exact h v Oi
     simp [this]
theorem ZeK{kindOf:Str->Option NameKind}:∀ {P:List Str}{vs:List Value}{i:Nat}{m:Str->Option Value},P.Nodup->P[i]? = some x->vs[i]? = some v->kindOf x=some .local ->
   bindL kindOf (P.zip vs) m x=some v
 | [],_,_,_,_,h,_,_=>by simp at h
 | _::_,[],_,_,_,_,h,_=>by simp at h
 | p::P,w::vs,0,m,nd,h1,h2,hk=>by
   simp at h1 h2;subst h1;subst h2;show bindL kindOf ((p,w)::P.zip vs) m p=_;unfold bindL;rw [ZeJ fun v hv=>(List.nodup_cons.mp nd).1 (List.of_mem_zip hv).1,if_pos hk];simp
 | p::P,w::vs,i+1,m,nd,h1,h2,hk=>by
   show bindL kindOf ((p,w)::P.zip vs) m x=_;unfold bindL;exact ZeK (i:=i) (List.nodup_cons.mp nd).2 (by simpa using h1) (by simpa using h2) hk
theorem ZeM{kindOf:Str->Option NameKind}:∀ {P:List Str}{vs:List Value}{i:Nat}{m:Str->Option Value},P.Nodup->P[i]? = some x->vs[i]? = some v->kindOf x≠some .local ->
   bindC kindOf (P.zip vs) m x=some v
 | [],_,_,_,_,h,_,_=>by simp at h
 | _::_,[],_,_,_,_,h,_=>by simp at h
 | p::P,w::vs,0,m,nd,h1,h2,hk=>by
   simp at h1 h2;subst h1;subst h2;show bindC kindOf ((p,w)::P.zip vs) m p=_;unfold bindC;rw [ZeL fun v hv=>(List.nodup_cons.mp nd).1 (List.of_mem_zip hv).1,if_neg hk];simp
 | p::P,w::vs,i+1,m,nd,h1,h2,hk=>by
   show bindC kindOf ((p,w)::P.zip vs) m x=_;unfold bindC;exact ZeM (i:=i) (List.nodup_cons.mp nd).2 (by simpa using h1) (by simpa using h2) hk
noncomputable def start(N:List Str)(vs:List V):St:=vs.map some++List.replicate (N.length - vs.length) none
noncomputable def Zg1(CX:CXT)(P:Program)(w:World)(K:PySem.W.Frag)(mg:Str->Option Value)(base:Heap)(N:List Str)(qual:Str)(scope:Scope)(f:Addr)(cd:Value)(A:Around)(outer:List Env)(s:Shared)(H:Hp)(E:XK):Cx where
 prog:=P
 w:=w
 K:=K
 mg:=mg
 base:=base
 A:=A.deeper (envOfC qual scope s.heap.objs.size f cd)
 N:=N
 s₀:=s
 H₀:=H
 env:=envOfC qual scope s.heap.objs.size f cd
 outer:=outer
 stack:=envOfC qual scope s.heap.objs.size f cd::outer
 ex:=[]
 calm:=true
 fn:=fun _=>true
 pn:=[]
 xe:=fun e s'=>wpAny (model P w) (A.deeper (envOfC qual scope s.heap.objs.size f cd)) (leaving (envOfC qual scope s.heap.objs.size f cd) e) (fun _ s''=>CX outer H s E e s'') (fun e' s''=>CX outer H s E e' s'') s'
theorem Zgm{sc:Scope}(h:sc.names.lookup x=some .cell):∃ c,(cellsFrom n sc.names []).lookup x=some c:=by
 have q:=PySem.W.cellsFrom_some sc.names n [] (.inl h);exact Option.isSome_iff_exists.mp q
theorem Ziy{CX:CXT}{P:Program}{w:World}{K:PySem.W.Frag}{mg:Str->Option Value}{base:Heap}{N ps:List Str}{qual:Str}{scope:Scope}{f:Addr}{cd:Value}{A:Around}{outer:List Env}{s s1:Shared}{H:Hp}{E:XK}{us:List Value}{vs:List V}
   (S_:FnScope N ps scope) (hd:A.handled=none) (e0:Env0 P w K mg base A outer s H) (hl:vs.length=ps.length) (r:Zd vs us)
   (x:InCallC s s.heap.objs.size (bindL (envOfC qual scope s.heap.objs.size f cd).kindOf (ps.zip us) fun _=>none) (cellsFrom (s.heap.objs.size+1) scope.names []) (bindC (envOfC qual scope s.heap.objs.size f cd).kindOf (ps.zip us) fun _=>none) s1) :
   Inv (Zg1 CX P w K mg base N qual scope f cd A outer s H E) [] (start N vs) H s1:=by
 have hpl:ps.length<=N.length:=by have:=congrArg List.length S_.pre;rw [List.length_take] at this;lia
 obtain ⟨h1,tk,rfl,hk⟩:=x.done;have noA:∀ b:Addr,b ∉ (Zg1 CX P w K mg base N qual scope f cd A outer s H E).ex:=fun b z=>absurd (show b∈([]:List Addr) from z) (by simp);refine ⟨⟨e0.mod,S_.kind,rfl,rfl,Oq _,fun y z c h1 h2=>?_,fun y hy=>?_,fun y c _ h=>?_,fun _=>hd,Around.frames_deeper e0.frames,.inr ⟨rfl,rfl⟩,fun b z=>absurd z (noA b),e0.bs,e0.bsz,fun b _ _=>noA b,fun b z=>absurd z (noA b),e0.funs,e0.frf⟩,
   rfl,e0.bare,Un.kept hk,⟨_,x.toInCall.ns,fun i y v h1 h2 h3=>?_⟩,fun y c h=>⟨_,x.cell y c h⟩,e0.hok.fresh (Oq _),fun y c h=>?_,fun p hp=>absurd (show p∈([]:List (Addr×Obj)) from hp) (by simp),e0.hok.kept hk,?_⟩
 . exact name_of_addr x.apart (PySem.mem_of_lookup h1) (PySem.mem_of_lookup h2)
 . have hy:scope.names.lookup y=some .cell\/scope.names.lookup y=some .free:=hy;rcases hy with hy|hy
   . exact Zgm hy
   . exact absurd rfl (S_.nofree _ (PySem.mem_of_lookup hy))
 . exact Nat.le_of_lt (x.above y c (PySem.mem_of_lookup h))
 . have hi:i<vs.length:=by
     unfold start at h2;by_cases hi:i<vs.length
     . exact hi
     . rw [Om (by simpa using hi)] at h2;rw [List.getElem?_replicate] at h2;split at h2<;>cases h2
   have ha:vs[i]? = some v:=by
     unfold start at h2;rw [Oe (by simpa using hi),On] at h2;cases e:vs[i]? with
     | none=>rw [e] at h2;cases h2
     | some a=>rw [e] at h2;cases h2;rfl
   obtain ⟨u,hu,rv⟩:=r.get ha;have hp:ps[i]? = some y:=by
     rw [<- S_.pre,List.getElem?_take_of_lt (by lia)];exact h1
   have ndP:ps.Nodup:=by rw [<- S_.pre];exact S_.nd.sublist (List.take_sublist _ _)
   refine ⟨u,rv,?_⟩;rcases S_.par y (O1 hp) with k|k
   . exact .inl ⟨k,ZeK ndP hp hu k⟩
   . obtain ⟨c,e⟩:=Zgm (n:=s.heap.objs.size+1) k;refine .inr ⟨.inl k,c,e,?_⟩;have q:=x.cell y c e;rw [ZeM ndP hp hu (by show scope.names.lookup y≠_;rw [k];decide)] at q;exact q
 . exact e0.hok.fresh (Nat.le_of_lt (x.above y c (PySem.mem_of_lookup h)))
 . unfold start;show _=N.length;rw [OA,List.length_map,List.length_replicate]
   lia
theorem Zpz{CX:CXT}{P:Program}{w:World}{K:PySem.W.Frag}{mg:Str->Option Value}{base:Heap}{k:Nat}{f:Addr}{name qual:Str}{params:Arguments}{body:List Stmt}{scope:Scope}{dV kV doc pm cdv ct oc:Value}{an od:Option Addr}
   {osl:Array (Option Value)}{N ps:List Str}{sp:Sp} (lk:K.lookup f=some ⟨oc,od,.func (PySem.W.fnOf name qual params body scope dV kV doc pm an cdv ct),osl⟩) (hcd:PySem.W.codeIn K cdv qual=true) (S_:FnScope N ps scope)
   (len:∀ vs H Q E,sp vs H Q E->vs.length=ps.length)
   (hbody:∀ (A:Around) (outer:List Env) (s:Shared) (H:Hp) (vs:List V) (Q:VK) (E:XK),Room k (A.deeper (envOfC qual scope s.heap.objs.size f cdv))->sp vs H Q E ->
     ∃ t,PSs (Zg1 CX P w K mg base N qual scope f cdv A outer s H E) body t/\t {nx:=fun _ H'=>Q .non H',rt:=Q} (start N vs) H) :
   FnOk P w K mg base CX (k+1) f (PySem.W.fnOf name qual params body scope dV kV doc pm an cdv ct) ps sp:=by
 refine ⟨len,fun A outer s H args us vs Q E hr e0 hb r hsp=>?_⟩;have hl:=len _ _ _ _ hsp;have KX:K.In s.heap:=e0.mod.kin.keeps fun b o e=>(e0.bs b o e).1;have lim:s.heap.NoLimit:=e0.mod.nolimit.keeps fun b o e=>(e0.bs b o e).1;have hkind:∀ y∈ps.zip us,scope.names.lookup y.1=some .local\/(scope.names.lookup y.1=some .cell/\((cellsFrom (s.heap.objs.size+1) scope.names []).lookup y.1).isSome=true):=fun ⟨n,v⟩ hy=>by
   rcases S_.par n (List.of_mem_zip hy).1 with q|q
   . exact .inl q
   . exact .inr ⟨q,PySem.W.cellsFrom_some _ _ _ (.inl q)⟩
 refine codeAny_call_function hr.depth (KX _ _ lk) rfl S_.co S_.gen rfl (PySem.W.codeRec_of KX hcd) (hb _ _ _ _ ?_);refine wpAny_newFunctionEnv_cells S_.kind hkind fun env he s1 x=>?_;subst he;refine ⟨lim.keeps x.toInCall.keep,codeAny_func ?_⟩;obtain ⟨t,ht,hq⟩:=hbody A outer s H vs Q E (hr.deeper _) hsp;have I:Inv (Zg1 CX P w K mg base N qual scope f cdv A outer s H E) [] (start N vs) H s1:=Ziy S_ hr.hd e0 hl r x;refine wpAny_mono (ht [] s1 (start N vs) H _ I hq) (fun fl s' hs=>?_) fun e s' hs=>hs;have fin:∀ {σ':St}{H':Hp}{v:V}{u:Value},Inv (Zg1 CX P w K mg base N qual scope f cdv A outer s H E) [] σ' H' s'->RelV v u->Q v H'->CE outer P w H s Q u s' :=
   fun {σ' H' v u} J rv q=>⟨v,H',J.os,J.bare,J.base,J.hok,rv,q⟩
 cases fl with
 | ret u =>
   obtain ⟨v,σ',H',J,rv,q⟩:=hs;exact fin J rv q
 | next =>
   obtain ⟨σ',H',J,q⟩:=hs;exact fin (v:=V.non) (u:=Value.none) J rfl q
 | brk =>
   obtain ⟨_,_,_,q⟩:=hs;exact False.elim q
 | cont =>
   obtain ⟨_,_,_,q⟩:=hs;exact False.elim q
end L2
namespace L2
open PySem PySem.Spec PyProof.Rows
section
variable {X:Cx}{x:Str}{p pos:Pos}{e:Expr}{es:List Expr}{t:TA}{id T:String}{r:List V->Hp->VK->Prop}
noncomputable def tCB(r:List V->Hp->VK->Prop)(t:TA):TE:=fun Z H Q=>t Z H fun vs H1=>r vs H1 Q
theorem Zdu (hc:Zau X (.builtin id) r) (hg:Gl X x) (hm:X.mg x=none) (hv:bootBuiltins x=some (.builtin id)) (ha:PA X (e::es) t) (hn:x ≠ "__name__" := by decide) (hdb:(x==("__debug__" : Str))=false:=by decide)
   (he:starEach (e::es) X.env=(false,eval e X.env)::starEach es X.env:=by rfl) (hpl:(backTo pos (starEach es X.env)).any (·.1)=false:=by rfl):PE X (.Call (.Name x p) (e::es) [] pos) (tCB r t):=by
 intro pins s Z H Q I h;refine wpAny_Call_Name_kw (ZaO I hg hm hv ?_ hn hdb);exact PyProof.Rows.callWith_builtin1 (thn (ha pos pins s Z H _ I h) fun us s1 ⟨vs,H1,I1,r1,q1⟩=>hc pins s1 Z H1 vs us Q I1 r1 q1) he hpl
theorem Zev (hc:Zau X (.type T) r) (hg:Gl X x) (hm:X.mg x=none) (hv:bootBuiltins x=some (.type T)) (ha:PA X (e::es) t) (hn:x ≠ "__name__" := by decide) (hdb:(x==("__debug__" : Str))=false:=by decide)
   (he:starEach (e::es) X.env=(false,eval e X.env)::starEach es X.env:=by rfl) (hpl:(backTo pos (starEach es X.env)).any (·.1)=false:=by rfl):PE X (.Call (.Name x p) (e::es) [] pos) (tCB r t):=by
 intro pins s Z H Q I h;refine wpAny_Call_Name_kw (ZaO I hg hm hv ?_ hn hdb);exact PyProof.Rows.callWith_type1 (thn (ha pos pins s Z H _ I h) fun us s1 ⟨vs,H1,I1,r1,q1⟩=>hc pins s1 Z H1 vs us Q I1 r1 q1) he hpl
end
end L2
namespace HT
open PySem PyProof.Rows
section
variable {prog:Program}{w:World}{A:Around}{E:Value->Shared->Prop}{s:Shared}
theorem ZlP(ht:IsTup s.heap t vs.toArray)(hb:IsTup s.heap b ws.toArray)(hv:vs≠[])
   (h1:ws=[]->Q (.ref t) s) (h2:ws≠[]->Q (.ref s.heap.objs.size) {s with heap:=s.heap.push {cls:=.type "tuple",data:=.seq (vs++ws).toArray}})
   (hsz:vs.length+ws.length<=sizeLine):wpAny (model prog w) A (binaryOp .Add (.ref t) (.ref b)) Q E s:=by
 obtain ⟨⟨cls,dd,data,sl⟩,ho,hc,n,hd⟩:=id ht;obtain ⟨⟨cls2,dd2,data2,sl2⟩,ho2,hc2,n2,hd2⟩:=id hb;simp only at hc hd hc2 hd2;subst hc hd hc2 hd2;have e:vs.toArray++ws.toArray=(vs++ws).toArray:=by simp
 by_cases hw:ws=[]
 . exact concat_meets ⟨_,ho,rfl⟩ ⟨_,ho2,rfl⟩ noFill_tuple_add seq_tuple_add PySem.F.slot_tuple_add PySem.F.entry_tuple_add (PySem.F.args_tuple_add_2 _ _)
     (tuple_addW1 t b vs.toArray ws.toArray n n2 dd dd2 sl sl2 (by simpa using hv) (by simp [hw])) ⟨ho,ho2,h1 hw⟩
 . refine concat_meets ⟨_,ho,rfl⟩ ⟨_,ho2,rfl⟩ noFill_tuple_add seq_tuple_add PySem.F.slot_tuple_add PySem.F.entry_tuple_add (PySem.F.args_tuple_add_2 _ _)
     (tuple_addW2 t b vs.toArray ws.toArray n n2 dd dd2 sl sl2 (by simpa using hv) (by simpa using hw) (by rw [Of,Of];exact hsz)) ⟨ho,ho2,?_⟩
   rw [e];exact h2 hw
noncomputable def sIx(n d:Nat):Option Int->Nat
 | none=>d
 | some v=>if v<0 then (v+(n:Int)).toNat else min v.toNat n
theorem ZmV(n d:Nat)(hd:d<=n)(o:Option Int):sIx n d o<=n:=by
 cases o with
 | none=>exact hd
 | some v =>
   show (if v<0 then (v+(n:Int)).toNat else min v.toNat n)<=n;by_cases hv:v<0
   . rw [if_pos hv];lia
   . rw [if_neg hv];exact Nat.min_le_right _ _
theorem ZhT(v:Int)(n d:Nat):(if v<0 then max (v+(n:Int)) 0 else min v (n:Int))=((sIx n d (some v):Nat):Int):=by
 show (if v<0 then max (v+(n:Int)) 0 else min v (n:Int))=(((if v<0 then (v+(n:Int)).toNat else min v.toNat n):Nat):Int)
 by_cases hv:v<0
 . simp only [if_pos hv];lia
 . simp only [if_neg hv];lia
theorem Zg3(lo hi:Option Int)(n:Nat):Builtin.Slice.sliceAdjust lo hi 1 (n:Int)=(((sIx n 0 lo:Nat):Int),((sIx n n hi:Nat):Int)):=by
 have h1:¬ ((1:Int)<0):=by lia
 unfold Builtin.Slice.sliceAdjust;simp only [h1,if_false];refine Prod.ext ?_ ?_
 . cases lo with
   | none=>rfl
   | some v=>exact ZhT v n 0
 . cases hi with
   | none=>rfl
   | some v=>exact ZhT v n n
theorem ZgH(i j:Nat):Builtin.Slice.slicePlaces (i:Int) (j:Int) 1=j - i:=by
 unfold Builtin.Slice.slicePlaces;have h1:(1:Int) > 0:=by lia
 simp only [h1,if_true,Int.ediv_one];split<;>lia
theorem Zdo(p:IsPart v o)(h:Q o s):wpAny (model prog w) A (Builtin.Slice.slicePartIndex v) Q E s:=by
 cases p with
 | none=>exact slicePart_none h
 | int i t=>exact slicePart_int h
theorem Zak{sl:Addr}{vl vu:Value}{lo hi:Option Int}{n:Nat}{Q:Int×Int×Nat->Shared->Prop}(hs:s.heap.IsSliceOf sl vl vu .none)(pl:IsPart vl lo)(pu:IsPart vu hi)
   (h:Q (((sIx n 0 lo:Nat):Int),1,sIx n n hi - sIx n 0 lo) s):wpAny (model prog w) A (Builtin.Slice.sliceApplied (.ref sl) (pure (n:Int))) Q E s:=by
 obtain ⟨os,hos,hcs,hds⟩:=id hs;unfold Builtin.Slice.sliceApplied Builtin.Slice.sliceFields;refine wpAny_bind (wpAny_bind (wpAny_field hos hds (x:=vl) rfl (wpAny_bind (wpAny_field hos hds (x:=vu) rfl (wpAny_bind (wpAny_field hos hds (x:=.none) rfl (wpAny_pure ?_)))))));refine wpAny_bind (slicePart_none ?_);show wpAny _ _ (if ((1:Int)==0)=true then _ else _) _ _ s;rw [if_neg (by decide)];refine wpAny_bind (Zdo pl (wpAny_bind (Zdo pu (wpAny_bind (wpAny_pure ?_)))));show wpAny _ _ (match Builtin.Slice.sliceAdjust lo hi 1 (n:Int) with|(lo,hi)=>pure (lo,(1:Int),Builtin.Slice.slicePlaces lo hi 1)) _ _ s;rw [Zg3 lo hi n];show wpAny _ _ (pure (((sIx n 0 lo:Nat):Int),(1:Int),Builtin.Slice.slicePlaces ((sIx n 0 lo:Nat):Int) ((sIx n n hi:Nat):Int) 1)) _ _ s;rw [ZgH];exact wpAny_pure h
theorem Zjp(xs:Array Value)(i k:Nat):((List.range k).filterMap fun (m:Nat)=>xs[((i:Int)+(m:Int) * 1).toNat]?).toArray=((xs.toList.drop i).take k).toArray:=by
 have e:(fun (m:Nat)=>xs[((i:Int)+(m:Int) * 1).toNat]?)=fun m=>xs[i+m]? := by
   funext m;have:((i:Int)+(m:Int) * 1).toNat=i+m:=by lia
   rw [this]
 rw [e];have:=pick_run xs i k;rw [List.filterMap_map] at this;have e2:((fun x=>xs[x]?) ∘ fun x=>i+x)=fun m=>xs[i+m]? := rfl;rw [e2] at this;rw [this]
theorem ZbX{t sl:Addr}{items:Array Value}{vl vu:Value}{lo hi:Option Int}{Q:Value->Shared->Prop}(ht:IsTup s.heap t items)(hs:s.heap.IsSliceOf sl vl vu .none)(pl:IsPart vl lo)(pu:IsPart vu hi)
   (hw:¬ (sIx items.size 0 lo=0/\sIx items.size items.size hi=items.size))
   (h:Q (.ref s.heap.objs.size) {s with heap:=s.heap.push {cls:=.type "tuple",data:=.seq ((items.toList.drop (sIx items.size 0 lo)).take (sIx items.size items.size hi - sIx items.size 0 lo)).toArray}})
   (hsz:items.size<=sizeLine):wpAny (model prog w) A (getItem (.ref t) (.ref sl)) Q E s:=by
 have htake:sizeOk (.seq ((items.toList.drop (sIx items.size 0 lo)).take (sIx items.size items.size hi - sIx items.size 0 lo)).toArray):=by
   show ((items.toList.drop (sIx items.size 0 lo)).take (sIx items.size items.size hi - sIx items.size 0 lo)).toArray.size<=sizeLine;rw [Of,List.length_take,List.length_drop,Array.length_toList]
   lia
 have hj:sIx items.size items.size hi<=items.size:=ZmV _ _ (Oq _) hi;obtain ⟨os,hos,hcs,hds⟩:=id hs;have hTs:s.TypeIs (.ref sl) "slice" := ⟨os,hos,hcs⟩
 unfold getItem
 try with_reducible refine wpAny_holding ?_
 first|refine wpAny_bind (wpAny_pure ?_)|skip
 refine wpAny_bind (wpAny_sequenceKey ht.typeIs (by decide) ?_);refine wpAny_bind (wpAny_callSpecial?_slot (name:=O "__getitem__") ht.typeIs PyProof.Rows.slot_tuple_getitem
   (wpAny_call_entry PyProof.Rows.slot_tuple_getitem ht.typeIs entry_tuple_getitem ?_ (args_tuple_getitem _ _)))
 show wpAny _ _ (Builtin.Tuple.tupleItemsOf (.ref t) >>= _) _ _ s;refine wpAny_bind (tupleItemsOf_ ht ?_);refine wpAny_bind (wpAny_typeOf hTs ?_);rw [if_pos (by decide)];refine wpAny_bind (Zak hs pl pu ?_);have hno:¬ ((((sIx items.size 0 lo:Nat):Int)==0&&(1:Int)==1&&(sIx items.size items.size hi - sIx items.size 0 lo)==items.size)=true):=by
   intro q;rw [Oa,Oa] at q;have q1:((sIx items.size 0 lo:Nat):Int)=0:=eq_of_beq q.1.1;have q2:sIx items.size items.size hi - sIx items.size 0 lo=items.size:=eq_of_beq q.2;exact hw ⟨by lia,by lia⟩
 show wpAny _ _ (if (((sIx items.size 0 lo:Nat):Int)==0&&(1:Int)==1&&(sIx items.size items.size hi - sIx items.size 0 lo)==items.size)=true then _ else _) _ _ s;rw [if_neg hno,Zjp]
 first
   | exact wpAny_bind (m:=Builtin.Tuple.tupleExact _) (wpAny_newObj_type (wpAny_pure ⟨_,rfl,wpAny_pure h⟩) htake)
   | exact wpAny_bind (m:=Builtin.Tuple.tupleExact _) (wpAny_newObj_type (wpAny_bind (wpAny_pure (wpAny_pure ⟨_,rfl,wpAny_pure h⟩))) htake)
   | exact wpAny_bind (wpAny_bind (m:=Builtin.Tuple.tupleExact _) (wpAny_newObj_type (wpAny_pure (wpAny_pure ⟨_,rfl,wpAny_pure h⟩)) htake))
   | exact wpAny_bind (wpAny_bind (m:=Builtin.Tuple.tupleExact _) (wpAny_newObj_type (wpAny_pure ⟨_,rfl,wpAny_pure h⟩) htake))
end
end HT
namespace L2
open PySem PySem.Spec PyProof.Rows
noncomputable abbrev TO:=St->Hp->(Option Int->Hp->Prop)->Prop
noncomputable def PO(X:Cx)(e:Option Expr)(t:TO):Prop :=
 ∀ (pins:List (Addr×Obj)) (s:Shared) (Z:St) (H:Hp) (Q:Option Int->Hp->Prop),Inv X pins Z H s->t Z H Q ->
   wpAny (model X.prog X.w) X.A (evalPart e X.env) (fun u s'=>∃ o H',Inv X pins Z H' s'/\IsPart u o/\Q o H') X.xe s
noncomputable def Zku:TO:=fun _ H Q=>Q none H
noncomputable def Zou(t:TE):TO:=fun Z H Q=>t Z H fun x H1=>∃ i,x=.int i/\Q (some i) H1
section
variable {X:Cx}{e:Expr}{te:TE}{lo hi:Option Expr}{tl th:TO}{pos p2:Pos}
theorem ZkR:PO X none Zku:=by
 intro pins s Z H Q I h;rw [evalPart_none];exact wpAny_pure ⟨none,H,I,.none,h⟩
theorem ZkQ(h:PE X e te):PO X (some e) (Zou te):=by
 intro pins s Z H Q I hw;rw [evalPart_some];refine thn (h pins s Z H _ I hw) fun u s1 ⟨x,H1,I1,r1,q1⟩=>?_;obtain ⟨i,rfl,q⟩:=q1;obtain ⟨t,rfl⟩:=r1;exact ⟨some i,H1,I1,.int i t,q⟩
noncomputable def SlR(X:Cx)(r:V->Option Int->Option Int->Hp->VK->Prop):Prop :=
 ∀ (pins:List (Addr×Obj)) (s:Shared) (Z:St) (H:Hp) (x:V) (v vl vu:Value) (lo hi:Option Int) (sl:Addr) (Q:VK),Inv X pins Z H s->RelV x v->s.heap.IsSliceOf sl vl vu .none->IsPart vl lo->IsPart vu hi->r x lo hi H Q ->
   ∃ T id,typeLookup (.type T) "__getitem__" = pure (some (.builtin id))/\s.TypeIs v T/\wpAny (model X.prog X.w) X.A (getItem v (.ref sl)) (EP X pins Z Q) X.xe s
noncomputable def tSl(r:V->Option Int->Option Int->Hp->VK->Prop)(te:TE)(tl th:TO):TE:=fun Z H Q=>te Z H fun x H1=>tl Z H1 fun l H2=>th Z H2 fun u H3=>r x l u H3 Q
theorem Zjs(hr:SlR X r)(he:PE X e te)(hl:PO X lo tl)(hu:PO X hi th):PE X (.Subscript e (.Slice lo hi none p2) pos) (tSl r te tl th):=by
 intro pins s Z H Q I h;refine Subscript_ (thn (he pins s Z H _ I h) fun v s1 ⟨x,H1,I1,r1,q1⟩=>?_);refine wpAny_Slice (thn (hl pins s1 Z H1 _ I1 q1) fun vl s2 ⟨l,H2,I2,pl,q2⟩=>thn (hu pins s2 Z H2 _ I2 q2) fun vu s3 ⟨u,H3,I3,pu,q3⟩=>?_);rw [evalPart_none];refine wpAny_pure ?_;have I4:Inv X pins Z H3 {s3 with heap:=s3.heap.push {cls:=.type "slice",data:=.fields #[vl,vu,.none]}}:=I3.kept (t':=s3.toks) fun b ob q=>Od _ q;obtain ⟨T,id,hT,ht,hg⟩:=hr pins {s3 with heap:=s3.heap.push {cls:=.type "slice",data:=.fields #[vl,vu,.none]}} Z H3 x v vl vu l u s3.heap.objs.size Q I4 r1 (Heap.IsSliceOf.new ..) pl pu q3;show wpAny (model X.prog X.w) X.A (subscriptTail e (.Slice lo hi none p2) v (.ref s3.heap.objs.size)) (EP X pins Z Q) X.xe {s3 with heap:=s3.heap.push {cls:=.type "slice",data:=.fields #[vl,vu,.none]}};exact tail_any (ops:=[.ref s3.heap.objs.size,v]) ht hT hg (by with_unfolding_all rfl)
noncomputable def Zge(xs:List V)(lo hi:Option Int):List V:=(xs.drop (HT.sIx xs.length 0 lo)).take (HT.sIx xs.length xs.length hi - HT.sIx xs.length 0 lo)
theorem ZcP(xs:List V)(lo hi:Option Int):(Zge xs lo hi).length<=xs.length:=by
 unfold Zge;rw [List.length_take,List.length_drop]
 lia
noncomputable def Zqu(K:PySem.W.Frag):V->Option Int->Option Int->Hp->VK->Prop:=fun x lo hi H Q=>∃ a xs,x=.ref a/\SqT K H a xs /\
 ¬ (HT.sIx xs.length 0 lo=0/\HT.sIx xs.length xs.length hi=xs.length)/\∀ p,H p=none->Q (.ref p) (upd H p (.tup (Zge xs lo hi)))
theorem ZmS:SlR X (Zqu X.K):=by
 intro pins s Z H x v vl vu lo hi sl Q I rx hs pl pu h;obtain ⟨a,xs,rfl,hx,hw,q⟩:=h;cases rx;obtain ⟨its,r,ht,hz⟩:=I.tuple hx;have hlen:its.toArray.size=xs.length:=by rw [Of];exact r.length.symm
 refine ⟨"tuple",_,PyProof.Rows.slot_tuple_getitem.lookup,ht.typeIs,?_⟩;refine HT.ZbX ht hs pl pu (by rw [hlen];exact hw) ?_ (by rw [hlen];exact hz);rw [hlen];refine ⟨.ref s.heap.objs.size,_,I.laid (t':=s.toks) (o:=.tup (Zge xs lo hi)) (fun b ob q=>Od _ q) (Oq _) ?_,rfl,q _ (I.hok.fresh (Oq _))⟩;exact ⟨OE (ZcP xs lo hi) hz,_,(r.drop (HT.sIx xs.length 0 lo)).take (HT.sIx xs.length xs.length hi - HT.sIx xs.length 0 lo),Z9.fresh _ _⟩
noncomputable def ZoL(K:PySem.W.Frag):R2:=fun x y H Q=>∃ a b xs ys,x=.ref a/\y=.ref b/\SqT K H a xs/\SqT K H b ys/\xs≠[]/\xs.length+ys.length<=sizeLine /\
 (ys=[]->Q (.ref a) H)/\(ys≠[]->∀ p,H p=none->Q (.ref p) (upd H p (.tup (xs++ys))))
theorem Zd.nil_iff(r:Zd xs us):us=[]↔xs=[]:=by
 cases r with
 | nil=>simp
 | cons _ _=>simp
theorem Zk9:OpR X (binaryOp .Add) (ZoL X.K):=by
 intro pins s Z H x y v u Q I rx ry h;obtain ⟨a,b,xs,ys,rfl,rfl,ha,hb,hx,hz,q1,q2⟩:=h;cases rx;cases ry;obtain ⟨its,r1,p1,_⟩:=I.tuple ha;obtain ⟨its2,r2,p2,_⟩:=I.tuple hb;refine HT.ZlP p1 p2 (fun z=>hx (r1.nil_iff.mp z)) (fun z=>⟨.ref a,H,I,rfl,q1 (r2.nil_iff.mp z)⟩) (fun z=>?_) (by rw [<- r1.length,<- r2.length];exact hz);refine ⟨.ref s.heap.objs.size,_,I.laid (t':=s.toks) (o:=.tup (xs++ys)) (fun b ob q=>Od _ q) (Oq _) ?_,rfl,q2 (fun w=>z (r2.nil_iff.mpr w)) _ (I.hok.fresh (Oq _))⟩;exact ⟨by rw [OA];exact hz,_,r1.append r2,Z9.fresh _ _⟩
end
end L2
namespace L2
open PySem PySem.Spec PyProof.Rows
noncomputable def ixN(n:Nat)(i:Int):Option Nat:=if 0<=i then (if i<n then some i.toNat else none) else if -(n:Int)<=i then some (i+n).toNat else none
noncomputable def atI(xs:List α)(i:Int):Option α:=(ixN xs.length i).bind fun j=>xs[j]?
theorem ZhF(h:ixN n i=some j):seqIndex? i n=some j/\j<n/\-(n:Int)<=i/\i<n:=by
 unfold ixN at h;by_cases h0:0<=i
 . rw [if_pos h0] at h;by_cases h1:i<n
   . rw [if_pos h1] at h;have e:i.toNat=j:=Option.some.inj h;exact ⟨by rw [seqIndex_of h0 h1,e],by lia,by lia,h1⟩
   . rw [if_neg h1] at h;cases h
 . rw [if_neg h0] at h;by_cases h1:-(n:Int)<=i
   . rw [if_pos h1] at h;have e:(i+n).toNat=j:=Option.some.inj h;exact ⟨by rw [seqIndex_neg (by lia) h1,e],by lia,h1,by lia⟩
   . rw [if_neg h1] at h;cases h
theorem Zfy(h:atI xs i=some v):∃ j,seqIndex? i xs.length=some j/\xs[j]? = some v/\j<xs.length/\-(xs.length:Int)<=i/\i<xs.length:=by
 unfold atI at h;cases e:ixN xs.length i with
 | none=>rw [e] at h;cases h
 | some j =>
   rw [e] at h;obtain ⟨h1,h2,h3,h4⟩:=ZhF e;exact ⟨j,h1,h,h2,h3,h4⟩
noncomputable def ZfA(b:Expr):Prop:=∀ o i,subscripted b false o i=operate [o,i] (getItem o i)
noncomputable def IxR(X:Cx)(r:R2):Prop :=
 ∀ (value slice:Expr) (pins:List (Addr×Obj)) (s:Shared) (Z:St) (H:Hp) (x y:V) (v u:Value) (Q:VK),Inv X pins Z H s->RelV x v->RelV y u->r x y H Q ->
   subscripted slice false v u=operate [v,u] (getItem v u)->wpAny (model X.prog X.w) X.A (subscriptTail value slice v u) (EP X pins Z Q) X.xe s
noncomputable def MtR(X:Cx)(id:String)(r:V->List V->Hp->VK->Prop):Prop :=
 ∀ (pins:List (Addr×Obj)) (s:Shared) (Z:St) (H:Hp) (x:V) (xs:List V) (v:Value) (us:List Value) (Q:VK),Inv X pins Z H s->RelV x v->Zd xs us->r x xs H Q ->
   wpAny (model X.prog X.w) X.A (call (.builtin id) (v::us)) (EP X pins Z Q) X.xe s
section
variable {X:Cx}{a b:Expr}{ta tb:TE}{pos:Pos}
theorem ZoW{r:R2}(hr:IxR X r)(ha:PE X a ta)(hb:PE X b tb)(hs:ZfA b):PE X (.Subscript a b pos) (tOp r ta tb):=by
 intro pins s Z H Q I h;exact Subscript_ (Zn3 ha hb I h fun v u s2 x y H2 I2 rx ry q=>hr a b pins s2 Z H2 x y v u Q I2 rx ry q (hs _ _))
noncomputable def ZqA(K:PySem.W.Frag):R2:=fun x y H Q=>∃ p xs i v,x=.ref p/\y=.int i/\SqL K H p xs/\atI xs i=some v/\Q v H
noncomputable def Zqy(K:PySem.W.Frag):R2:=fun x y H Q=>∃ p xs i v,x=.ref p/\y=.int i/\SqT K H p xs/\atI xs i=some v/\Q v H
noncomputable def Zqz:R2:=fun x y H Q=>∃ z i c,x=.str z/\y=.int i/\z.length<=sizeLine/\atI z.cps.toList i=some c/\Q (.str ⟨#[c]⟩) H
theorem Zlu:IxR X (ZqA X.K):=by
 intro value slice pins s Z H x y v u Q I rx ry h hs;obtain ⟨p,xs,i,z,rfl,rfl,hq,he,q⟩:=h;cases rx;obtain ⟨t,rfl⟩:=ry;obtain ⟨its,r,pl,hz⟩:=I.list hq;obtain ⟨j,h1,h2,h3,h4,h5⟩:=Zfy he;obtain ⟨w,ew,rw'⟩:=r.get h2;have hl:=r.length;have hn:=Zaw;have fin:EP X pins Z Q w s:=⟨z,H,I,rw',q⟩
 by_cases h0:0<=i
 . have hj:i.toNat=j:=by
     rw [seqIndex_of h0 h5] at h1;exact Option.some.inj h1
   exact item_listR pl.isList h0 (by lia) (by rw [hj];simpa using ew) fin hs
 . have hj:(i+(its.toArray.size:Int)).toNat=j:=by
     rw [seqIndex_neg (by lia) h4] at h1;rw [Of,<- hl];exact Option.some.inj h1
   exact subscriptTail_builtinR (x:=w) pl.isList.typeIs slot_list_getitem.lookup
     (wpAny_getItem_list_neg (Q:=fun r s'=>r=w/\EP X pins Z Q r s') pl.isList (by lia) (by rw [Of]<;>lia) (by lia) (by rw [hj];simpa using ew) ⟨rfl,fin⟩) hs
theorem ZnM:IxR X (Zqy X.K):=by
 intro value slice pins s Z H x y v u Q I rx ry h hs;obtain ⟨p,xs,i,z,rfl,rfl,hq,he,q⟩:=h;cases rx;obtain ⟨t,rfl⟩:=ry;obtain ⟨its,r,pl,hz⟩:=I.tuple hq;obtain ⟨j,h1,h2,h3,h4,h5⟩:=Zfy he;obtain ⟨w,ew,rw'⟩:=r.get h2;have hl:=r.length;have hn:=Zaw;have fin:EP X pins Z Q w s:=⟨z,H,I,rw',q⟩
 exact subscriptTail_builtinR (x:=w) pl.typeIs slot_tuple_getitem.lookup
   (getItem_tuple (j:=j) (Q:=fun r s'=>r=w/\EP X pins Z Q r s') pl (by lia) (by lia) (by rw [Of,<- hl];exact h1) (by simpa using ew) ⟨rfl,fin⟩) hs
theorem ZnN:IxR X Zqz:=by
 intro value slice pins s Z H x y v u Q I rx ry h hs;obtain ⟨z,i,c,rfl,rfl,hz,he,q⟩:=h;obtain ⟨t,rfl⟩:=rx;obtain ⟨t',rfl⟩:=ry;obtain ⟨j,h1,h2,h3,h4,h5⟩:=Zfy he;have hl:z.cps.toList.length=z.length:=by simp [Str.length]
 rw [hl] at h1 h4 h5;have hn:=Zaw;exact tail_any (typeIs_str s z t) slot_str_getitem.lookup (getItem_str (c:=c) (by
   have e1:decide (i < -(2 ^ 63:Int))=false:=decide_eq_false (by lia);have e2:decide (i ≥ 2 ^ 63)=false:=decide_eq_false (by lia);rw [e1,e2,Bool.or_false]) (by rw [h1];simpa using h2) ⟨.str ⟨#[c]⟩,H,I.tok _,⟨_,rfl⟩,q⟩) hs
theorem ZgO (its:List Value) (n j:Nat) (u:Value):Obj.mapSeq (·.setIfInBounds j u) {cls:=.type "list",data:=.seq its.toArray n}={cls:=.type "list",data:=.seq (its.set j u).toArray n}:=by
 simp [Obj.mapSeq]
theorem Inv.lst(I:Inv X pins Z H s)(h:H p=some (.lst xs)) :
   ∃ (its:List Value) (n:Nat),Zd xs its/\s.heap.get? p=some {cls:=.type "list",data:=.seq its.toArray n}/\xs.length<=sizeLine:=by
 obtain ⟨z,its,n,r,e⟩:=I.hok p _ h;exact ⟨its,n,r,e,z⟩
theorem Inv.lstUpd{pins:List (Addr×Obj)}{Z:St}{H:Hp}{s:Shared}{p:Addr}{xs ys:List V}{its its':List Value}{n n':Nat}{f:Obj->Obj}(I:Inv X pins Z H s)(h:H p=some (.lst xs))
   (ho:s.heap.get? p=some {cls:=.type "list",data:=.seq its.toArray n}) (hf:f {cls:=.type "list",data:=.seq its.toArray n}={cls:=.type "list",data:=.seq its'.toArray n'}) (r:Zd ys its') (hz:ys.length<=sizeLine) (t:Nat) :
   Inv X pins Z (upd H p (.lst ys)) {s with heap:=s.heap.update p f,toks:=t}:=by
 have e:(s.heap.update p f).get? p=some {cls:=.type "list",data:=.seq its'.toArray n'}:=by
   rw [Heap.get?_update_self f ho (by rw [hf]<;>rfl),hf]
 refine I.write (x:=p) (e:=p) (by rw [h];trivial) (.inl rfl) (fun b u hb q=>(Heap.get?_update_other _ _ (Ne.symm hb)).trans q) ⟨_,e⟩ ?_;exact ⟨hz,its',n',r,e⟩
noncomputable def ZoJ:V->V->V->Hp->(Hp->Prop)->Prop:=fun o i v H Q=>∃ p xs k j,o=.ref p/\i=.int k/\H p=some (.lst xs)/\ixN xs.length k=some j/\Q (upd H p (.lst (xs.set j v)))
theorem set_list:Zl6 X ZoJ:=by
 intro pins s Z H o i v ov iv u Q I ro ri rv h;obtain ⟨p,xs,k,j,rfl,rfl,hp,hj,q⟩:=h;cases ro;obtain ⟨t,rfl⟩:=ri;obtain ⟨its,n,r,ho,hz⟩:=I.lst hp;obtain ⟨h1,h2,h3,h4⟩:=ZhF hj;have hl:=r.length;have hn:=Zaw;have I':Inv X pins Z (upd H p (.lst (xs.set j v))) {s with heap:=s.heap.update p (Obj.mapSeq (·.setIfInBounds j u))} :=
   I.lstUpd hp ho (ZgO its n j u) (r.set rv j) (by rw [List.length_set];exact hz) s.toks
 by_cases h0:0<=k
 . have hk:k.toNat=j:=by
     rw [seqIndex_of h0 h4] at h1;exact Option.some.inj h1
   exact PySem.W.ki_setAt ho h0 (by lia) (by rw [Of,<- hl];exact h4) (by rw [hk];exact ⟨_,I',q⟩)
 . have hk:(k+(its.toArray.size:Int)).toNat=j:=by
     rw [seqIndex_neg (by lia) h3] at h1;rw [Of,<- hl];exact Option.some.inj h1
   exact PySem.W.ki_setBack ho (by lia) (by rw [Of,<- hl];exact h3) (by lia) (by rw [hk];exact ⟨_,I',q⟩)
theorem ZeP(lo hi:Option Int)(n:Nat):(sliceBounds lo hi none n).1=((HT.sIx n 0 lo:Nat):Int)/\(sliceBounds lo hi none n).2.1=((HT.sIx n n hi:Nat):Int)/\(sliceBounds lo hi none n).2.2=1:=by
 refine ⟨?_,?_,rfl⟩
 . cases lo with
   | none=>simp [sliceBounds,HT.sIx]
   | some i =>
     simp only [sliceBounds,HT.sIx,Option.getD_none,show (1:Int) > 0 by decide,if_true];by_cases h:i<0
     . simp only [h,if_true]<;>lia
     . simp only [h,if_false]<;>lia
 . cases hi with
   | none=>simp [sliceBounds,HT.sIx]
   | some i =>
     simp only [sliceBounds,HT.sIx,Option.getD_none,show (1:Int) > 0 by decide,if_true];by_cases h:i<0
     . simp only [h,if_true]<;>lia
     . simp only [h,if_false]<;>lia
theorem Zd0(its:List Value)(lo hi:Option Int):slicePick its.toArray lo hi none=((its.drop (HT.sIx its.length 0 lo)).take (HT.sIx its.length its.length hi - HT.sIx its.length 0 lo)).toArray:=by
 obtain ⟨h1,h2,h3⟩:=ZeP lo hi its.toArray.size;unfold slicePick;rw [h1,h2,h3];simp only [sliceRange_one,pick_run,Of]<;>rfl
noncomputable def Zqw(K:PySem.W.Frag):V->Option Int->Option Int->Hp->VK->Prop:=fun x lo hi H Q=>∃ a xs,x=.ref a/\SqL K H a xs/\∀ p,H p=none->Q (.ref p) (upd H p (.lst (Zge xs lo hi)))
theorem Zkx:SlR X (Zqw X.K):=by
 intro pins s Z H x v vl vu lo hi sl Q I rx hs pl pu h;obtain ⟨a,xs,rfl,hx,q⟩:=h;cases rx;obtain ⟨its,r,ht,hz⟩:=I.list hx;have hlen:=r.length;refine ⟨"list",_,slot_list_getitem.lookup,ht.isList.typeIs,?_⟩;refine wpAny_getItem_list_slice ht.isList hs pl pu .none (by simp) ?_ (by rw [Of]<;>lia);rw [Zd0,<- hlen];refine ⟨.ref s.heap.objs.size,_,I.laid (t':=s.toks) (o:=.lst (Zge xs lo hi)) (fun b ob q=>Od _ q) (Oq _) ?_,rfl,q _ (I.hok.fresh (Oq _))⟩;exact ⟨OE (ZcP xs lo hi) hz,_,0,(r.drop (HT.sIx xs.length 0 lo)).take (HT.sIx xs.length xs.length hi - HT.sIx xs.length 0 lo),Oj _ rfl⟩
noncomputable def Zbi:V->Bool
 | .non=>true
 | .bl _=>true
 | .int _=>true
 | .str _=>true
 | _=>false
noncomputable def eqV:V->V->Bool
 | .non,.non=>true
 | .bl a,.bl b=>a==b
 | .bl a,.int b=>(if a then 1 else 0)==b
 | .int a,.bl b=>a==(if b then 1 else 0)
 | .int a,.int b=>a==b
 | .str a,.str b=>a==b
 | _,_=>false
theorem ZnW(ry:RelV y u)(rx:RelV x v)(fy:Zbi y=true)(fx:Zbi x=true):SeqAt.EqAt A s u v (eqV y x):=by
 cases y with
 | non =>
   cases ry;cases x with
   | non=>cases rx;exact SeqAt.EqAt.same _
   | bl b=>cases rx;exact SeqAt.EqAt.none_bool b
   | int b=>obtain ⟨t,rfl⟩:=rx;exact SeqAt.EqAt.none_int b t
   | str b=>obtain ⟨t,rfl⟩:=rx;exact SeqAt.EqAt.none_str b t
   | _=>exact absurd (show false=true from fx) Ow
 | bl a =>
   cases ry;cases x with
   | non=>cases rx;exact SeqAt.EqAt.bool_none a
   | bl b=>cases rx;exact SeqAt.EqAt.bool_bool a b
   | int b=>obtain ⟨t,rfl⟩:=rx;exact SeqAt.EqAt.bool_int a b t
   | str b=>obtain ⟨t,rfl⟩:=rx;exact SeqAt.EqAt.bool_str a b t
   | _=>exact absurd (show false=true from fx) Ow
 | int a =>
   obtain ⟨t',rfl⟩:=ry;cases x with
   | non=>cases rx;exact SeqAt.EqAt.int_none a t'
   | bl b=>cases rx;exact SeqAt.EqAt.int_bool a t' b
   | int b=>obtain ⟨t,rfl⟩:=rx;exact SeqAt.EqAt.int_int a t' b t
   | str b=>obtain ⟨t,rfl⟩:=rx;exact SeqAt.EqAt.int_str a t' b t
   | _=>exact absurd (show false=true from fx) Ow
 | str a =>
   obtain ⟨t',rfl⟩:=ry;cases x with
   | non=>cases rx;exact SeqAt.EqAt.str_none a t'
   | bl b=>cases rx;exact SeqAt.EqAt.str_bool a t' b
   | int b=>obtain ⟨t,rfl⟩:=rx;exact SeqAt.EqAt.str_int a t' b t
   | str b=>obtain ⟨t,rfl⟩:=rx;exact SeqAt.EqAt.str_str a t' b t
   | _=>exact absurd (show false=true from fx) Ow
 | _=>exact absurd (show false=true from fy) Ow
noncomputable def eqU(x:V)(u:Value):Bool:=match u with
 | .none=>eqV .non x
 | .bool b=>eqV (.bl b) x
 | .int i _=>eqV (.int i) x
 | .str z _=>eqV (.str z) x
 | _=>false
theorem Zj4(r:RelV y u)(f:Zbi y=true):eqU x u=eqV y x:=by
 cases y with
 | non=>cases r;rfl
 | bl b=>cases r;rfl
 | int i=>obtain ⟨t,rfl⟩:=r;rfl
 | str z=>obtain ⟨t,rfl⟩:=r;rfl
 | _=>exact absurd (show false=true from f) Ow
theorem Zcd:∀ {xs:List V}{us:List Value},Zd xs us->xs.all Zbi=true->us.any (eqU x)=xs.any fun y=>eqV y x
 | _,_,.nil,_=>rfl
 | y::xs,u::us,.cons r t,f=>by
   rw [List.all_cons,Oa] at f;rw [List.any_cons,List.any_cons,Zj4 r f.1,Zcd t f.2]
theorem ZaL(rx:RelV x v)(fx:Zbi x=true):∀ {xs:List V}{us:List Value},Zd xs us->xs.all Zbi=true->∀ u∈us,SeqAt.EqAt A s u v (eqU x u)
 | _,_,.nil,_=>fun u hu=>by cases hu
 | y::xs,u::us,.cons r t,f=>fun u' hu=>by
   rw [List.all_cons,Oa] at f;rcases O2.mp hu with rfl|hu
   . rw [Zj4 r f.1];exact ZnW r rx f.1 fx
   . exact ZaL rx fx t f.2 u' hu
noncomputable def inV(x:V)(xs:List V):Bool:=xs.any fun y=>eqV y x
noncomputable def rIn(K:PySem.W.Frag)(neg:Bool):R2:=fun x y H Q=>∃ p xs,y=.ref p/\(SqL K H p xs\/SqT K H p xs)/\Zbi x=true/\xs.all Zbi=true/\Q (.bl (if neg then !inV x xs else inV x xs)) H
theorem Zil:OpR X (compareOp .In) (rIn X.K false):=by
 intro pins s Z H x y v u Q I rx ry h;obtain ⟨p,xs,rfl,hq,fx,fs,q⟩:=h;cases ry;rcases hq with hq|hq
 . obtain ⟨its,r,pl,hz⟩:=I.list hq;refine SeqAt.in_listAt (eqU x) pl.isList (fun w hw=>ZaL rx fx r fs w (by simpa using hw)) ⟨.bl _,H,I,rfl,?_⟩;rw [show its.toArray.any (eqU x)=its.any (eqU x) by simp,Zcd r fs];exact q
 . obtain ⟨its,r,pl,hz⟩:=I.tuple hq;refine SeqAt.in_tupleAt (eqU x) pl (fun w hw=>ZaL rx fx r fs w (by simpa using hw)) ⟨.bl _,H,I,rfl,?_⟩;rw [show its.toArray.any (eqU x)=its.any (eqU x) by simp,Zcd r fs];exact q
theorem ZeU:OpR X (compareOp .NotIn) (rIn X.K true):=by
 intro pins s Z H x y v u Q I rx ry h;obtain ⟨p,xs,rfl,hq,fx,fs,q⟩:=h;cases ry;rcases hq with hq|hq
 . obtain ⟨its,r,pl,hz⟩:=I.list hq;refine SeqAt.notIn_listAt (eqU x) pl.isList (fun w hw=>ZaL rx fx r fs w (by simpa using hw)) ⟨.bl _,H,I,rfl,?_⟩;rw [show its.toArray.any (eqU x)=its.any (eqU x) by simp,Zcd r fs];exact q
 . obtain ⟨its,r,pl,hz⟩:=I.tuple hq;refine SeqAt.notIn_tupleAt (eqU x) pl (fun w hw=>ZaL rx fx r fs w (by simpa using hw)) ⟨.bl _,H,I,rfl,?_⟩;rw [show its.toArray.any (eqU x)=its.any (eqU x) by simp,Zcd r fs];exact q
theorem Zfi:Zau X (.builtin "len") (fun xs H Q=>∃ p ys,xs=[.ref p]/\(SqL X.K H p ys\/SqT X.K H p ys)/\Q (.int ys.length) H):=by
 intro pins s Z H xs us Q I r h;obtain ⟨p,ys,rfl,hq,q⟩:=h;obtain ⟨u,rfl,rx⟩:=vals1 r;cases rx;have hn:=Zaw;rcases hq with hq|hq
 . obtain ⟨its,r',pl,hz⟩:=I.list hq;have hlen:=r'.length;exact Calls.call_len_list pl.isList (by simp only [Of]<;>lia) ⟨.int ys.length,H,I.tok _,⟨s.toks+1,by rw [Of,hlen]⟩,q⟩
 . obtain ⟨its,r',pl,hz⟩:=I.tuple hq;have hlen:=r'.length;exact len_tuple pl (by simp only [Of]<;>lia) ⟨.int ys.length,H,I.tok _,⟨s.toks+1,by rw [Of,hlen]⟩,q⟩
theorem Zfh:Zau X (.builtin "len") (fun xs H Q=>∃ z,xs=[.str z]/\z.length<=sizeLine/\Q (.int z.length) H):=by
 intro pins s Z H xs us Q I r h;obtain ⟨z,rfl,hz,q⟩:=h;obtain ⟨u,rfl,t,rfl⟩:=vals1 r;have hn:=Zaw;exact len_str (by lia) ⟨.int z.length,H,I.tok _,⟨_,rfl⟩,q⟩
theorem Zbl:Zau X (.type "tuple") (fun xs H Q=>∃ p ys,xs=[.ref p]/\((SqL X.K H p ys/\∀ l,H l=none->Q (.ref l) (upd H l (.tup ys)))\/(SqT X.K H p ys/\Q (.ref p) H))):=by
 intro pins s Z H xs us Q I r h;obtain ⟨p,ys,rfl,h⟩:=h;obtain ⟨u,rfl,rx⟩:=vals1 r;cases rx;rcases h with ⟨hq,q⟩|⟨hq,q⟩
 . obtain ⟨its,r',pl,hz⟩:=I.list hq;have hlen:=r'.length;refine call_tuple_list pl.isList (fun h' kp=>?_) (by simp only [Of]<;>lia);have I1:Inv X pins Z H {s with heap:=h'}:=I.kept (t':=s.toks) kp;have I2:Inv X pins Z (upd H h'.objs.size (.tup ys)) {s with heap:=h'.push {cls:=.type "tuple",data:=.seq its.toArray}} :=
     I1.laid (t':=s.toks) (fun b o e=>Od _ e) (Oq _) (show ZJ X.prog X.w _ _ _ (.tup ys) from ⟨hz,its,r',Z9.fresh _ _⟩)
   exact ⟨.ref h'.objs.size,_,I2,rfl,q _ (I1.hok.fresh (Oq _))⟩
 . obtain ⟨its,r',pl,hz⟩:=I.tuple hq;exact call_tuple_same pl ⟨.ref p,H,I,rfl,q⟩
noncomputable def tyV(K:PySem.W.Frag)(T:String)(x:V)(H:Hp):Prop:=match x with
 | .str _=>T = "str"
 | .int _=>T = "int"
 | .ref p=>(T = "list" /\ ∃ xs,SqL K H p xs)\/(T = "tuple" /\ ∃ o,K.lookup p=some o/\o.cls=.type "tuple" /\ o.dict=none) \/
     (T = "dict" /\ ((∃ kvs,H p=some (.dK kvs))\/∃ kvs,H p=some (.dT kvs)))\/(T = "set" /\ ∃ S_ n,H p=some (.set S_ n))
 | _=>False
theorem ZiU(I:Inv X pins Z H s)(r:RelV x v)(ty:tyV X.K T x H) :
   s.TypeIs v T/\∀ a,v=.ref a->∃ ob,s.heap.get? a=some ob/\ob.dict=none:=by
 cases x with
 | str z =>
   obtain ⟨t,rfl⟩:=r;cases (show T = "str" from ty);exact ⟨typeIs_str s z t,fun _ e=>nomatch e⟩
 | int i =>
   obtain ⟨t,rfl⟩:=r;cases (show T = "int" from ty);exact ⟨typeIs_int s i t,fun _ e=>nomatch e⟩
 | ref p =>
   cases r;rcases ty with ⟨rfl,xs,hq⟩|⟨rfl,o,hk,hc,hd⟩|⟨rfl,hk⟩|⟨rfl,S_,n,hk⟩
   . obtain ⟨its,_,pl,_⟩:=I.list hq;refine ⟨pl.isList.typeIs,fun a e=>?_⟩;cases e;obtain ⟨o,n,e,c,hd,_⟩:=pl;exact ⟨o,e,hd⟩
   . refine ⟨⟨o,I.kIn p o hk,hc⟩,fun a e=>?_⟩;cases e;exact ⟨o,I.kIn _ o hk,hd⟩
   . have z:∃ o,s.heap.get? p=some o/\o.ExactDict:=by
       rcases hk with ⟨kvs,hk⟩|⟨kvs,hk⟩
       . obtain ⟨_,_,_,_,o,_,_,e,ex,_⟩:=I.hok p _ hk;exact ⟨o,e,ex⟩
       . obtain ⟨_,_,_,_,o,_,_,e,ex,_⟩:=I.hok p _ hk;exact ⟨o,e,ex⟩
     obtain ⟨o,e,ex⟩:=z;refine ⟨⟨o,e,ex.1⟩,fun a e2=>?_⟩;cases e2;exact ⟨o,e,ex.2.1⟩
   . obtain ⟨o,_,_,_,e,ex,_⟩:=I.hok p _ hk;refine ⟨⟨o,e,ex.1⟩,fun a e2=>?_⟩;cases e2;exact ⟨o,e,ex.2.1⟩
 | _=>exact False.elim ty
noncomputable def Zqk(K:PySem.W.Frag)(T:String)(r:V->List V->Hp->VK->Prop)(to:TE):TE:=fun Z H Q=>to Z H fun x H1=>tyV K T x H1/\r x [] H1 Q
noncomputable def tBM(K:PySem.W.Frag)(T:String)(r:V->List V->Hp->VK->Prop)(to:TE)(t:TA):TE:=fun Z H Q=>to Z H fun x H1=>tyV K T x H1/\t Z H1 fun xs H2=>r x xs H2 Q
variable {o e:Expr}{es:List Expr}{to:TE}{t:TA}{name:Str}{apos cpos:Pos}{T id:String}{r:V->List V->Hp->VK->Prop}
theorem Znh (pa:PlainAttrs T) (slot:Slot T name id) (hty:typeOf (.builtin id)=pure (.type "method_descriptor")) (hm:MtR X id r) (ho:PE X o to)
   (hbase:attributeBase o name X.env (eval o X.env)=eval o X.env:=by rfl) (hline:(apos.endLine==cpos.line)=true:=by rfl):PE X (.Call (.Attribute o name apos) [] [] cpos) (Zqk X.K T r to):=by
 intro pins s Z H Q I h;refine wpAny_Call_method0_late hbase hline (thn (ho pins s Z H _ I h) fun v s1 ⟨x,H1,I1,r1,ty,q1⟩=>?_);obtain ⟨h1,h2⟩:=ZiU I1 r1 ty;exact ⟨T,id,pa,slot,hty,h1,h2,Calls.callWith_builtin rfl (PySem.evalArgs_none (hm pins s1 Z H1 x [] v [] Q I1 r1 .nil q1))⟩
theorem ZoX (pa:PlainAttrs T) (slot:Slot T name id) (hty:typeOf (.builtin id)=pure (.type "method_descriptor")) (hm:MtR X id r) (ho:PE X o to) (ha:PA X (e::es) t)
   (hbase:attributeBase o name X.env (eval o X.env)=eval o X.env:=by rfl)
   (hfew:((backTo cpos (starEach (e::es) X.env)).all (fun x=>!x.1)&&(backToKw cpos (keywordEach [] X.env)).all (fun x=>x.1.isSome)
     && decide ((e::es).length+([]:List Keyword).length+(if ([]:List Keyword).isEmpty then 0 else 1)<30))=true:=by rfl)
   (hline:(apos.endLine==cpos.line)=true:=by rfl) (hs:starEach (e::es) X.env=(false,eval e X.env)::starEach es X.env:=by rfl) (hplain:(backTo cpos (starEach es X.env)).any (·.1)=false:=by rfl) :
   PE X (.Call (.Attribute o name apos) (e::es) [] cpos) (tBM X.K T r to t):=by
 intro pins s Z H Q I h;refine wpAny_Call_method_late hbase hfew hline rfl (thn (ho pins s Z H _ I h) fun v s1 ⟨x,H1,I1,r1,ty,q1⟩=>?_);obtain ⟨h1,h2⟩:=ZiU I1 r1 ty;refine ⟨T,id,pa,slot,hty,h1,h2,?_⟩;have hA:=ha cpos pins s1 Z H1 _ I1 q1;rw [hs] at hA ⊢;refine Calls.callWith_builtin (by show (false || (backTo cpos (starEach es X.env)).any (·.1))=false;rw [hplain]<;>rfl) (Calls.evalArgs_plain ?_);exact thn hA fun us s2 ⟨vs,H2,I2,r2,q2⟩=>hm pins s2 Z H2 x vs v us Q I2 r1 r2 q2
end
end L2
namespace L2
open PySem PySem.Spec PyProof.Rows
noncomputable def MtM(X:Cx)(id:String)(r:V->List V->Hp->VK->Prop):Prop :=
 ∀ (pins:List (Addr×Obj)) (s:Shared) (Z:St) (H:Hp) (x:V) (xs:List V) (v:Value) (us:List Value) (Q:VK),Inv X pins Z H s->RelV x v->Zd xs us->r x xs H Q ->
   wpAny (model X.prog X.w) X.A (call (.builtin id) (v::us)) (EP X pins Z Q) X.xe s
theorem Zd.one:∀ {x:V}{us:List Value},Zd [x] us->∃ u,us=[u]/\RelV x u
 | _,_,.cons r .nil=>⟨_,rfl,r⟩
theorem Zd.zero:∀ {us:List Value},Zd [] us->us=[]
 | _,.nil=>rfl
theorem Zd.dropLast(h:Zd xs us):Zd xs.dropLast us.dropLast:=by
 induction h with
 | nil=>exact .nil
 | cons r t ih =>
   cases t with
   | nil=>exact .nil
   | cons q t'=>exact .cons r ih
theorem Zd.reverse(h:Zd xs us):Zd xs.reverse us.reverse:=by
 induction h with
 | nil=>exact .nil
 | cons r t ih=>rw [List.reverse_cons,List.reverse_cons];exact Zd.append ih (.cons r .nil)
theorem ZgZ(l:List α):l.eraseIdx (l.length - 1)=l.dropLast:=by
 induction l with
 | nil=>rfl
 | cons a r ih =>
   cases r with
   | nil=>rfl
   | cons b r =>
     have e:(a::b::r).length - 1=((b::r).length - 1)+1:=by
       have h1:(a::b::r).length=r.length+2:=rfl;have h2:(b::r).length=r.length+1:=rfl
       lia
     rw [e,List.eraseIdx_cons_succ,ih]
     all_goals rfl
section
variable {X:Cx}{pins:List (Addr×Obj)}{Z:St}{H:Hp}{s:Shared}{l b:Addr}{xs ys zs:List V}
theorem Inv.lset{its its':List Value}{n:Nat}{f:Array Value->Array Value}{t':Nat}(I:Inv X pins Z H s)(hH:H l=some (.lst xs))
   (e:s.heap.get? l=some {cls:=.type "list",data:=.seq its.toArray n}) (hf:f its.toArray=its'.toArray) (hv:Zd ys its') (hz:ys.length<=sizeLine) :
   Inv X pins Z (upd H l (.lst ys)) {s with heap:=s.heap.update l (Obj.mapSeq f),toks:=t'}:=by
 have q:=PySem.IsL.update e f;rw [hf] at q;refine I.write (x:=l) (e:=l) (by rw [hH];exact trivial) (.inl rfl) (fun b' u hb hu=>(Heap.get?_update_other s.heap (Obj.mapSeq f) (Ne.symm hb)).trans hu) ⟨_,q⟩ ?_;exact ⟨hz,its',_,hv,q⟩
theorem Inv.lnew(I:Inv X pins Z H s)(hv:Zd ys its)(hz:ys.length<=sizeLine) :
   Inv X pins Z (upd H s.heap.objs.size (.lst ys)) {s with heap:=s.heap.push {cls:=.type "list",data:=.seq its.toArray},toks:=t'} :=
 I.laid (fun _ _ q=>Od _ q) (Oq _) ⟨hz,its,0,hv,Oj _ rfl⟩
theorem Inv.fresh(I:Inv X pins Z H s):H s.heap.objs.size=none:=I.hok.fresh (Oq _)
theorem Inv.lstM (I:Inv X pins Z H s) (hH:H l=some (.lst xs)):xs.length<=sizeLine/\∃ (its:List Value) (n:Nat),Zd xs its/\xs.length=its.length/\s.heap.get? l=some {cls:=.type "list",data:=.seq its.toArray n}:=by
 obtain ⟨z,its,n,r,e⟩:=I.hok l _ hH;exact ⟨z,its,n,r,r.length,e⟩
theorem ZfX{n:Nat}(h:n<=sizeLine):Builtin.List.listTooLong n=false:=by
 unfold Builtin.List.listTooLong;exact decide_eq_false (by lia)
end
section
variable {X:Cx}
noncomputable def ZkI:V->List V->Hp->VK->Prop:=fun x vs H Q=>∃ l xs y,x=.ref l/\vs=[y]/\H l=some (.lst xs)/\xs.length<sizeLine/\Q .non (upd H l (.lst (xs++[y])))
theorem ZeA:MtM X "list.append" ZkI:=by
 intro pins s Z H x vs v us Q I rx rv h;obtain ⟨l,xs,y,rfl,rfl,hH,hz,q⟩:=h;cases rx;obtain ⟨u,rfl,ru⟩:=rv.one;obtain ⟨z,its,n,r,hl,e⟩:=I.lstM hH;refine call_meets F.slot_list_append ⟨_,e,rfl⟩ F.entry_list_append (F.args_list_append_2 _ _) (PySem.list_append l its.toArray n u (by rw [Of];lia)) ⟨e,?_⟩;refine ⟨.non,_,I.lset (its':=its++[u]) hH e (by simp) (r.append (.cons ru .nil)) ?_,rfl,q⟩;rw [OA,List.length_singleton]
 lia
noncomputable def ZkH:V->List V->Hp->VK->Prop:=fun x vs H Q=>∃ l b xs zs,x=.ref l/\vs=[.ref b]/\H l=some (.lst xs)/\H b=some (.lst zs)/\xs.length+zs.length<=sizeLine/\Q .non (upd H l (.lst (xs++zs)))
theorem Zir:MtM X "list.extend" ZkH:=by
 intro pins s Z H x vs v us Q I rx rv h;obtain ⟨l,b,xs,zs,rfl,rfl,hH,hB,hz,q⟩:=h;cases rx;obtain ⟨u,rfl,ru⟩:=rv.one;cases ru;obtain ⟨z,its,n,r,hl,e⟩:=I.lstM hH;obtain ⟨z2,its2,n2,r2,hl2,e2⟩:=I.lstM hB;have hsz:its.toArray.size+its2.toArray.size<=sizeLine:=by rw [Of,Of];lia
 have hlong:¬ (!its.toArray.isEmpty&&Builtin.List.listTooLong (its.toArray.size+its2.toArray.size))=true:=by
   rw [ZfX hsz,Bool.and_false];exact Ow
 refine call_meets F.slot_list_extend ⟨_,e,rfl⟩ F.entry_list_extend (F.args_list_extend_2 _ _)
   (AutoSeq1.list_extend_list_list_0 l its.toArray n b its2.toArray n2 hlong (by rw [Of];lia) (by lia)) ⟨e,e2,?_⟩
 refine ⟨.non,_,I.lset (its':=its++its2) hH e (by simp) (r.append r2) ?_,rfl,q⟩;rw [OA]
 lia
noncomputable def Zqx:V->List V->Hp->VK->Prop:=fun x vs H Q=>∃ l xs y,x=.ref l/\vs=[]/\H l=some (.lst xs)/\xs[xs.length - 1]? = some y/\Q y (upd H l (.lst xs.dropLast))
theorem Znx:MtM X "list.pop" Zqx:=by
 intro pins s Z H x vs v us Q I rx rv h;obtain ⟨l,xs,y,rfl,rfl,hH,hy,q⟩:=h;cases rx;have hus:=rv.zero;subst hus;obtain ⟨z,its,n,r,hl,e⟩:=I.lstM hH;obtain ⟨u,hu,ru⟩:=r.get hy;have hy':its.toArray[its.toArray.size - 1]? = some u:=by
   show its.toArray[its.length - 1]? = some u;rw [<- Array.getElem?_toList,<- hl];exact hu
 refine call_meets F.slot_list_pop ⟨_,e,rfl⟩ F.entry_list_pop (F.args_list_pop_1 _) (MeetsSeq.list_pop_last l its.toArray n u hy' (by rw [Of];lia)) ⟨e,?_⟩;refine ⟨y,_,I.lset (its':=its.dropLast) hH e ?_ r.dropLast ?_,ru,q⟩
 . show its.toArray.eraseIdxIfInBounds (its.toArray.size - 1)=its.dropLast.toArray;rw [Of,List.eraseIdxIfInBounds_toArray,ZgZ]
 . rw [List.length_dropLast]
   lia
noncomputable def Zje:V->List V->Hp->VK->Prop:=fun x vs H Q=>∃ l xs,x=.ref l/\vs=[]/\H l=some (.lst xs)/\Q .non (upd H l (.lst xs.reverse))
theorem ZgM:MtM X "list.reverse" Zje:=by
 intro pins s Z H x vs v us Q I rx rv h;obtain ⟨l,xs,rfl,rfl,hH,q⟩:=h;cases rx;have hus:=rv.zero;subst hus;obtain ⟨z,its,n,r,hl,e⟩:=I.lstM hH;refine call_meets F.slot_list_reverse ⟨_,e,rfl⟩ F.entry_list_reverse (F.args_list_reverse_1 _) (AutoSeq1.list_reverse_list_0 l its.toArray n (by rw [Of];lia)) ⟨e,?_⟩;refine ⟨.non,_,I.lset (its':=its.reverse) hH e (by simp) r.reverse ?_,rfl,q⟩;rw [List.length_reverse]
 lia
noncomputable def ZmX:V->List V->Hp->VK->Prop:=fun x vs H Q=>∃ l xs,x=.ref l/\vs=[]/\H l=some (.lst xs)/\Q .non (upd H l (.lst []))
theorem ZjD:MtM X "list.clear" ZmX:=by
 intro pins s Z H x vs v us Q I rx rv h;obtain ⟨l,xs,rfl,rfl,hH,q⟩:=h;cases rx;have hus:=rv.zero;subst hus;obtain ⟨z,its,n,r,hl,e⟩:=I.lstM hH;refine call_meets F.slot_list_clear ⟨_,e,rfl⟩ F.entry_list_clear (F.args_list_clear_1 _) (AutoSeq1.list_clear_list_0 l its.toArray n (by rw [Of];lia)) ⟨e,?_⟩;exact ⟨.non,_,I.lset (its':=[]) (ys:=[]) hH e rfl .nil (Nat.zero_le _),rfl,q⟩
noncomputable def ZqC:R2:=fun x y H Q=>∃ l b xs zs,x=.ref l/\y=.ref b/\H l=some (.lst xs)/\H b=some (.lst zs)/\xs.length+zs.length<=sizeLine/\∀ p,H p=none->Q (.ref p) (upd H p (.lst (xs++zs)))
theorem Znp:OpR X (binaryOp .Add) ZqC:=by
 intro pins s Z H x y v u Q I rx ry h;obtain ⟨l,b,xs,zs,rfl,rfl,hH,hB,hz,q⟩:=h;cases rx;cases ry;obtain ⟨z,its,n,r,hl,e⟩:=I.lstM hH;obtain ⟨z2,its2,n2,r2,hl2,e2⟩:=I.lstM hB;refine PySem.P.add_list e e2 ?_ (by rw [Of,Of];lia);have ea:its.toArray++its2.toArray=(its++its2).toArray:=by simp
 rw [ea];exact ⟨.ref _,_,I.lnew (t':=s.toks) (r.append r2) (by rw [OA];lia),rfl,q _ I.fresh⟩
end
end L2
namespace Att
open PySem PySem.W PySem.Calls PyProof.Rows
theorem ZcY:∀ (ns:List Int) (vs:List Value),WellAll P h vs (ns.map WData.int)->IntsAre vs ns:=by
 intro ns;induction ns with
 | nil =>
   intro vs w;rw [Oy] at w;cases w;exact .nil
 | cons n ns ih =>
   intro vs w;rw [Op] at w;cases w with
   | cons a b =>
     cases a;exact .cons _ _ (ih _ b)
theorem Zic{l:OpenLaw}{n:Nat}(hn:l.most=some n){P:Params}{h:Heap}{args:List WData}{vals:List Value}
   (hpre:l.row.toRowW.claim.pre args=true) (hwl:WellAll P h vals args) :
   ∃ a vs ns,vals=[Value.ref a]/\args=[WData.list (ns.map WData.int)]/\h.get? a=some {cls:=.type "list",data:=.seq vs.toArray}/\IntsAre vs ns/\ns.length<=n:=by
 have hsh:WShape.hasAll [] args [.list .int]=true:=(pre_splitW hpre).1;have hc:l.pre.holds [] {args:=args}=true:=(pre_splitW hpre).2;obtain ⟨d,r,rfl,h1,h2⟩:=hasAllW_cons hsh;obtain rfl:=hasAllW_nil h2;obtain ⟨xs,rfl,h3⟩:=hasW_list h1;obtain ⟨ns,rfl⟩:=items_int h3;have hlen:ns.length<=n:=by
   unfold OpenLaw.pre at hc;have h4:(WTm.not (.lt (.lit (.int (n:Int))) (.len (.arg 0)))).holds [] {args:=[.list (ns.map .int)]}=true:=by
     have h4:=(holds_andW hc).1;rw [hn] at h4;exact h4
   have h5:=condW_of h4 (w_not (w_lt w_lit (w_len_list (w_arg rfl))));rw [List.length_map] at h5;refine Nat.le_of_not_lt fun q=>?_;have q':(n:Int)<((ns.length:Nat):Int):=by lia
   first
     | (rw [decide_eq_true q'] at h5;exact absurd h5 (by decide))
     | (simp at h5;lia)
 cases hwl with
 | cons w1 w2 =>
   cases w2;cases w1 with
   | list ho hall=>exact ⟨_,_,ns,rfl,rfl,ho,ZcY ns _ hall,hlen⟩
theorem Zif(l:OpenLaw)(args:List WData):l.row.toRowW.claim.post args (.bool true) args=true :=
 postW_of (r:=l.row.toRowW) (X:=(true==true))
   (show WShape.has [] (.bool true) .bool=true by first|rfl|decide|simp [WShape.has,WShape.arms,WShape.armsAll])
   (show (WTm.eq .res (.lit (.bool true))).value [] {args:=args,res:=some (.bool true),after:=args}=some (.bool (true==true)) from w_eq_bool (w_res rfl) w_lit) rfl
theorem Zgp{l:OpenLaw}{n:Nat}{q:Program}{loose:List Str}{XP:(Str->Option Value)->Heap->Prop}{YP:World->Heap->Prop}{d:DefRec}
   (hn:l.most=some n) (hdf:d.params.defaults=[])
   (call:∀ (w:World) (s₀ s₁:Shared) (mg mb:Str->Option Value) (fa:Addr) (o:Obj) (pm cd doc:Value) (a:Addr) (vs:List Value) (ns:List Int),
     Ground q loose [] XP w s₀ mg mb s₁.heap->YP w s₁.heap ->
     s₁.heap.get? fa=some o->o.data=.func (docDef d.name d.params d.body d.scope pm cd doc)->s₁.heap.CodeRec cd d.name->mg d.name=some (.ref fa) ->
     s₁.heap.get? a=some {cls:=.type "list",data:=.seq vs.toArray}->IntsAre vs ns->ns.length<=n->s₁.gens=#[] ->
     codeAny (model l.prog w) callerA (.call (.ref fa) ⟨[.ref a],[]⟩) (fun r s'=>r=.ok (.ret (.bool true))/\OldK s₁.heap s'.heap/\s'.os=s₁.os/\AllBare s'.gens) s₁) :
   WalkO q loose XP YP l.row.toRowW d [] (fun f vs=>PySem.call f vs):=by
 intro w s₀ s₁ mg mb G Y fa o pm cd doc dV kV ho hd hcd hD hmg hg args vals as hpre hlay hrd hwl hlo;obtain rfl:dV=.none:=Dflts.none hD hdf;obtain rfl:kV=.none:=Dflts.noKw hD;obtain ⟨a,vs,ns,rfl,rfl,hobj,hints,hlen⟩:=Zic hn hpre hwl;refine enter_call (codeAny_mono (call w s₀ s₁ mg mb fa o pm cd doc a vs ns G Y ho (fd_plain hd) hcd hmg hobj hints hlen hg) fun r s' hq=>?_);obtain ⟨rfl,h2,h3,h4⟩:=hq;exact ⟨.inl ⟨.bool true,.bool true,[],rfl,fun _=>rfl,.bool true,Zif l _,fun _=>⟨List.Pairwise.nil,fun _ hm=>(nomatch hm)⟩⟩,h2,h3,h4⟩
end Att
namespace L2
open PySem PySem.Spec PyProof.Rows
theorem Zer:∀ {vs:List Value}{ns:List Int},IntsAre vs ns->Zd (ns.map V.int) vs
 | _,_,.nil=>.nil
 | _,_,.cons n t h=>.cons ⟨t,rfl⟩ (Zer h)
noncomputable def Zl7(H:Hp):Prop:=∀ b,H b=none\/∃ o xs,H b=some (.frz o (.lst xs))
theorem ZjH{P:Program}{w:World}{K:PySem.W.Frag}{mg mb:Str->Option Value}{CX:CXT}{k:Nat}{fa a:Addr}{fd:FuncData}{x:Str}{sp:Sp}{s₁:Shared}{vs:List Value}{ns:List Int}
   (KX:K.In s₁.heap) (hns:s₁.heap.Ns mainGlobals mg) (hb:s₁.heap.Ns builtinsNs mb) (hbb:∀ x:Str,x ≠ "__name__" -> mb x=bootBuiltins x) (hlim:s₁.heap.NoLimit) (hg:s₁.gens=#[])
   (ha:s₁.heap.get? a=some {cls:=.type "list",data:=.seq vs.toArray}) (hi:IntsAre vs ns) (hl:ns.length<=sizeLine) (hr:Room k callerA)
   (F:∀ base:Heap,K.In base->base.Ns mainGlobals mg->FnOk P w K mg base CX k fa fd [x] sp) (hbind:∀ (s:Shared) (u:Value),BindsTo s fd ⟨[u],[]⟩ [(x,u)])
   (hsp:∀ H:Hp,Zl7 H->SqL K H a (ns.map V.int)->sp [.ref a] H (fun v _=>v=.bl true) fun _ _ _=>False)
   (hCX:∀ H e s',CX [] H s₁ (fun _ _ _=>False) e s'->False) :
   codeAny (model P w) callerA (.call (.ref fa) ⟨[.ref a],[]⟩) (fun r s'=>r=.ok (.ret (.bool true))/\OldK s₁.heap s'.heap/\s'.os=s₁.os/\AllBare s'.gens) s₁:=by
 have rv:=Zer hi;have lenV:=hi.length;have core:∀ H:Hp,Zl7 H->SqL K H a (ns.map V.int)->HOk P w H s₁.heap->(∀ b,H b≠none->b=a)->(H a≠none->K.lookup a=none) ->
     codeAny (model P w) callerA (.call (.ref fa) ⟨[.ref a],[]⟩) (fun r s'=>r=.ok (.ret (.bool true))/\OldK s₁.heap s'.heap/\s'.os=s₁.os/\AllBare s'.gens) s₁:=by
   intro H hO hS hok hA hK;have base_of:∀ {b:Addr}{o:Obj},s₁.heap.get? b=some o->H b=none->(Ze8 s₁.heap H).get? b=some o:=fun e n=>ZjS e n;have noA:∀ {b:Addr}{o:Obj}{es:Array DictEntry}{ep:Nat},s₁.heap.get? b=some o->o.data=.dict es ep->H b=none:=fun {b o es ep} e d=>by
     cases q:H b with
     | none=>rfl
     | some u =>
       have e':b=a:=hA b (by rw [q];simp);subst e';rw [ha] at e;cases e;have d':Data.seq vs.toArray _=Data.dict es ep:=d;cases d'
   have nsK:∀ {b:Addr}{m:Str->Option Value},s₁.heap.Ns b m->(Ze8 s₁.heap H).Ns b m:=fun {b m} ⟨o,es,ep,e,d,r⟩=>⟨o,es,ep,base_of e (noA e d),d,r⟩
   have hKb:K.In (Ze8 s₁.heap H):=fun b o e=>base_of (KX b o e) (by
     cases q:H b with
     | none=>rfl
     | some u =>
       have e':b=a:=hA b (by rw [q];simp);subst e';rw [hK (by rw [q];simp)] at e;cases e)
   have hM:Mod K mg (Ze8 s₁.heap H):=⟨hKb,nsK hns,⟨mb,nsK hb,hbb⟩,let ⟨mc,h1,h2⟩:=hlim;⟨mc,nsK h1,h2⟩⟩
   have e0:Env0 P w K mg (Ze8 s₁.heap H) callerA [] s₁ H:=⟨rfl,hM,fun b o e=>Zlk e,Nat.le_of_eq (Ziz _ _),trivial,fun b hb=>absurd (show b∈([]:List Addr) from hb) (by simp),hok,.of_eq hg⟩
   refine codeAny_mono ((F _ hKb (nsK hns)).run callerA [] s₁ H ⟨[.ref a],[]⟩ [.ref a] [.ref a] _ _ hr e0 (hbind s₁ (.ref a)) (.cons rfl .nil) (hsp H hO hS)) fun r s' h=>?_;cases r with
   | error e=>exact (hCX H e s' h).elim
   | ok fl =>
     cases fl with
     | next=>exact False.elim h
     | brk=>exact False.elim h
     | cont=>exact False.elim h
     | ret u =>
       obtain ⟨v,H',os,bare,un,hok',r',q⟩:=h;have q':v=.bl true:=q;subst q';obtain rfl:u=Value.bool true:=r';refine ⟨rfl,OldK.of_keep fun b o e=>?_,os,bare⟩;cases q:H b with
       | none=>exact un.keep b o e q (by intro z;exact absurd (show b∈([]:List Addr) from z) (by simp)) (by simp)
       | some u =>
         rcases hO b with z|⟨ob,xs,z⟩
         . rw [q] at z;cases z
         . have z2:=un.frzs b ob _ z;obtain ⟨e1,_⟩:=hok b _ z;obtain ⟨e2,_⟩:=hok' b _ z2;rw [e] at e1;cases e1;exact e2
 cases hk:K.lookup a with
 | some o =>
   have e:=KX a o hk;rw [ha] at e;cases e;refine core (fun _=>none) (fun _=>.inl rfl) (.inr ⟨_,vs.toArray,_,hk,rfl,rfl,rfl,by rw [Of,lenV];exact hl,by simpa using rv⟩) (fun b u z=>by have z':(none:Option HO)=some u:=z;cases z') (fun b z=>absurd rfl z) fun z=>absurd rfl z
 | none =>
   refine core (fun b=>if b=a then some (.frz {cls:=.type "list",data:=.seq vs.toArray} (.lst (ns.map V.int))) else none) (fun b=>?_) (.inl (.inr ⟨{cls:=.type "list",data:=.seq vs.toArray},if_pos rfl⟩)) (fun b u z=>?_) (fun b z=>?_) fun _=>hk
   . by_cases hb:b=a
     . exact .inr ⟨_,_,if_pos hb⟩
     . exact .inl (if_neg hb)
   . by_cases hb:b=a
     . have z':=(if_pos hb).symm.trans z;cases z';subst hb;exact ⟨ha,by rw [List.length_map];exact hl,vs,_,rv,ha⟩
     . have z':=(if_neg hb).symm.trans z;cases z'
   . by_cases hb:b=a
     . exact hb
     . exact absurd (if_neg hb) z
end L2
namespace L2
open PySem PySem.Spec PyProof.Rows
theorem Zko{l:PySem.W.OpenLaw}{n k:Nat}{q:Program}{loose:List Str}{XP:(Str->Option Value)->Heap->Prop}{YP:World->Heap->Prop}{d:DefRec}{K:Params->PySem.W.Frag}{CX:World->CXT}{sp:World->Sp}{x:Str}
   (hn:l.most=some n) (hn2:n<=sizeLine) (hdf:d.params.defaults=[]) (hr:Room k callerA)
   (hY:∀ (w:World) (h:Heap),YP w h->(K w.params).In h)
   (F:∀ (w:World) (mg:Str->Option Value) (fa:Addr) (h:Heap),(K w.params).In h->h.Ns mainGlobals mg->mg d.name=some (.ref fa) ->
     ∃ fd:FuncData,(∀ (s:Shared) (u:Value),BindsTo s fd ⟨[u],[]⟩ [(x,u)]) /\
       ∀ base:Heap,(K w.params).In base->base.Ns mainGlobals mg->FnOk l.prog w (K w.params) mg base (CX w) k fa fd [x] (sp w))
   (hsp:∀ (w:World) (H:Hp) (a:Addr) (ns:List Int),ns.length<=n->Zl7 H->SqL (K w.params) H a (ns.map V.int)->sp w [.ref a] H (fun v _=>v=.bl true) fun _ _ _=>False)
   (hCX:∀ (w:World) (H:Hp) (s:Shared) (e:Value) (s':Shared),CX w [] H s (fun _ _ _=>False) e s'->False) :
   PySem.W.WalkO q loose XP YP l.row.toRowW d [] (fun f vs=>PySem.call f vs):=by
 refine Att.Zgp hn hdf fun w s₀ s₁ mg mb fa o pm cd doc a vs ns G Y ho hd hcd hmg hobj hints hlen hg=>?_;have KX:=hY w _ Y;obtain ⟨fd,hb,hF⟩:=F w mg fa _ KX G.T.g hmg;exact ZjH KX G.T.g G.T.b G.T.builtins G.T.nolimit hg hobj hints (OE hlen hn2) hr hF hb (fun H hO hS=>hsp w H a ns hlen hO hS) fun H e s'=>hCX w H s₁ e s'
end L2
namespace L2
open PySem PySem.Spec PyProof.Rows
noncomputable def Za6(s:Stmt):Arguments:=match s with
 | .FunctionDef _ a _ _ _ _ _ _ _ _=>a
 | _=>{posonlyargs:=[],args:=[],vararg:=none,kwonlyargs:=[],kw_defaults:=[],kwarg:=none,defaults:=[]}
noncomputable def Zae(s:Stmt):List Stmt:=match s with
 | .FunctionDef _ _ b _ _ _ _ _ _ _=>b
 | _=>[]
noncomputable def Zz(s:Stmt):Scope:=match s with
 | .FunctionDef _ _ _ _ _ _ sc _ _ _=>sc
 | _=>{kind:=.function,names:=[],isGenerator:=false,isCoroutine:=false}
noncomputable abbrev E0:XK:=fun _ _ _=>False
structure Fun(K:PySem.W.Frag)(x qual:Str)(st:Stmt)(f:Addr)(fd:FuncData):Prop where
 ex:∃ (oc:Value) (od:Option Addr) (kV doc pm:Value) (an:Option Addr) (cdv ct:Value) (osl:Array (Option Value)),
   fd=PySem.W.fnOf x qual (Za6 st) (Zae st) (Zz st) .none kV doc pm an cdv ct/\K.lookup f=some ⟨oc,od,.func fd,osl⟩/\PySem.W.codeIn K cdv qual=true
 kp:PySem.W.keepIn K (.ref f)=true
section
variable {P:Program}{w:World}{K:PySem.W.Frag}{mg:Str->Option Value}{base:Heap}
theorem Fun.binds{x qual:Str}{st:Stmt}{f:Addr}{fd:FuncData}{ps:List Str}(F:Fun K x qual st f fd)
   (h:∀ (kV doc pm:Value) (an:Option Addr) (cdv ct:Value) (us:List Value),us.length=ps.length->bindArgs (PySem.W.fnOf x qual (Za6 st) (Zae st) (Zz st) .none kV doc pm an cdv ct) ⟨us,[]⟩=pure (ps.zip us)):Binds K fd ps []:=by
 obtain ⟨oc,od,kV,doc,pm,an,cdv,ct,osl,rfl,lk,hcd⟩:=F.ex;exact .all (h kV doc pm an cdv ct)
theorem ZjV{x qual:Str}{st:Stmt}{f:Addr}{oc:Value}{od an:Option Addr}{osl:Array (Option Value)}{kV doc pm cdv ct:Value}(l:K.lookup f=some ⟨oc,od,.func (PySem.W.fnOf x qual (Za6 st) (Zae st) (Zz st) .none kV doc pm an cdv ct),osl⟩)
   (c:PySem.W.codeIn K cdv qual=true) (k:PySem.W.keepIn K (.ref f)=true):Fun K x qual st f (PySem.W.fnOf x qual (Za6 st) (Zae st) (Zz st) .none kV doc pm an cdv ct):=⟨⟨oc,od,kV,doc,pm,an,cdv,ct,osl,rfl,l,c⟩,k⟩
end
theorem ZgS{A B_:Prop}(h:B_):if false=true then A else B_:=by
 rw [if_neg Ow];exact h
theorem ZgR{A B_:Prop}(h:A):if true=true then A else B_:=by
 rw [if_pos rfl];exact h
end L2
end
section
set_option tactic.hygienic false
namespace L2
open PySem PySem.Spec PyProof.Rows
section
variable {κ:Type} [DecidableEq κ]
noncomputable def ZbR(kvs:List (κ×V))(k:κ):Option V:=(kvs.find? fun kv=>decide (kv.1=k)).map (·.2)
noncomputable def putK(kvs:List (κ×V))(k:κ)(v:V):List (κ×V) :=
 if (kvs.any fun kv=>decide (kv.1=k))=true then kvs.map (fun kv=>if kv.1=k then (kv.1,v) else kv) else kvs++[(k,v)]
theorem ZiR{p:κ×V}{r:List (κ×V)}{k:κ}(e:p.1=k):ZbR (p::r) k=some p.2:=by simp [ZbR,List.find?_cons,e]
theorem ZiS{p:κ×V}{r:List (κ×V)}{k:κ}(e:¬ p.1=k):ZbR (p::r) k=ZbR r k:=by simp [ZbR,List.find?_cons,e]
theorem ZcH(kvs:List (κ×V))(k:κ)(v:V):(putK kvs k v).length<=kvs.length+1:=by
 unfold putK;split
 . rw [List.length_map];lia
 . rw [OA,Os,List.length_nil];lia
theorem ZcE.isSome_eq{o:Option V}{u:Option Value}(r:ZcE o u):o.isSome=u.isSome:=by
 cases o with
 | none=>cases u with
   | none=>rfl
   | some _=>exact (show False from r).elim
 | some _=>cases u with
   | none=>exact (show False from r).elim
   | some _=>rfl
theorem KV.val{kvs:List (κ×V)}{vs:List (κ×Value)}(r:KV kvs vs)(k:κ):ZcE (ZbR kvs k) (valueAt vs k):=by
 unfold KV at r;induction r with
 | nil=>exact True.intro
 | @cons p q ps qs h t ih =>
   obtain ⟨h1,h2⟩:=h;by_cases e:p.1=k
   . have e':q.1=k:=h1.symm.trans e;have b:valueAt (q::qs) k=some q.2:=by simp [valueAt,List.find?_cons,e']
     rw [ZiR e,b];exact h2
   . have e':¬ q.1=k:=fun z=>e (h1.trans z);have b:valueAt (q::qs) k=valueAt qs k:=by simp [valueAt,List.find?_cons,e']
     rw [ZiS e,b];exact ih
theorem KV.any{kvs:List (κ×V)}{vs:List (κ×Value)}(r:KV kvs vs)(k:κ):(kvs.any fun kv=>decide (kv.1=k))=vs.any fun kv=>decide (kv.1=k):=by
 unfold KV at r;induction r with
 | nil=>rfl
 | cons h t ih=>rw [List.any_cons,List.any_cons,ih,h.1]
theorem KV.repl{kvs:List (κ×V)}{vs:List (κ×Value)}(r:KV kvs vs)(k:κ){y:V}{u:Value}(ry:RelV y u) :
   KV (kvs.map fun kv=>if kv.1=k then (kv.1,y) else kv) (vs.map fun kv=>if kv.1=k then (kv.1,u) else kv):=by
 unfold KV at r ⊢;induction r with
 | nil=>exact .nil
 | @cons p q ps qs h t ih =>
   rw [Op,Op];refine .cons ?_ ih;obtain ⟨h1,h2⟩:=h;by_cases e:p.1=k
   . rw [if_pos e,if_pos (h1.symm.trans e)];exact ⟨h1,ry⟩
   . rw [if_neg e,if_neg (fun z=>e (h1.trans z))];exact ⟨h1,h2⟩
theorem KV.put{kvs:List (κ×V)}{vs:List (κ×Value)}(r:KV kvs vs)(k:κ){y:V}{u:Value}(ry:RelV y u):KV (putK kvs k y) (stored vs k u):=by
 unfold putK stored;rw [r.any k];by_cases e:(vs.any fun kv=>decide (kv.1=k))=true
 . rw [if_pos e,if_pos e];exact r.repl k ry
 . rw [if_neg e,if_neg e];exact Paired.snoc r ⟨rfl,ry⟩
theorem KV.length(r:KV kvs vs):kvs.length=vs.length:=Paired.length r
end
theorem Zf6(r:RelV (kV k) u):(Zw P w).is k u=true:=by
 cases k with
 | inl i=>obtain ⟨t,e⟩:=(show ∃ t,u=Value.int i t from r);subst e;exact Zf1 P w i t
 | inr x=>obtain ⟨t,e⟩:=(show ∃ t,u=Value.str x t from r);subst e;exact Zf0 P w x t
section
variable {P:Program}{w:World}{H:Hp}{h:Heap}{a:Addr}
theorem ZoH(ok:HOk P w H h)(e:Rd H a u):ZJ P w H h a u:=e.ok ok
theorem Zmp(ok:HOk P w H h)(e:Rd H a (.dK kvs)):kvs.length<=sizeLine/\(a==sysModules)=false/\∃ vs,KV kvs vs/\h.DictOf (Zw P w) a vs :=
 show ZJ P w H h a (.dK kvs) from ZoH ok e
theorem Zmq(ok:HOk P w H h)(e:H a=some (.dK kvs)):kvs.length<=sizeLine/\(a==sysModules)=false/\∃ vs,KV kvs vs/\h.DictOf (Zw P w) a vs:=Zmp ok (.inl e)
end
section
variable {X:Cx}{pins:List (Addr×Obj)}{Z:St}{H:Hp}{s:Shared}{a:Addr}{y v:V}{u r:Value}{o:Option V}{A:Around}{E:Value->Shared->Prop}
theorem Inv.big(I:Inv X pins Z H s):sysModules<s.heap.objs.size:=by
 have h:mainGlobals<s.heap.objs.size:=(I.mod.glob.keeps I.bk).lt;exact Nat.lt_trans (by decide) h
theorem ZhR(I:Inv X pins Z H s)(mu:Mut (H a))(hs:Heap.SameBut a s.heap h')(he:∃ q,h'.get? a=some q)(new:ZJ X.prog X.w (upd H a ob) h' a ob) :
   Inv X pins Z (upd H a ob) {s with heap:=h',toks:=t'} :=
 I.write (x:=a) (e:=a) mu (.inl rfl) (fun b q hb z=>(hs.2 b hb).trans z) he new
theorem Zj7(z:kvs.length<=sizeLine)(hd:(a==sysModules)=false)(rel:KV kvs vs)(dd:h'.DictOf (Zw P w) a vs) :
   ZJ P w H' h' a (.dK kvs):=⟨z,hd,vs,rel,dd⟩
end
theorem Zgd (h:Heap) (hb:sysModules<h.objs.size):ZJ P w H (h.push {cls:=.type "dict",data:=.dict #[]}) h.objs.size (.dK []) :=
 ⟨Nat.zero_le _,beq_eq_false_iff_ne.mpr (Ne.symm (Ou hb)),[],.nil,Heap.DictOf.new h⟩
noncomputable def ZmQ:TE:=fun _ H Q=>∀ p,H p=none->Q (.ref p) (upd H p (.dK []))
section
variable {X:Cx}{pos:Pos}
theorem Zjw:PE X (.Dict [] [] pos) ZmQ:=fun pins s Z H Q I h =>
 wpAny_Dict_empty ⟨.ref s.heap.objs.size,_,I.laid (a:=s.heap.objs.size) (o:=.dK []) (t':=s.toks) (fun _ _ q=>Od _ q) (Oq _) (Zgd s.heap I.big),rfl,h _ (I.hok.fresh (Oq _))⟩
end
noncomputable def ZeN:List (TE×TE)->St->Hp->(List (V×V)->Hp->Prop)->Prop
 | [],_,H,Q=>Q [] H
 | (tk,tv)::r,Z,H,Q=>tk Z H fun x H1=>tv Z H1 fun y H2=>ZeN r Z H2 fun ps H3=>Q ((x,y)::ps) H3
noncomputable abbrev VV:List (V×V)->List (Value×Value)->Prop:=Paired fun p q=>RelV p.1 q.1/\RelV p.2 q.2
noncomputable def PPs(X:Cx)(pos:Pos)(keys:List (Option Expr))(values:List Expr)(trs:List (TE×TE)):Prop :=
 ∀ (pins:List (Addr×Obj)) (s:Shared) (Z:St) (H:Hp) (Q:List (V×V)->Hp->Prop),Inv X pins Z H s->ZeN trs Z H Q ->
   wpAny (model X.prog X.w) X.A (evalPairs (pairTrees keys values X.env pos)) (fun vs s'=>∃ ps H',Inv X pins Z H' s'/\VV ps vs/\Q ps H') X.xe s
theorem ZkP:PPs X pos [] [] []:=fun pins s Z H Q I h=>pairTrees_nil_walk ⟨[],H,I,.nil,h⟩
theorem Zjn(hk:PE X k tk)(hv:PE X v tv)(hr:PPs X pos ks vs trs) :
   PPs X pos (some k::ks) (v::vs) ((tk,tv)::trs):=fun pins s Z H Q I h =>
 pairTrees_cons_walk (thn (hk pins s Z H _ I h) fun u s1 ⟨x,H1,I1,rx,q1⟩=>thn (hv pins s1 Z H1 _ I1 q1) fun w2 s2 ⟨y,H2,I2,ry,q2⟩ =>
   thn (hr pins s2 Z H2 _ I2 q2) fun ws s3 ⟨ps,H3,I3,rel,q3⟩=>⟨(x,y)::ps,H3,I3,.cons ⟨rx,ry⟩ rel,q3⟩)
noncomputable def Zcj(kvs more:List (Key×V)):List (Key×V):=more.foldl (fun acc kv=>putK acc kv.1 kv.2) kvs
theorem KV.merge:∀ {more:List (Key×V)}{rs:List (Key×Value)}{kvs:List (Key×V)}{vs:List (Key×Value)},KV more rs->KV kvs vs->KV (Zcj kvs more) (merged vs rs):=by
 intro more rs kvs vs r;unfold KV at r;induction r generalizing kvs vs with
 | nil=>intro q;exact q
 | @cons p q ps qs h t ih =>
   intro r0;have e:KV (putK kvs p.1 p.2) (stored vs q.1 q.2):=by
     have:=r0.put p.1 h.2;rw [<- h.1];exact this
   exact ih e
theorem Zbe:∀ (more kvs:List (Key×V)),(Zcj kvs more).length<=kvs.length+more.length
 | [],kvs=>by show kvs.length<=kvs.length+0;lia
 | p::r,kvs=>by
   have h1:=Zbe r (putK kvs p.1 p.2);have h2:=ZcH kvs p.1 p.2;show (Zcj (putK kvs p.1 p.2) r).length<=_;rw [Os];lia
theorem ZdP:∀ {kvs:List (Key×V)}{ws:List (Value×Value)},VV (kvs.map fun kv=>(kV kv.1,kv.2)) ws->∃ rs,Carries (Zw P w) ws rs/\KV kvs rs
 | [],_,r=>by rw [Oy] at r;cases r;exact ⟨[],True.intro,.nil⟩
 | p::kvs,_,r=>by
   rw [Op] at r;cases r with
   | @cons a b as bs h t =>
     obtain ⟨rs,c,q⟩:=ZdP (P:=P) (w:=w) t;obtain ⟨b1,b2⟩:=b;exact ⟨(p.1,b2)::rs,⟨Zf6 h.1,rfl,c⟩,.cons ⟨rfl,h.2⟩ q⟩
noncomputable def Zoy(trs:List (TE×TE)):TE:=fun Z H Q=>∀ p,H p=none->ZeN trs Z (upd H p (.dK [])) fun ps H2=>H2 p=some (.dK [])/\∃ kvs:List (Key×V),ps=kvs.map (fun kv=>(kV kv.1,kv.2))/\kvs.length<=15/\Q (.ref p) (upd H2 p (.dK (Zcj [] kvs)))
theorem Zk0(h:PPs X pos keys values trs)(hall:keys.all (·.isSome)=true)(hl:keys.length=values.length)(h0:keys≠[])
   (h15:keys.length<=15):PE X (.Dict keys values pos) (Zoy trs):=by
 intro pins s Z H Q I q;have hn:=I.hok.fresh (Oq s.heap.objs.size);have I1:=I.laid (a:=s.heap.objs.size) (o:=.dK []) (h':=s.heap.push {cls:=.type "dict",data:=.dict #[]}) (t':=s.toks) (fun _ _ q=>Od _ q) (Oq _) (Zgd s.heap I.big);refine wpAny_Dict_walk (knd:=Zw X.prog X.w) hall hl h0 h15 (thn (h pins _ Z _ _ I1 (q _ hn)) fun ws s2 ⟨ps,H2,I2,rel,e,kvs,ep,lk,q2⟩=>?_);subst ep;obtain ⟨rs,c,rk⟩:=ZdP (P:=X.prog) (w:=X.w) rel;obtain ⟨z,hd,vs0,r0,dd⟩:=Zmq I2.hok e;cases r0;refine ⟨rs,c,dd,fun h' dd' hs=>⟨.ref s.heap.objs.size,_,?_,rfl,q2⟩⟩;have hz:(Zcj [] kvs).length<=sizeLine:=by
   have h1:=Zbe kvs [];rw [List.length_nil] at h1;rw [sizeLine_eq];lia
 have he:∃ q,h'.get? s.heap.objs.size=some q:=let ⟨q,_,_,hq,_⟩:=dd';⟨q,hq⟩;exact ZhR I2 (by rw [e];exact True.intro) hs he (Zj7 hz hd (rk.merge .nil) dd')
end L2
end
section
namespace L2
open PySem PySem.Spec PyProof.Rows
theorem ZaM{env:Env}:∀ (names:List (Str×NameKind)) (x:Str),
   (names.map fun (n,k)=>if (k==NameKind.free&&env.scope.kind==.function&&env.kindOf n==some .cell) then (n,NameKind.cell) else (n,k)).lookup x =
     (names.lookup x).map fun k=>if (k==NameKind.free&&env.scope.kind==.function&&env.kindOf x==some .cell) then NameKind.cell else k
 | [],_=>rfl
 | (n,k)::r,x=>by
   have ih:=@ZaM env r x;show List.lookup x ((if (k==NameKind.free&&env.scope.kind==.function&&env.kindOf n==some .cell)=true then (n,NameKind.cell) else (n,k))::_)=_;cases hx:x==n with
   | true =>
     have e:x=n:=by simpa using hx
     subst e;by_cases hc:(k==NameKind.free&&env.scope.kind==.function&&env.kindOf x==some .cell)=true
     . rw [if_pos hc];simp only [OF,hx,Option.map_some,if_pos hc]
     . rw [if_neg hc];simp only [OF,hx,Option.map_some,if_neg hc]
   | false =>
     by_cases hc:(k==NameKind.free&&env.scope.kind==.function&&env.kindOf n==some .cell)=true
     . rw [if_pos hc];simp only [OF,hx];exact ih
     . rw [if_neg hc];simp only [OF,hx];exact ih
noncomputable def Zcr(env:Env):List (Str×NameKind)->List (Str×Addr)->List (Str×Addr)
 | [],cs=>cs
 | (n,k)::r,cs=>Zcr env r (if (k==.free)=true then (n,(env.cells.lookup n).getD 0)::cs else cs)
theorem Zgk{env:Env}:∀ (l:List (Str×NameKind)) (cs:List (Str×Addr)),(∀ y∈l,y.2=.free->∃ c,env.cells.lookup y.1=some c) ->
   (∀ x c,(x,c)∈cs->env.cells.lookup x=some c)->∀ x c,(x,c)∈Zcr env l cs->env.cells.lookup x=some c
 | [],cs,_,h2,x,c,hm=>h2 x c hm
 | (n,k)::r,cs,h1,h2,x,c,hm=>by
   refine Zgk r _ (fun y hy=>h1 y (Oh _ hy)) (fun x c hm=>?_) x c hm;by_cases hk:(k==NameKind.free)=true
   . rw [if_pos hk] at hm;rcases O2.mp hm with e|hm
     . cases e;have hk':k=.free:=by
         cases k<;>first|rfl|(exact absurd hk (by decide))
       obtain ⟨c,e⟩:=h1 (n,k) Oi hk';rw [e];rfl
     . exact h2 x c hm
   . rw [if_neg hk] at hm;exact h2 x c hm
theorem ZeH:∀ (l:List (Str×NameKind)) (cs:List (Str×Addr)) (p:Str×Addr),p∈cs->p∈Zcr env l cs
 | [],_,_,h=>h
 | (n,k)::r,cs,p,h=>by
   refine ZeH r _ p ?_;by_cases hk:(k==NameKind.free)=true
   . rw [if_pos hk];exact Oh _ h
   . rw [if_neg hk];exact h
theorem Zgl:∀ (l:List (Str×NameKind)) (cs:List (Str×Addr)) (y:Str×NameKind),y∈l->y.2=.free->∃ c,(y.1,c)∈Zcr env l cs
 | (n,k)::r,cs,y,h,hf=>by
   rcases O2.mp h with e|h
   . subst e;refine ⟨(env.cells.lookup n).getD 0,ZeH r _ _ ?_⟩;have hk:(k==NameKind.free)=true:=by
       have:k=.free:=hf;subst this;rfl
     rw [if_pos hk];exact Oi
   . exact Zgl r _ y h hf
theorem Zbd:∀ {l:List (Str×α)}{x:Str}{c:α},(x,c)∈l->∃ c',l.lookup x=some c'/\(x,c')∈l
 | (n,d)::r,x,c,h=>by
   cases hx:x==n with
   | true =>
     have e:x=n:=by simpa using hx
     subst e;exact ⟨d,by simp [OF],Oi⟩
   | false =>
     rcases O2.mp h with e|h
     . cases e;simp at hx
     . obtain ⟨c',h1,h2⟩:=Zbd h;exact ⟨c',by simp only [OF,hx];exact h1,Oh _ h2⟩
theorem Zec(h:∀ y∈scope.names,y.2=.free->∃ c,env.cells.lookup y.1=some c):closureFor scope env=pure (Zcr env scope.names []):=by
 have all:∀ (l:List (Str×NameKind)) (cs:List (Str×Addr)),(∀ y∈l,y.2=.free->∃ c,env.cells.lookup y.1=some c) ->
     (forIn l cs fun (x:Str×NameKind) r=>match x with|(name,kind)=>if (kind==NameKind.free)=true then (do let a <- cellOf env name;pure (ForInStep.yield ((name,a)::r))) else pure (ForInStep.yield r):Sem (List (Str×Addr)))=pure (Zcr env l cs):=by
   intro l;induction l with
   | nil=>intro cs _;rfl
   | cons y r ih =>
     intro cs hl;obtain ⟨n,k⟩:=y;rw [List.forIn_cons];have hr:=fun cs=>ih cs fun y hy=>hl y (Oh _ hy);by_cases hk:(k==NameKind.free)=true
     . have hk':k=.free:=by
         cases k<;>first|rfl|(exact absurd hk (by decide))
       obtain ⟨c,e⟩:=hl (n,k) Oi hk';have ec:cellOf env n=pure c:=by unfold cellOf;rw [e]
       simp only [hk,if_true,ec];show (forIn r ((n,c)::cs) _:Sem _)=_;rw [hr];show _=pure (Zcr env r (if (k==NameKind.free)=true then (n,(env.cells.lookup n).getD 0)::cs else cs));rw [if_pos hk,e];rfl
     . simp only [hk];show (forIn r cs _:Sem _)=_;rw [hr];show _=pure (Zcr env r (if (k==NameKind.free)=true then (n,(env.cells.lookup n).getD 0)::cs else cs));rw [if_neg hk]
 unfold closureFor;have z:=all scope.names [] h;dsimp only at z ⊢;rw [z];rfl
end L2
end
section
set_option tactic.hygienic false
namespace L2
open PySem PySem.Spec PyProof.Rows
theorem Zgh(I:Nat->Shared->Prop)
   (turn:∀ n s,I n s->wpAny (model prog w) A (pyNext it) (fun r s₁=>match r with
     | none=>R (.ok .next) s₁
     | some v=>wpAny (model prog w) A (letOwnedTupleGo target it v) (fun _ s₁'=>wpAny (model prog w) A (assign target env v) (fun _ s₂ =>
         wpAny (model prog w) A (forIn ifs true fun c r=>if r=true then do let ok <- isTrue c env (eval c env);pure (ForInStep.yield ok) else pure (ForInStep.yield r)) (fun ok s₃ =>
           if ok=true then wpAny (model prog w) A (eval elt env) (fun x s₄ =>
             wpAny (model prog w) A (call (.builtin "list.append") [acc,x]) (fun _ s₅=>∃ m,m<n/\I m s₅) (notedBy (model prog w) A env fun e s'=>R (.error e) s') s₄) (notedBy (model prog w) A env fun e s'=>R (.error e) s') s₃
           else ∃ m,m<n/\I m s₃) (notedBy (model prog w) A env fun e s'=>R (.error e) s') s₂) (notedBy (model prog w) A env fun e s'=>R (.error e) s') s₁') (notedBy (model prog w) A env fun e s'=>R (.error e) s') s₁) (notedBy (model prog w) A env fun e s'=>R (.error e) s') s)
   (n:Nat) (h:I n s) :
   codeAny (model prog w) A (.compLoop (.ListComp elt [⟨target,iter,ifs,0⟩] scope pos) 0 it acc env) R s:=by
 refine codeAny_loop rfl I (fun n s hI=>?_) n h;show wpAny _ A ((compTurn (.ListComp elt [⟨target,iter,ifs,0⟩] scope pos) 0 it acc env).onRaise (fun x=>do noteFrame x env;theTreesLotGoes x)) _ _ s;refine wpAny_noted ?_;rw [compTurn_list];refine wpAny_bind (wpAny_standAt (wpAny_bind (wpAny_mono (turn n s hI) (fun r s₁ h₁=>?_) fun _ _ h'=>h')));cases r with
 | none=>exact wpAny_pure h₁
 | some v =>
   refine wpAny_bind (wpAny_mono h₁ (fun _ s₁' h₁'=>?_) fun _ _ h'=>h');refine wpAny_bind (wpAny_mono h₁' (fun _ s₂ h₂=>wpAny_bind (wpAny_mono h₂ (fun ok s₃ h₃=>?_) fun _ _ h'=>h')) fun _ _ h'=>h');cases ok with
   | false=>exact wpAny_pure ⟨rfl,h₃⟩
   | true =>
     exact wpAny_bind (wpAny_bind (wpAny_mono h₃ (fun x s₄ h₄=>wpAny_bind (wpAny_mono h₄ (fun _ s₅ h₅=>wpAny_pure (wpAny_pure ⟨rfl,h₅⟩)) fun _ _ h'=>h')) fun _ _ h'=>h'))
structure CompSc(NC N:List Str)(js:List (Option Nat))(sc scope:Scope):Prop where
 kind:scope.kind=.function
 dkind:sc.kind=.function
 nocell:∀ y∈scope.names,y.2≠.cell
 locs:∀ y∈scope.names,y.2=.local->scope.names.lookup y.1=some .local
 free:∀ y∈scope.names,y.2=.free->sc.names.lookup y.1=some .cell
 nd:NC.Nodup
 len:js.length=NC.length
 jok:((NC.zip js).all fun p=>p.2.all fun j=>decide (N[j]? = some p.1)&&decide (scope.names.lookup p.1=some .free))=true
theorem CompSc.at{NC N:List Str}{js:List (Option Nat)}(S_:CompSc NC N js sc scope){i j:Nat}{x:Str}(h1:NC[i]? = some x)(h2:js[i]? = some (some j)):N[j]? = some x/\scope.names.lookup x=some .free:=by
 have h:=S_.jok;rw [OC] at h;have hm:(x,some j)∈NC.zip js:=by
   refine O1 (i:=i) ?_;rw [List.getElem?_zip_eq_some];exact ⟨h1,h2⟩
 have q:=h _ hm;simp only [Option.all_some,Oa,decide_eq_true_eq] at q;exact q
noncomputable def capt(js:List (Option Nat))(Z:St):St:=js.map fun o=>o.bind fun j=>(Z[j]?).join
noncomputable def Zl(X:Cx)(NC:List Str)(scope:Scope)(C:Addr)(s3:Shared)(H3:Hp)(fp:List Addr):Cx :=
 {X with N:=NC,s₀:=s3,H₀:=H3,env:=compEnvC scope (Zcr X.env scope.names []) C X.env,outer:=X.stack,stack:=X.stack,ex:=fp,fn:=fun _=>false,calm:=true,pn:=[],xe:=fun _ _=>False}
noncomputable def Zg4(k:Nat)(g:TG):Prop:=∀ x Z H Q,g x Z H Q->g x Z H fun σ2 H2=>Q σ2 H2/\σ2.length=Z.length/\∀ j,k<=j->σ2[j]? = Z[j]?
noncomputable def Zgt(k:Nat)(g:TGs):Prop:=∀ x Z H Q,g x Z H Q->g x Z H fun σ2 H2=>Q σ2 H2/\σ2.length=Z.length/\∀ j,k<=j->σ2[j]? = Z[j]?
theorem Zkt(h:i<k):Zg4 k (ZaE i):=fun x Z H Q q=>⟨q,List.length_set,fun j hj=>by rw [Oc (by lia)]⟩
theorem Zhe:Zgt k Zlz:=fun x Z H Q q=>⟨q.1,q.2,rfl,fun _ _=>rfl⟩
theorem Zdj(h:i<k)(hu:Zgt k u):Zgt k (Zga (ZaE i) u):=by
 rintro xs Z H Q ⟨v,r,e,q⟩;refine ⟨v,r,e,?_⟩;have z:=hu r (Z.set i (some v)) H Q q;have z2:=hu r (Z.set i (some v)) H (fun σ2 H2=>Q σ2 H2/\σ2.length=(Z.set i (some v)).length/\∀ j,k<=j->σ2[j]? = (Z.set i (some v))[j]?) z;show u r (Z.set i (some v)) H _;have e1:(Z.set i (some v)).length=Z.length:=List.length_set;have e2:∀ j,k<=j->(Z.set i (some v))[j]? = Z[j]? := fun j hj=>Oc (by lia);have e3:(fun σ2 H2=>Q σ2 H2/\σ2.length=Z.length/\∀ j,k<=j->σ2[j]? = Z[j]?)=(fun σ2 H2=>Q σ2 H2/\σ2.length=(Z.set i (some v)).length/\∀ j,k<=j->σ2[j]? = (Z.set i (some v))[j]?):=by
   funext σ2 H2;rw [e1];refine propext ⟨fun ⟨a,b,c⟩=>⟨a,b,fun j hj=>(c j hj).trans (e2 j hj).symm⟩,fun ⟨a,b,c⟩=>⟨a,b,fun j hj=>(c j hj).trans (e2 j hj)⟩⟩
 rw [e3];exact z
theorem ZiY{K:PySem.W.Frag}(hu:Zgt k u):Zg4 k (Zly K n u):=by
 rintro x Z H Q ⟨a,xs,e,h1,h2,q⟩;exact ⟨a,xs,e,h1,h2,hu xs Z H Q q⟩
noncomputable def PIf(X:Cx)(ifs:List Expr)(t:TT):Prop :=
 ∀ (pins:List (Addr×Obj)) (s:Shared) (Z:St) (H:Hp) (Q:Bool->Hp->Prop),Inv X pins Z H s->t Z H Q ->
   wpAny (model X.prog X.w) X.A (forIn ifs true fun c r=>if r=true then do let ok <- isTrue c X.env (eval c X.env);pure (ForInStep.yield ok) else pure (ForInStep.yield r)) (TP X pins Z Q) X.xe s
noncomputable def Zp8:TT:=fun _ H Q=>Q true H
theorem ZkV{X:Cx}:PIf X [] Zp8:=fun _ _ _ H _ I h=>wpAny_tests_nil ⟨H,I,h⟩
theorem ZkU{X:Cx}{c:Expr}{t:TT}(hc:PT X c t):PIf X [c] t:=fun pins s Z H Q I h=>wpAny_tests_one (hc pins s Z H Q I h)
noncomputable def Zi0(wi:TI)(js:List (Option Nat))(g:TG)(tc:TT)(te:TE):TE:=fun Z H Q=>wi Z H fun J H1=>∀ D,H1 D=none->∃ W:Nat->Nat->List V->Hp->Prop,(∃ m,W 0 m [] (upd H1 D (.lst []))) /\
 ∀ i m ys H,W i m ys H->H D=some (.lst ys)->(J.stop i H/\Q (.ref D) H) \/
   (J.go i H/\ys.length<sizeLine/\∀ x H',J.yld i H x H'->g x (capt js Z) H' fun σ2 H2=>tc σ2 H2 fun b H3 =>
     if b=true then te σ2 H3 fun y H4=>H4 D=some (.lst ys)/\∃ m',m'<m/\W (i+1) m' (ys++[y]) (upd H4 D (.lst (ys++[y])))
     else H3 D=some (.lst ys)/\∃ m',m'<m/\W (i+1) m' ys H3)
section
variable {X:Cx}{pins:List (Addr×Obj)}{Z:St}{H:Hp}{s:Shared}
theorem ZjP{NC:List Str}{js:List (Option Nat)}{sc scope:Scope}{C:Addr}{h4:Heap}{tk:Nat}{fp:List Addr}{m:Str->Option Value}(S_:CompSc NC X.N js sc scope)(hsc:X.env.scope=sc)(hc:X.calm=true)
   (I:Inv X pins Z H s) (f:∀ b∈fp,ZaZ X pins H b) (fo:∀ b∈fp,∃ o,s.heap.get? b=some o) (hC:C=s.heap.objs.size) (hns:h4.Ns C m) (hk:∀ b o,s.heap.get? b=some o->h4.get? b=some o) :
   Inv (Zl X NC scope C s H fp) [] (capt js Z) H {s with heap:=h4,toks:=tk}:=by
 have hcells:∀ y∈scope.names,y.2=.free->∃ c,X.env.cells.lookup y.1=some c:=fun y hy hf=>I.ok.has y.1 (.inl (show X.env.scope.names.lookup y.1=some .cell by rw [hsc];exact S_.free y hy hf));have cl1:∀ x c,(Zcr X.env scope.names []).lookup x=some c->X.env.cells.lookup x=some c:=fun x c e=>Zgk scope.names [] hcells (fun _ _ z=>by cases z) x c (PySem.mem_of_lookup e);have cl2:∀ y∈scope.names,y.2=.free->∃ c,(Zcr X.env scope.names []).lookup y.1=some c:=fun y hy hf=>by
   obtain ⟨c,hm⟩:=Zgl (env:=X.env) scope.names [] y hy hf;obtain ⟨c',e,_⟩:=Zbd hm;exact ⟨c',e⟩
 have kinds:∀ x,(Zl X NC scope C s H fp).env.kindOf x=(scope.names.lookup x).map fun k=>if (k==NameKind.free&&X.env.scope.kind==.function&&X.env.kindOf x==some .cell) then NameKind.cell else k:=fun x=>ZaM scope.names x;have fcell:∀ x,scope.names.lookup x=some .free->(Zl X NC scope C s H fp).env.kindOf x=some .cell:=fun x e=>by
   rw [kinds,e];have h1:X.env.kindOf x=some .cell:=show X.env.scope.names.lookup x=some .cell by rw [hsc];exact S_.free (x,.free) (PySem.mem_of_lookup e) rfl
   have h2:X.env.scope.kind=.function:=I.ok.kind;simp only [Option.map_some,h1,h2];rfl
 have flt:∀ b∈fp,b<s.heap.objs.size:=fun b hb=>let ⟨o,e⟩:=fo b hb;Heap.lt_size e;refine ⟨⟨I.ok.mod,S_.kind,I.ok.glob,I.ok.blt,Nat.le_of_eq hC.symm,fun x y c h1 h2=>I.ok.inj x y c (cl1 x c h1) (cl1 y c h2),fun x hx=>?_,fun x c hf _=>absurd (show false=true from hf) Ow,fun _=>I.ok.hd hc,I.ok.frames,.inl rfl,fun b hb=>⟨?_,fun x c e=>(f b hb).2.2.2.2.1 x c (cl1 x c e)⟩,
     I.bs,OE I.ok.bsz I.sz,fun b o e hb=>?_,fun b hb hm=>?_,I.stack,I.stkFree⟩,
   rfl,I.bare,Un.kept hk,⟨m,hns,fun i x v h1 h2 h3=>?_⟩,fun x c e=>?_,?_,fun x c e=>I.freeC x c (cl1 x c e),fun p hp=>absurd (show p∈([]:List (Addr×Obj)) from hp) (by simp),I.hok.kept hk,?_⟩
 . rw [kinds] at hx;cases e:scope.names.lookup x with
   | none=>rw [e] at hx;rcases hx with hx|hx<;>cases hx
   | some k =>
     rw [e] at hx;have hm:=PySem.mem_of_lookup e;have hk:k=.free:=by
       by_cases hf:(k==NameKind.free)=true
       . cases k<;>first|rfl|(exact absurd hf (by decide))
       . have hf':(k==NameKind.free)=false:=Bool.eq_false_iff.mpr hf;simp only [Option.map_some,hf',Bool.false_and,OG,if_false] at hx;rcases hx with hx|hx
         . exact absurd (Option.some.inj hx) (S_.nocell _ hm)
         . exact Option.some.inj hx
     exact cl2 (x,k) hm hk
 . show b≠C;rw [hC];exact Ou (flt b hb)
 . obtain ⟨_,_,_,f3,_⟩:=f b hb;rcases f3 with z|z
   . exact I.ok.noex b o e z
   . exact absurd (Ot (Heap.lt_size e) (OE I.ok.bsz z)) (Nat.lt_irrefl _)
 . obtain ⟨_,f1,f2,_⟩:=f b hb;exact (O2.mp (I.stkSub b hm)).elim f1 f2
 . have hj:∃ j,js[i]? = some (some j)/\Z[j]? = some (some v):=by
     unfold capt at h2;rw [On] at h2;cases e:js[i]? with
     | none=>rw [e] at h2;cases h2
     | some o =>
       rw [e] at h2;have h2':(o.bind fun j=>(Z[j]?).join)=some v:=Option.some.inj h2;cases o with
       | none=>cases h2'
       | some j =>
         refine ⟨j,rfl,?_⟩;have h3':(Z[j]?).join=some v:=h2';cases q:Z[j]? with
         | none=>rw [q] at h3';cases h3'
         | some r=>rw [q] at h3';rw [show r=some v from h3']
   obtain ⟨j,hj,hσ⟩:=hj;obtain ⟨hN,hfr⟩:=S_.at (show NC[i]? = some x from h1) hj;have hcell:X.env.scope.names.lookup x=some .cell:=by rw [hsc];exact S_.free (x,.free) (PySem.mem_of_lookup hfr) rfl
   obtain ⟨m0,_,hl⟩:=I.loc;obtain ⟨u,r,l⟩:=hl j x v hN hσ (.inr (.inl hcell));refine ⟨u,r,?_⟩;rcases l with ⟨k,_⟩|⟨_,c,e,z⟩
   . rw [show X.env.kindOf x=some .cell from hcell] at k;cases k
   . obtain ⟨c',e'⟩:=cl2 (x,.free) (PySem.mem_of_lookup hfr) rfl;have ec:=cl1 x c' e';rw [e] at ec;cases ec;obtain ⟨o,ho,hd⟩:=z;exact .inr ⟨.inl (fcell x hfr),c,e',o,hk _ _ ho,hd⟩
 . obtain ⟨v,o,ho,hd⟩:=I.cell x c (cl1 x c e);exact ⟨v,o,hk _ _ ho,hd⟩
 . show H C=none;rw [hC];exact I.hok.fresh (Oq _)
 . unfold capt;rw [List.length_map];exact S_.len
end
section
variable {X:Cx}{elt tg iter:Expr}{ifs:List Expr}{scope sc:Scope}{pos:Pos}{NC:List Str}{js:List (Option Nat)}{k:Nat}{wi:TI}{g:TG}{tc:TT}{te:TE}
theorem Inv.comp_out{pins:List (Addr×Obj)}{Z σ':St}{H3 H':Hp}{s3 s1:Shared}{C:Addr}{fp:List Addr}{h'':Heap}(I3:Inv X pins Z H3 s3)(f:∀ b∈fp,ZaZ X pins H3 b)(hC:C=s3.heap.objs.size)
   (I':Inv (Zl X NC scope C s3 H3 fp) [] σ' H' s1) (hs:Heap.SameBut C s1.heap h''):Inv X pins Z H' {s1 with heap:=h''}:=by
 have ne:∀ b o,s3.heap.get? b=some o->b≠C:=fun b o e=>by rw [hC];exact Ou (Heap.lt_size e)
 have u:=I'.base;refine I3.call' (s':={s1 with heap:=h''}) (ch:=fp) I'.os ⟨fun b o e n hb hx=>(hs.2 b (ne b o e)).trans (u.keep b o e n hb hx),fun b o e n hb hx=>?_,u.free,fun b o e hx=>?_,u.tups,u.frzs,u.tbls⟩ ?_ I'.bare fun b hb=>?_
 . obtain ⟨sl,q⟩:=u.slot b o e n hb hx;exact ⟨sl,(hs.2 b (ne b o e)).trans q⟩
 . obtain ⟨o',q⟩:=u.there b o e hx;exact ⟨o',(hs.2 b (ne b o e)).trans q⟩
 . have hfree:H' C=none:=I'.free;intro b ob e;refine (I'.hok b ob e).stay (fun c w' hc q=>(hs.2 c ?_).trans q) (fun _ q=>q) fun _ _ q=>q;rintro rfl;rcases hc with rfl|hc
   . rw [hfree] at e;cases e
   . rw [hfree] at hc;cases hc
 . obtain ⟨_,f1,_,f3,f4,f5⟩:=f b hb;exact ⟨f3,f1,f4,f5⟩
theorem ZiH{pins:List (Addr×Obj)}{Z:St}{H3:Hp}{s3 s4:Shared}{C Dd it:Addr}{fp:List Addr}{tn:Nat->Heap->Prop}{J:It}{W:Nat->Nat->List V->Hp->Prop}{Q:VK}{m0:Nat}{post:Result->Shared->Prop}
   (hb:∀ (C:Addr) (s3:Shared) (H3:Hp) (fp:List Addr),PG (Zl X NC scope C s3 H3 fp) tg g/\PIf (Zl X NC scope C s3 H3 fp) ifs tc/\PE (Zl X NC scope C s3 H3 fp) elt te)
   (hk:Zg4 k g) (hjk:∀ j,j<k->js[j]? = some none) (hC:C=s3.heap.objs.size) (f3:∀ b∈fp,ZaZ X pins H3 b) (fpl:∀ b∈fp,∃ o,s3.heap.get? b=some o) (I4:Inv (Zl X NC scope C s3 H3 fp) [] (capt js Z) H3 s4) (T:Turn X.prog X.w X.K tg J fp it tn) (st4:tn 0 s4.heap) (hD0:H3 Dd=some (.lst [])) (w0:W 0 m0 [] H3)
   (turn:∀ i m ys H,W i m ys H->H Dd=some (.lst ys)->(J.stop i H/\Q (.ref Dd) H)\/(J.go i H/\ys.length<sizeLine/\∀ x H',J.yld i H x H'->g x (capt js Z) H' fun σ2 H2=>tc σ2 H2 fun b H3 =>
     if b=true then te σ2 H3 fun y H4=>H4 Dd=some (.lst ys)/\∃ m',m'<m/\W (i+1) m' (ys++[y]) (upd H4 Dd (.lst (ys++[y]))) else H3 Dd=some (.lst ys)/\∃ m',m'<m/\W (i+1) m' ys H3))
   (stp:∀ s6 H5,Inv (Zl X NC scope C s3 H3 fp) [] (capt js Z) H5 s6->Q (.ref Dd) H5->post (.ok .next) s6) :
   codeAny (model X.prog X.w) X.A (.compLoop (.ListComp elt [⟨tg,iter,ifs,0⟩] scope pos) 0 (.ref it) (.ref Dd) (compEnvC scope (Zcr X.env scope.names []) C X.env)) post s4:=by
 have stat:∀ {H':Hp},(∀ b∈fp,H' b=none)->∀ b∈fp,ZaZ (Zl X NC scope C s3 H3 fp) [] H' b:=fun hn b hb =>
   ⟨hn b hb,(by rw [hC];exact Ou (let ⟨o,e⟩:=fpl b hb;Heap.lt_size e)),fun hm=>I4.ok.exfs b hb hm,.inl hb,fun x c e=>(I4.ok.exf b hb).2 x c e,fun p hp=>absurd (show p∈([]:List (Addr×Obj)) from hp) (by simp)⟩
 refine Zgh (fun n s'=>∃ i ys H',Inv (Zl X NC scope C s3 H3 fp) [] (capt js Z) H' s'/\tn i s'.heap/\(∀ b∈fp,H' b=none)/\H' Dd=some (.lst ys)/\W i n ys H') ?_ m0
   ⟨0,[],_,I4,st4,fun b hb=>(f3 b hb).1,hD0,w0⟩
 rintro n s5 ⟨i,ys,H5,I5,st5,fr5,hD5,w5⟩;rcases turn i n ys H5 w5 hD5 with ⟨stop,qn⟩|⟨go,hlen,step⟩
 . refine wpAny_mono (T.done (Zl X NC scope C s3 H3 fp) rfl rfl rfl rfl i [] s5 (capt js Z) H5 (fun _ _=>False) I5 (stat fr5) st5 stop) (fun r s6 ⟨hr,I6⟩=>?_) fun _ _ z=>z.elim;subst hr;exact stp s6 H5 I6 qn
 . refine wpAny_mono (T.item (Zl X NC scope C s3 H3 fp) rfl rfl rfl rfl i [] s5 (capt js Z) H5 (fun _ _=>False) I5 (stat fr5) st5 go) (fun r s6 ⟨u,hr,h6⟩=>?_) fun _ _ z=>z.elim;subst hr;refine wpAny_mono h6 (fun _ s7 ⟨x,H7,I7,r7,y7,st7,fr7⟩=>?_) fun _ _ z=>z.elim;have I7':=I7.pinned (stat fr7) (T.obj _ _ st7);obtain ⟨pg,pif,pe⟩:=hb C s3 H3 fp;refine wpAny_mono (pg _ s7 (capt js Z) H7 x u _ I7' r7 (hk _ _ _ _ (step x H7 y7))) (fun _ s8 ⟨σ8,H8,I8,q8,l8,k8⟩=>?_) fun _ _ z=>z.elim;have back:∀ {H9:Hp}{s9:Shared},Inv (Zl X NC scope C s3 H3 fp) ([]++Zds fp s7.heap) σ8 H9 s9 ->
       Inv (Zl X NC scope C s3 H3 fp) [] (capt js Z) H9 s9/\tn (i+1) s9.heap/\∀ b∈fp,H9 b=none:=fun {H9 s9} I9=>by
     refine ⟨(I9.unpinned).weak l8.symm fun j v e=>?_,T.keep _ _ _ st7 fun b hb o e=>(I9.pin (b,o) (Ov _ (Ov _ (Zav hb e)))).1,fun b hb=>?_⟩
     . by_cases hj:j<k
       . unfold capt at e;rw [On,hjk j hj] at e;cases e
       . rw [k8 j (Nat.le_of_not_lt hj)];exact e
     . obtain ⟨o,e,d⟩:=T.obj _ _ st7 b hb;exact (I9.pin (b,o) (Ov _ (Ov _ (Zav hb e)))).2.1
   refine wpAny_mono (pif _ s8 σ8 H8 _ I8 q8) (fun ok s9 ⟨H9,I9,q9⟩=>?_) fun _ _ z=>z.elim;cases ok with
   | false =>
     rw [if_neg Ow] at q9 ⊢;obtain ⟨hD9,m',hm,w9⟩:=q9;obtain ⟨b1,b2,b3⟩:=back I9;exact ⟨m',hm,i+1,ys,H9,b1,b2,b3,hD9,w9⟩
   | true =>
     rw [if_pos rfl] at q9 ⊢;refine wpAny_mono (pe _ s9 σ8 H9 _ I9 q9) (fun y s10 ⟨v,H10,I10,r10,hD10,m',hm,w10⟩=>?_) fun _ _ z=>z.elim;refine wpAny_mono (ZeA (X:=Zl X NC scope C s3 H3 fp) _ s10 σ8 H10 (.ref Dd) [v] (.ref Dd) [y]
       (fun _ H11=>H11=upd H10 Dd (.lst (ys++[v]))) I10 rfl (.cons r10 .nil) ⟨_,ys,v,rfl,rfl,hD10,hlen,rfl⟩) (fun _ s11 ⟨_,H11,I11,_,e11⟩=>?_) fun _ _ z=>z.elim
     subst e11;obtain ⟨b1,b2,b3⟩:=back I11;exact ⟨m',hm,i+1,ys++[v],_,b1,b2,b3,Zf,w10⟩
theorem Zgg{U:Option (Value->Sem Unit)}{Q0:Value->Shared->Prop}{Q:VK}{pins:List (Addr×Obj)}{Z:St}{H:Hp}{s:Shared}(S_:CompSc NC X.N js sc scope)(hsc:X.env.scope=sc)(hc:X.calm=true)(hi:PI X tg iter wi)
   (hb:∀ (C:Addr) (s3:Shared) (H3:Hp) (fp:List Addr),PG (Zl X NC scope C s3 H3 fp) tg g/\PIf (Zl X NC scope C s3 H3 fp) ifs tc/\PE (Zl X NC scope C s3 H3 fp) elt te)
   (hk:Zg4 k g) (hjk:∀ j,j<k->js[j]? = some none) (hs:∀ x,foldedSetIterable iter X.env x=pure x) (I:Inv X pins Z H s) (h:Zi0 wi js g tc te Z H Q)
   (stp:∀ C Dd (s3 s6:Shared) H3 H5 fp,C=s3.heap.objs.size->Inv X pins Z H3 s3->(∀ b∈fp,ZaZ X pins H3 b)->Inv (Zl X NC scope C s3 H3 fp) [] (capt js Z) H5 s6->Q (.ref Dd) H5->compPost (model X.prog X.w) X.A X.xe U Q0 (.ref Dd) C (.ok .next) s6) :
   wpAny (model X.prog X.w) X.A (comprehension (.ListComp elt [⟨tg,iter,ifs,0⟩] scope pos) scope X.env posn (newList []) false (eval iter X.env) U) Q0 X.xe s:=by
 have hcells:∀ y∈scope.names,y.2=.free->∃ c,X.env.cells.lookup y.1=some c:=fun y hy hf=>I.ok.has y.1 (.inl (show X.env.scope.names.lookup y.1=some .cell by rw [hsc];exact S_.free y hy hf));refine wpAny_comprehension_free rfl hs (Zec hcells) S_.kind S_.locs (thn (hi pins s Z H _ I h) fun xv s1 h1=>thn h1 fun itv s2 h2=>?_);obtain ⟨it,fp,tn,J,H2,e,I2,T,st2,f2,rest⟩:=h2;subst e;have hD:H2 s2.heap.objs.size=none:=I2.hok.fresh (Oq _);obtain ⟨W,⟨m0,w0⟩,turn⟩:=rest s2.heap.objs.size hD;refine wpAny_newObj_type (wpAny_newFunctionEnv S_.nocell (by intro y hy;simp at hy) (fun h4 hns hsb=>?_) S_.kind);have I3:Inv X pins Z (upd H2 s2.heap.objs.size (.lst [])) {s2 with heap:=s2.heap.push {cls:=.type "list",dict:=none,data:=.seq ([]:List Value).toArray}}:=I2.lnew (t':=s2.toks) (ys:=[]) (its:=[]) .nil (Nat.zero_le _);dsimp only at hns hsb ⊢;generalize hs3:({s2 with heap:=s2.heap.push {cls:=.type "list",dict:=none,data:=.seq ([]:List Value).toArray}}:Shared)=s3 at I3;have eh:s2.heap.push {cls:=.type "list",dict:=none,data:=.seq ([]:List Value).toArray}=s3.heap:=by rw [<- hs3]
 have eD:s2.heap.objs.size<s3.heap.objs.size:=by rw [<- eh,Heap.size_push];exact OH _
 rw [eh] at hns hsb;have keep:∀ b o,s3.heap.get? b=some o->h4.get? b=some o:=fun b o e=>(hsb.2 b (Ou (Heap.lt_size e))).trans (Od _ e);have fpl:∀ b∈fp,∃ o,s3.heap.get? b=some o:=fun b hb=>by
   obtain ⟨o,e,_⟩:=T.obj 0 _ st2 b hb;exact ⟨o,by rw [<- eh];exact Od _ e⟩
 have neD:∀ b∈fp,b≠s2.heap.objs.size:=fun b hb=>by
   obtain ⟨o,e,_⟩:=T.obj 0 _ st2 b hb;exact Ou (Heap.lt_size e)
 have f3:∀ b∈fp,ZaZ X pins (upd H2 s2.heap.objs.size (.lst [])) b:=fun b hb=>⟨by rw [Ze (neD b hb)];exact (f2 b hb).1,(f2 b hb).2⟩
 have I4:=ZjP (tk:=s2.toks+([]:List (Str×Value)).length) S_ hsc hc I3 f3 fpl rfl hns keep;have st4:tn 0 h4:=T.keep 0 _ _ st2 fun b hb o e=>keep b o (by rw [<- eh];exact Od _ e);have eC:(s2.heap.push {cls:=.type "list",dict:=none,data:=.seq ([]:List Value).toArray}).objs.size=s3.heap.objs.size:=by rw [eh]
 have loop:∀ s4:Shared,s4={s3 with heap:=h4,toks:=s2.toks+([]:List (Str×Value)).length} ->
     codeAny (model X.prog X.w) X.A (.compLoop (.ListComp elt [⟨tg,iter,ifs,0⟩] scope pos) 0 (.ref it) (.ref s2.heap.objs.size) (compEnvC scope (Zcr X.env scope.names []) s3.heap.objs.size X.env))
       (compPost (model X.prog X.w) X.A X.xe U Q0 (.ref s2.heap.objs.size) s3.heap.objs.size) s4:=by
   rintro s4 rfl;exact ZiH hb hk hjk rfl f3 fpl I4 T st4 Zf w0 turn fun s6 H5 I6 qn=>stp _ _ s3 s6 _ H5 fp rfl I3 f3 I6 qn
 have e4:({s2 with heap:=h4,toks:=s2.toks+([]:List (Str×Value)).length}:Shared)={s3 with heap:=h4,toks:=s2.toks+([]:List (Str×Value)).length}:=by rw [<- hs3]
 rw [eC];exact codeAny_compStart_list (loop _ e4) (T.self X.A 0 _ _ _ st4 (loop _ e4))
theorem Zk1(S_:CompSc NC X.N js sc scope)(hsc:X.env.scope=sc)(hc:X.calm=true)(hi:PI X tg iter wi)
   (hb:∀ (C:Addr) (s3:Shared) (H3:Hp) (fp:List Addr),PG (Zl X NC scope C s3 H3 fp) tg g/\PIf (Zl X NC scope C s3 H3 fp) ifs tc/\PE (Zl X NC scope C s3 H3 fp) elt te)
   (hk:Zg4 k g) (hjk:∀ j,j<k->js[j]? = some none) (hs:∀ x,foldedSetIterable iter X.env x=pure x:=by intro _;rfl) :
   PE X (.ListComp elt [⟨tg,iter,ifs,0⟩] scope pos) (Zi0 wi js g tc te):=fun pins s Z H Q I h=>Zgg S_ hsc hc hi hb hk hjk hs I h fun C Dd s3 s6 H3 H5 fp hC I3 f3 I6 qn=>by
     obtain ⟨m,hm,_⟩:=I6.loc;exact ⟨m,hm,fun h' hs'=>⟨.ref Dd,H5,I3.comp_out f3 hC I6 hs',rfl,qn⟩⟩
end
end L2
end
section
namespace L2
open PySem PySem.Spec PyProof.Rows
section
variable {X:Cx}
noncomputable def TyN(K:PySem.W.Frag)(x:V)(H:Hp)(t:String):Prop:=match x with
 | .int _=>t = "int"
 | .str _=>t = "str"
 | .bl _=>t = "bool"
 | .non=>t = "NoneType"
 | .ref p=>(t = "list" /\ ∃ xs,SqL K H p xs)\/(t = "tuple" /\ ∃ xs,SqT K H p xs)
 | _=>False
theorem Zkc:Zau X (.builtin "isinstance") (fun xs H Q=>∃ x t T b,xs=[x,.ty T]/\TyN X.K x H t/\PySem.W.kitOne X.K (.type t) (.type T)=some b/\Q (.bl b) H):=by
 intro pins s Z H xs us Q I r h;obtain ⟨x,t,T,b,rfl,ty,e,q⟩:=h;obtain ⟨u,w',rfl,rx,rT⟩:=vals2 r;obtain rfl:w'=Value.type T:=rT;have fin:∀ tk,EP X pins Z Q (.bool b) {s with toks:=tk}:=fun tk=>⟨.bl b,H,I.tok tk,rfl,q⟩
 cases x with
 | int i =>
   obtain ⟨tk,rfl⟩:=rx;obtain rfl:t = "int" := ty;exact PySem.W.kia_one PySem.W.kitx_int I.kIn trivial e (by intro z;cases z) fin
 | str i =>
   obtain ⟨tk,rfl⟩:=rx;obtain rfl:t = "str" := ty;exact PySem.W.kia_one PySem.W.kitx_str I.kIn trivial e (by intro z;cases z) fin
 | bl i =>
   obtain rfl:u=Value.bool i:=rx;obtain rfl:t = "bool" := ty;exact PySem.W.kia_one PySem.W.kitx_bool I.kIn trivial e (by intro z;cases z) fin
 | non =>
   obtain rfl:u=Value.none:=rx;obtain rfl:t = "NoneType" := ty;exact PySem.W.kia_one PySem.W.kitx_none I.kIn trivial e (by intro z;cases z) fin
 | ref p =>
   obtain rfl:u=Value.ref p:=rx;rcases ty with ⟨rfl,xs,hx⟩|⟨rfl,xs,hx⟩
   . obtain ⟨its,_,pl,_⟩:=I.list hx;exact PySem.W.kia_one PySem.W.kitx_list I.kIn pl.isList.typeIs e (by intro z;cases z) fin
   . obtain ⟨its,_,pl,_⟩:=I.tuple hx;exact PySem.W.kia_one PySem.W.kitx_tuple I.kIn pl.typeIs e (by intro z;cases z) fin
 | _=>exact (show False from ty).elim
theorem Ziv{K:PySem.W.Frag}(h:PySem.W.kitOne [] (.type t) (.type T)=some b):PySem.W.kitOne K (.type t) (.type T)=some b:=h
noncomputable def Zqv:V->Option Int->Option Int->Hp->VK->Prop:=fun x lo hi H Q=>∃ y,x=.str y/\y.length<=sizeLine/\Q (.str (StrLaws.sliceText y lo hi)) H
theorem ZmT:SlR X Zqv:=by
 intro pins s Z H x v vl vu lo hi sl Q I rx hs pl pu h;obtain ⟨y,rfl,hz,q⟩:=h;obtain ⟨t,rfl⟩:=rx;refine ⟨"str",_,F.slot_str_getitem.lookup,typeIs_str _ _ _,?_⟩;have go:∀ (l u:Option (Int×Tok)),vl=partValue l->vu=partValue u->lo=l.map (·.1)->hi=u.map (·.1)->wpAny (model X.prog X.w) X.A (getItem (.str y t) (.ref sl)) (EP X pins Z Q) X.xe s:=by
   rintro l u rfl rfl rfl rfl;refine wpAny_getItem_str_slice (l:=l) (u:=u) (st:=none) hs rfl ?_;refine post_val_or_str ⟨OE (Txt.slice_le y _ _) hz,fun t' k=>⟨.str _,H,I.tok k,⟨t',rfl⟩,q⟩⟩
 cases pl with
 | none =>
   cases pu with
   | none=>exact go none none rfl rfl rfl rfl
   | int j tj=>exact go none (some (j,tj)) rfl rfl rfl rfl
 | int i ti =>
   cases pu with
   | none=>exact go (some (i,ti)) none rfl rfl rfl rfl
   | int j tj=>exact go (some (i,ti)) (some (j,tj)) rfl rfl rfl rfl
end
end L2
end
section
namespace L2
open PySem PySem.Spec PyProof.Rows
theorem ZJ.there(x:ZJ P w H h a o):∃ ob,h.get? a=some ob:=by
 cases o with
 | lst xs=>obtain ⟨_,_,_,_,e⟩:=x;exact ⟨_,e⟩
 | tup xs=>obtain ⟨_,_,_,ob,e,_⟩:=x;exact ⟨_,e⟩
 | dK kvs=>obtain ⟨_,_,_,_,o,_,_,e,_⟩:=x;exact ⟨_,e⟩
 | dT kvs=>obtain ⟨_,_,_,_,o,_,_,e,_⟩:=x;exact ⟨_,e⟩
 | set S_ n=>obtain ⟨o,_,_,_,e,_⟩:=x;exact ⟨_,e⟩
 | ins C dx fs=>obtain ⟨_,_,_,e,_⟩:=x;exact ⟨_,e⟩
 | own y=>obtain ⟨_,e⟩:=x;exact ⟨_,e⟩
 | xd fs=>obtain ⟨_,⟨_,_,_,e,_⟩,_⟩:=x;exact ⟨_,e⟩
 | rng lo hi=>obtain ⟨_,_,_,e⟩:=x;exact ⟨_,e⟩
 | frz ob u=>obtain ⟨e,_⟩:=x;exact ⟨_,e⟩
 | tbl ps=>exact ⟨_,(show h.get? a=some _ from x)⟩
 | met f y=>exact ⟨_,(show h.get? a=some _ from x)⟩
 | ext φ=>obtain ⟨_,⟨_,e⟩,_⟩:=x;exact ⟨_,e⟩
noncomputable def Kept(fs:List Addr)(H':Hp)(h h1 B_:Heap):Prop:=∀ b o,h1.get? b=some o->(H' b≠none\/((∃ o',h.get? b=some o')/\b ∉ fs))->B_.get? b=some o
noncomputable def CXF(P:Program)(w:World):CXT:=fun outer H s E e s' =>
 ∃ (a:Addr) (cls a0:Value) (H':Hp) (B_:Heap),e=.ref a/\s'.os=s.os/\AllBare s'.gens/\Un (frs outer) [] H H' s.heap s'.heap/\HOk P w H' s'.heap /\
   Heap.FlyingW B_ outer a cls a0 s'.heap/\Kept (frs outer) H' s.heap s'.heap B_/\H' a=none/\E cls none H'
theorem ZdB(un:Un fs [] H H' h h1)(hok:HOk P w H' h1)(kb:Kept fs H' h h1 B_)(stay:B_.StaysIn h2)(up:h1.UpToSlots h2)
   (hf:∀ b∈fs,∃ o,h1.get? b=some o/\∀ vs,o.data≠.fields vs):Un fs [] H H' h h2/\HOk P w H' h2/\Kept fs H' h h2 B_:=by
 have tr:∀ b u,H' b=some u->∃ o,h1.get? b=some o/\h2.get? b=some o/\B_.get? b=some o:=fun b u e=>by
   obtain ⟨o,q⟩:=(hok b u e).there;have z:=kb b o q (.inl (by rw [e];simp));exact ⟨o,q,stay _ _ z,z⟩
 have old:∀ b o,h.get? b=some o->b ∉ fs->∃ o1,h1.get? b=some o1/\h2.get? b=some o1/\B_.get? b=some o1:=fun b o e hb=>by
   obtain ⟨o1,q⟩:=un.there b o e (by simp);have z:=kb b o1 q (.inr ⟨⟨o,e⟩,hb⟩);exact ⟨o1,q,stay _ _ z,z⟩
 refine ⟨⟨fun b o e n hb _=>?_,fun b o e n hb _=>?_,fun b o e n _=>un.free b o e n (by simp),fun b o e _=>?_,un.tups,un.frzs,un.tbls⟩,fun b u e=>?_,fun b o e hb=>?_⟩
 . obtain ⟨o1,q1,q2,_⟩:=old b o e hb;have z:=un.keep b o e n hb (by simp);rw [q1] at z;cases z;exact q2
 . obtain ⟨sl,z⟩:=un.slot b o e n hb (by simp);obtain ⟨o',z',nf⟩:=hf b hb;rw [z] at z';cases z';obtain ⟨sl',q⟩:=up b _ z nf;exact ⟨sl',q⟩
 . by_cases hb:b∈fs
   . obtain ⟨o',z',nf⟩:=hf b hb;obtain ⟨sl',q⟩:=up b _ z' nf;exact ⟨_,q⟩
   . obtain ⟨o1,_,q2,_⟩:=old b o e hb;exact ⟨_,q2⟩
 . refine (hok b u e).stay (fun c v hc q=>?_) (fun _ q=>q) fun _ _ q=>q;have hc':∃ u',H' c=some u':=by
     rcases hc with rfl|hc
     . exact ⟨u,e⟩
     . exact ⟨_,hc⟩
   obtain ⟨u',e'⟩:=hc';obtain ⟨o,q1,q2,_⟩:=tr c u' e';rw [q] at q1;cases q1;exact q2
 . rcases hb with hb|⟨⟨o',e'⟩,hb⟩
   . cases q:H' b with
     | none=>exact absurd q hb
     | some u =>
       obtain ⟨o1,q1,q2,q3⟩:=tr b u q;rw [e] at q2;cases q2;exact q3
   . obtain ⟨o1,q1,q2,q3⟩:=old b o' e' hb;rw [e] at q2;cases q2;exact q3
noncomputable def Zh5(X:Cx)(E:XK):Prop:=∀ (pins:List (Addr×Obj)) (Z:St) (H:Hp) (s:Shared) (h':Heap) (e:Addr) (cls:Value) (vs:List Value),Inv X pins Z H s->Heap.MadeExcOf s.heap h' e cls vs->E cls none H->X.xe (.ref e) {s with heap:=h'}
section
variable {P:Program}{w:World}{K:PySem.W.Frag}{mg:Str->Option Value}{base:Heap}{N:List Str}{qual:Str}{scope:Scope}{f:Addr}{cd:Value}{A:Around}{outer:List Env}{s0:Shared}{H0:Hp}{E:XK}
theorem Zjb:Zh5 (Zg1 (CXF P w) P w K mg base N qual scope f cd A outer s0 H0 E) E:=by
 intro pins Z H s h' e cls vs I hx hE;have hfr:(A.deeper (envOfC qual scope s0.heap.objs.size f cd)).frames=some (envOfC qual scope s0.heap.objs.size f cd::outer):=I.ok.frames;have hin:∀ env∈(envOfC qual scope s0.heap.objs.size f cd::outer),∀ b,env.frame=some b->b∈(envOfC qual scope s0.heap.objs.size f cd::outer).filterMap (·.frame):=fun env he b hb=>List.mem_filterMap.mpr ⟨env,he,hb⟩;have hst:s.heap.FunFrames base (envOfC qual scope s0.heap.objs.size f cd::outer):=I.stack;show wpAny (model P w) (A.deeper (envOfC qual scope s0.heap.objs.size f cd)) (leaving (envOfC qual scope s0.heap.objs.size f cd) (.ref e)) _ _ {s with heap:=h'};refine wpAny_leaves_madeW (s:={s with heap:=h'}) (base:=PySem.W.hideAll s.heap (frs (envOfC qual scope s0.heap.objs.size f cd::outer))) hfr rfl (fun b o q=>PySem.W.of_hideAll _ q) (PySem.W.funFrames_hide hst hin) hx fun h'' t x1 x2 x3 x4=>?_;have un:Un (frs outer) [] H0 H s0.heap h':=(I.base:Un (frs outer) [] H0 H s0.heap s.heap).trans (Un.kept hx.keeps);have hok:HOk P w H h':=I.hok.kept hx.keeps;have kb:Kept (frs outer) H s0.heap h' (PySem.W.hideAll s.heap (frs (envOfC qual scope s0.heap.objs.size f cd::outer))):=fun b o e1 hb=>by
   rcases hb with hb|⟨⟨o',e'⟩,hb⟩
   . cases q:H b with
     | none=>exact absurd q hb
     | some u =>
       obtain ⟨o1,q1⟩:=(I.hok b u q).there;have q2:=hx.keeps b o1 q1;rw [e1] at q2;cases q2;exact PySem.W.hideAll_get _ q1 fun hm=>by
         have z:H b=none:=I.stkFree b hm;rw [q] at z;cases z
   . obtain ⟨o1,q1⟩:=(I.base:Un (frs outer) [] H0 H s0.heap s.heap).there b o' e' (show b ∉ ([]:List Addr) from List.not_mem_nil);have q2:=hx.keeps b o1 q1;rw [e1] at q2;cases q2;refine PySem.W.hideAll_get _ q1 fun hm=>?_;have hm':b∈s0.heap.objs.size::frs outer:=I.stkSub b hm;rcases O2.mp hm' with z|z
     . rw [z] at e';exact absurd (Heap.lt_size e') (Nat.lt_irrefl _)
     . exact hb z
 have hfo:∀ b∈frs outer,∃ o,h'.get? b=some o/\∀ vs,o.data≠.fields vs:=fun b hb=>by
   obtain ⟨_,o,q,nf⟩:=I.funs.mem hb;exact ⟨o,hx.keeps _ _ q,nf⟩
 obtain ⟨r1,r2,r3⟩:=ZdB un hok kb x1.1 x4 hfo;refine ⟨e,cls,_,H,_,rfl,I.os,I.bare,r1,r2,x1,r3,?_,hE⟩;cases q:H e with
 | none=>rfl
 | some u =>
   obtain ⟨o1,q1⟩:=(I.hok e u q).there;rw [hx.new] at q1;cases q1
theorem Zk5(h:∀ cls H',E1 cls none H'->E cls none H'):ZaY (CXF P w) (Zg1 (CXF P w) P w K mg base N qual scope f cd A outer s0 H0 E) E1:=by
 intro pins Z H s e s' I hx;obtain ⟨a,cls,a0,H',B_,rfl,os,bare,un,hok,fl,kb,ha,hE⟩:=hx;have I':=I.call' (ch:=[]) os un hok bare (fun b z=>absurd z (by simp));have hfr:(A.deeper (envOfC qual scope s0.heap.objs.size f cd)).frames=some (envOfC qual scope s0.heap.objs.size f cd::outer):=I.ok.frames;show wpAny (model P w) (A.deeper (envOfC qual scope s0.heap.objs.size f cd)) (leaving (envOfC qual scope s0.heap.objs.size f cd) (.ref a)) _ _ s';refine wpAny_leaves_onW hfr rfl fl fun h'' x1 x4=>?_;have kb':Kept (frs outer) H' s0.heap s'.heap B_:=fun b o e1 hb=>by
   refine kb b o e1 ?_;rcases hb with hb|⟨⟨o',e'⟩,hb⟩
   . exact .inl hb
   . obtain ⟨o1,q1⟩:=(I.base:Un (frs outer) [] H0 H s0.heap s.heap).there b o' e' (show b ∉ ([]:List Addr) from List.not_mem_nil);refine .inr ⟨⟨o1,q1⟩,fun hm=>?_⟩;have hm':b∈s0.heap.objs.size::frs outer:=I.stkSub b hm;rcases O2.mp hm' with z|z
     . rw [z] at e';exact absurd (Heap.lt_size e') (Nat.lt_irrefl _)
     . exact hb z
 have hfo:∀ b∈frs outer,∃ o,s'.heap.get? b=some o/\∀ vs,o.data≠.fields vs:=fun b hb=>by
   obtain ⟨_,o,q,nf⟩:=I'.funs.mem hb;exact ⟨o,q,nf⟩
 obtain ⟨r1,r2,r3⟩:=ZdB (I'.base:Un (frs outer) [] H0 H' s0.heap s'.heap) hok kb' x1.1 x4 hfo;exact ⟨a,cls,a0,H',B_,rfl,I'.os,bare,r1,r2,x1,r3,ha,h _ _ hE⟩
end
theorem Zii:ZaY (CXF P w) X E0:=fun _ _ _ _ _ _ _ h=>by
 obtain ⟨_,_,_,_,_,_,_,_,_,_,_,_,_,z⟩:=h;exact z.elim
end L2
end
section
namespace L2
open PySem PySem.Spec PyProof.Rows
structure ExcN(K:PySem.W.Frag)(C2:Addr):Prop where
 ty:PySem.W.typeIn K (.ref C2)=some (.type "type")
 cls:(PySem.W.clsIn K C2).isSome=true
 exc:PySem.W.subIn K (.ref C2) (.type "BaseException")=some true
end L2
end
section
namespace L2
open PySem PySem.Spec PyProof.Rows
noncomputable def Def(P:Program)(w:World)(K:PySem.W.Frag)(mg:Str->Option Value)(base:Heap)(k:Nat)(x:Str)(ps:List Str)(sp:Sp):Prop :=
 ∃ f fd,mg x=some (.ref f)/\PySem.W.keepIn K (.ref f)=true/\Binds K fd ps []/\FnOk P w K mg base (CXF P w) k f fd ps sp
section
variable {X:Cx}{k:Nat}{x:Str}{ps:List Str}{sp:Sp}{E:XK}{e:Expr}{es:List Expr}{t:TA}{p pos:Pos}
noncomputable def Zqj(sp:Sp)(E:XK)(t:TA):TE:=fun Z H Q=>t Z H fun vs H1=>sp vs H1 Q E
theorem Zng(D:Def X.prog X.w X.K X.mg X.base k x ps sp)(hr:Room k X.A)(hg:Gl X x)(hx:ZaY (CXF X.prog X.w) X E)(ha:PA X (e::es) t)
   (hdb:(x==("__debug__" : Str))=false:=by decide) (he:starEach (e::es) X.env=(false,eval e X.env)::starEach es X.env:=by rfl) (hpl:(backTo pos (starEach es X.env)).any (·.1)=false:=by rfl) :
   PE X (.Call (.Name x p) (e::es) [] pos) (Zqj sp E t):=by
 obtain ⟨f,fd,h1,h2,h3,h4⟩:=D;intro pins s Z H Q I h;refine Zk3 h4 hr hg h1 h2 h3 .nil hx ha hdb he hpl pins s Z H Q I ?_;have z:t Z H fun vs H1=>sp vs H1 Q E:=h;show t Z H fun vs H1=>sp (vs++[]) H1 Q E;simpa only [List.append_nil] using z
end
end L2
end
section
namespace L2
open PySem PySem.Spec PyProof.Rows
section
variable {X:Cx}{pins:List (Addr×Obj)}{Z:St}{H:Hp}{s:Shared}{h':Heap}
theorem ZhI{ch:List Addr}(hf:∀ b∈ch,ZaZ X pins H b):∀ b∈ch,(b∈X.ex\/X.s₀.heap.objs.size<=b)/\b≠X.env.locals/\(∀ x c,X.env.cells.lookup x=some c->c≠b)/\∀ p∈X.pn++pins,p.1≠b:=fun b hb=>by
 obtain ⟨_,f1,_,f3,f4,f5⟩:=hf b hb;exact ⟨f3,f1,f4,f5⟩
theorem Inv.turnL{t':Nat}{ch:List Addr}(I:Inv X pins Z H s)(hf:∀ b∈ch,ZaZ X pins H b)(k:∀ b o,b ∉ ch->s.heap.get? b=some o->h'.get? b=some o):Inv X pins Z H {s with heap:=h',toks:=t'}:=by
 have nit:∀ b u,H b=some u->b ∉ ch:=fun b u e z=>by rw [(hf b z).1] at e;cases e
 refine I.step (g':=s.gens) (d':=s.drawn) (ch:=ch) (ZhI hf) (fun b o _ _ hc e _=>k b o hc e) (fun b o _ _ hc e _=>⟨o.slots,k b o hc e⟩) (fun _ _ _ _ n=>n)
   (fun b o hc e=>⟨o,k b o hc e⟩) (fun _ _ e=>e) (fun _ _ _ e=>e) (fun b ps e=>⟨#[],by rw [e];simp⟩) (fun m hm=>?_) (fun b u e=>?_) I.bare
 . obtain ⟨o,es,ep,ho,r⟩:=hm;exact ⟨o,es,ep,k _ o (fun z=>(hf _ z).2.1 rfl) ho,r⟩
 . refine (I.hok b u e).stay (fun c v hc q=>k c v ?_ q) (fun _ q=>q) fun _ _ q=>q;rcases hc with z|z
   . rw [z];exact nit b u e
   . exact nit c _ z
theorem Inv.turnT{t':Nat}{ch:List Addr}{us:List Value}(I:Inv X pins Z H s)(hf:∀ b∈ch,ZaZ X pins H b)(k:∀ b o,b ∉ ch->s.heap.get? b=some o->h'.get? b=some o)
   (hT:s.heap.objs.size<=T) (tup:Z9 h' T us.toArray) (rv:Zd vs us) (hz:vs.length<=sizeLine):Inv X pins Z (upd H T (.tup vs)) {s with heap:=h',toks:=t'}:=by
 have nit:∀ b u,H b=some u->b ∉ ch:=fun b u e z=>by rw [(hf b z).1] at e;cases e
 have neT:∀ b o,s.heap.get? b=some o->b≠T:=fun b o e=>Ou (Ot (Heap.lt_size e) hT);have hTn:H T=none:=I.hok.fresh hT;refine I.step (g':=s.gens) (d':=s.drawn) (ch:=ch) (ZhI hf) (fun b o _ _ hc e _=>k b o hc e) (fun b o _ _ hc e _=>⟨o.slots,k b o hc e⟩) (fun b o _ e n=>by rw [Ze (neT b o e)];exact n)
   (fun b o hc e=>⟨o,k b o hc e⟩) (fun b xs e=>by rw [Ze (Zt e hTn)];exact e) (fun b o u e=>by rw [Ze (Zt e hTn)];exact e) (fun b ps e=>⟨#[],by rw [Ze (Zt e hTn),e];simp⟩) (fun m hm=>?_) (fun b u e=>?_) I.bare
 . obtain ⟨o,es,ep,ho,r⟩:=hm;exact ⟨o,es,ep,k _ o (fun z=>(hf _ z).2.1 rfl) ho,r⟩
 . by_cases hb:b=T
   . subst hb;rw [Zf] at e;cases e;exact ⟨hz,us,rv,tup⟩
   . rw [Ze hb] at e;refine (I.hok b u e).stay (fun c v hc q=>k c v ?_ q) (fun c q=>by rw [Ze (Zt q hTn)];exact q) fun c xs q=>by rw [Ze (Zt q hTn)];exact q
     rcases hc with z|z
     . rw [z];exact nit b u e
     . exact nit c _ z
end
noncomputable def Ite(K:PySem.W.Frag)(a:Addr):It :=
 ⟨fun i H=>∃ xs x,SqL K H a xs/\xs[i]? = some x,fun i H v H'=>∃ p,v=.ref p/\H p=none/\∃ x,(∀ xs,SqL K H a xs->xs[i]? = some x)/\H'=upd H p (.tup [.int i,x]),fun i H=>∃ xs,SqL K H a xs/\xs.length=i⟩
theorem Zh8{P:Program}{w:World}{K:PySem.W.Frag}{es:List Expr}{kk:Nat}{tp:Pos}(a it e:Addr)(hei:e≠it)(hae:a≠e)(hai:a≠it) :
   Turn P w K (.Tuple es kk tp) (Ite K a) [e,it] e (fun i h=>(∃ old,IsEnum h e it i old)/\h.IsListIter it a i) where
 mem:=by simp
 obj:=fun i h st b hb=>by
   obtain ⟨⟨old,he⟩,o,e1,c,d⟩:=st;rcases O2.mp hb with rfl|hb
   . exact ⟨_,he,fun v z=>by cases z⟩
   . have e2:b=it:=by simpa using hb
     subst e2;exact ⟨o,e1,fun v z=>by rw [d] at z;cases z⟩
 keep:=fun i h h' st k=>by
   obtain ⟨⟨old,he⟩,st⟩:=st;exact ⟨⟨old,k e (by simp) _ he⟩,st.at fun o z=>k it (by simp) o z⟩
 item:=by
   intro X hP hw hK hc i pins s Z H E I hf st hg;subst hP hw hK;obtain ⟨xs,x,hq,hx⟩:=hg;obtain ⟨its,rv,p,hz⟩:=I.list hq;have hl:=rv.length;have hi:i<xs.length:=(Ob.mp hx).1;have W:=WalksT.enumerate (prog:=X.prog) (w:=X.w) (I.ok.hd hc) e it a hei hae hai its.toArray;have itm:∀ (Q':Option Value->Shared->Prop) (E':Value->Shared->Prop),(∀ T vals h' tk,(∃ t x,its.toArray[i]? = some x/\vals=#[.int i t,x])->s.heap.objs.size<=T->Z9 h' T vals ->
       ((∃ x,IsEnumOut h' e it ((i:Int)+1) x T)/\h'.IsListIter it a (i+1)/\h'.IsList a its.toArray/\T≠e/\T≠it)->(∀ b o,b ∉ [e,it]->s.heap.get? b=some o->h'.get? b=some o)->Q' (some (.ref T)) {s with heap:=h',toks:=tk}) ->
       wpAny (model X.prog X.w) X.A (pyNext (.ref e)) Q' E' s:=by
     intro Q' E' hQ;obtain ⟨⟨old,he⟩,hit⟩:=st;have hx2:its.toArray[i]? = some (its.toArray[i]'(by simp;lia)):=Array.getElem?_eq_getElem (by simp;lia);refine wpAny_pyNext_enum_item he hit p.isList hx2 hei fun h' ho hit' hT hsz hk=>?_;have e1:e<s.heap.objs.size:=Heap.lt_size he;have e2:it<s.heap.objs.size:=by obtain ⟨_,z,_⟩:=hit;exact Heap.lt_size z
     exact hQ s.heap.objs.size _ h' (s.toks+1) ⟨_,_,hx2,rfl⟩ (Oq _) ⟨_,hT,rfl,rfl,_,rfl⟩ ⟨⟨_,ho⟩,hit',p.isList.at fun o z=>hk a o hae hai z,Nat.ne_of_gt e1,Nat.ne_of_gt e2⟩
       fun b o hb z=>hk b o (fun e'=>hb (by simp [e'])) (fun e'=>hb (by simp [e'])) z
   refine itm _ _ fun T vals h1 tk hP hT tup mid kk=>?_;refine ⟨_,rfl,W.go _ _ _ i T {s with heap:=h1,toks:=tk} _ _ mid fun h2 st2 kk2=>?_⟩;obtain ⟨t,y,hy,rfl⟩:=hP;have hy':its[i]? = some y:=by simpa using hy
   obtain ⟨u,hu,ru⟩:=rv.get hx;rw [hy'] at hu;cases hu;have hTw:T ∉ [e,it]:=W.apart i T h1 mid;have tup2:Z9 h2 T #[.int i t,y]:=by
     obtain ⟨o,q,r⟩:=tup;exact ⟨o,kk2 T o hTw q,r⟩
   have I2:Inv X pins Z (upd H T (.tup [.int i,x])) {s with heap:=h2,toks:=tk}:=I.turnT hf (fun b o hb q=>kk2 b o hb (kk b o hb q)) hT (us:=[.int i t,y]) tup2 (.cons ⟨t,rfl⟩ (.cons ru .nil)) (by show 2<=sizeLine;decide);refine ⟨.ref T,_,I2,rfl,⟨T,rfl,I.hok.fresh hT,x,fun ys hy=>by rw [I.list_inj hy hq];exact hx,rfl⟩,⟨st2.1,st2.2.1⟩,fun b hb=>?_⟩;have neb:b≠T:=fun z=>hTw (by rw [<- z];exact hb);rw [Ze neb];exact (hf b hb).1
 done:=by
   intro X hP hw hK hc i pins s Z H E I hf st hg;subst hP hw hK;obtain ⟨xs,hq,hx⟩:=hg;obtain ⟨its,rv,p,hz⟩:=I.list hq;have hl:=rv.length;have W:=WalksT.enumerate (prog:=X.prog) (w:=X.w) (I.ok.hd hc) e it a hei hae hai its.toArray;have e1:its.toArray.size=i:=by simp;lia
   refine W.done s _ _ ?_ fun h1 tk kk=>⟨rfl,I.turnL hf kk⟩
   rw [e1];exact ⟨st.1,st.2,p.isList⟩
 self:=fun A i s Q E st h=>by
   obtain ⟨⟨old,he⟩,_⟩:=st;exact wpAny_pyIter_enum he h
noncomputable def Zpx(K:PySem.W.Frag)(ta:TA):TI:=fun Z H R=>ta Z H fun vs H1=>∃ a,vs=[.ref a]/\(∃ xs,SqL K H1 a xs)/\R (Ite K a) H1
theorem ZkX {X:Cx}{es:List Expr}{kk:Nat}{tp:Pos}{l:Expr}{ta:TA}{p pos:Pos} (hg:Gl X "enumerate") (hm:X.mg "enumerate" = none) (ha:PA X [l] ta) (hs:starEach [l] X.env=[(false,eval l X.env)]:=by rfl) :
   PI X (.Tuple es kk tp) (.Call (.Name "enumerate" p) [l] [] pos) (Zpx X.K ta):=by
 intro pins s Z H R I h;refine Call_ (ZaO I hg hm boot_enumerate (PyProof.Rows.callWith_type1 (thn (ha pos pins s Z H _ I h) fun us s1 ⟨vs,H1,I1,r1,q1⟩=>?_) hs rfl));obtain ⟨a,rfl,⟨xs,hq⟩,q⟩:=q1;obtain ⟨u,rfl,ru⟩:=vals1 r1;obtain rfl:u=Value.ref a:=ru;obtain ⟨its,rv,pl,hz⟩:=I1.list hq;have hlt:a<s1.heap.objs.size:=by obtain ⟨_,_,e,_⟩:=pl;exact Heap.lt_size e
 refine call_enumerate_list pl.isList fun h' he hi hsz kk=>?_;refine wpAny_pyIter_enum he ?_;refine ⟨s1.heap.objs.size+1,[s1.heap.objs.size+1,s1.heap.objs.size],_,_,H1,rfl,I1.kept (t':=s1.toks) kk,Zh8 a s1.heap.objs.size (s1.heap.objs.size+1) (Nat.succ_ne_self _) (Ou (Nat.lt_succ_of_lt hlt)) (Ou hlt),⟨⟨_,he⟩,hi⟩,fun b hb=>?_,q⟩;rcases O2.mp hb with rfl|hb
 . exact I1.fpOk (Nat.le_succ _) (I1.hok.fresh (Nat.le_succ _))
 . have e:b=s1.heap.objs.size:=by simpa using hb
   subst e;exact I1.fpOk (Oq _) (I1.hok.fresh (Oq _))
end L2
end
section
namespace L2
open PySem PySem.Spec PyProof.Rows PySem.Builtin PySem.Builtin.ObjectAttr PySem.Builtin.Getset_descriptor
structure ExcA(K:PySem.W.Frag)(D:Addr):Prop where
 ga:PySem.W.findIn K (.ref D) "__getattribute__" = some (some (.builtin "BaseException.__getattribute__"))
 ga2:PySem.W.findIn K (.ref D) "__getattr__" = some none
 cl:PySem.W.findIn K (.ref D) "__class__" = some (some (.builtin "object.__class__"))
 get:PySem.W.specialIn K (.builtin "object.__class__") "__get__" = some (some (.builtin "getset_descriptor.__get__"))
 takes:PySem.W.takesIn K (.builtin "object.__class__")=some true
 obj:PySem.W.mroIn K D (.type "object")=some true
 base:PySem.W.subIn K (.ref D) (.type "BaseException")=some true
 isc:(PySem.W.clsIn K D).isSome=true
end L2
end
section
namespace L2
open PySem PySem.Spec PyProof.Rows
theorem ZlR(h:PSs X b t)(r:t D Z H):∃ t,PSs X b t/\t D Z H:=⟨t,h,r⟩
theorem ZfL:RelV (.int x) (.int x t):=⟨t,rfl⟩
theorem ZY:RelV (.ref a) (.ref a):=rfl
end L2
end
section
namespace L2
open PySem PySem.Spec PyProof.Rows
noncomputable def DkK(P:Program)(w:World)(K:PySem.W.Frag)(a:Addr)(kvs:List (Key×V)):Prop :=
 ∃ (o:Obj) (es:Array DictEntry) (ep:Nat) (vs:List (Key×Value)),K.lookup a=some o/\o.ExactDict/\o.data=.dict es ep/\KeysOf (Zw P w) es/\Pairs (Zw P w) es.toList vs/\(vs.map (·.1)).Nodup/\KV kvs vs/\kvs.length<=sizeLine/\(a==sysModules)=false
noncomputable def Dk(P:Program)(w:World)(K:PySem.W.Frag)(H:Hp)(a:Addr)(kvs:List (Key×V)):Prop:=Rd H a (.dK kvs)\/DkK P w K a kvs
section
variable {X:Cx}{pins:List (Addr×Obj)}{Z:St}{H:Hp}{s:Shared}{a:Addr}
theorem Inv.dk(I:Inv X pins Z H s)(h:Dk X.prog X.w X.K H a kvs):kvs.length<=sizeLine/\(a==sysModules)=false/\∃ vs,KV kvs vs/\s.heap.DictOf (Zw X.prog X.w) a vs:=by
 rcases h with h|⟨o,es,ep,vs,lk,ex,da,ks,ps,nd,kv,z,hm⟩
 . exact Zmp I.hok h
 . exact ⟨z,hm,vs,kv,o,es,ep,I.kIn a o lk,ex,da,ks,ps,nd⟩
noncomputable def ZoK(P:Program)(w:World)(K:PySem.W.Frag)(neg:Bool):R2:=fun x y H Q=>∃ a kvs k,y=.ref a/\x=kV k/\Dk P w K H a kvs/\Q (.bl (if neg then !(ZbR kvs k).isSome else (ZbR kvs k).isSome)) H
theorem Zno:OpR X (compareOp .In) (ZoK X.prog X.w X.K false):=by
 intro pins s Z H x y v u Q I rx ry h;obtain ⟨a,kvs,k,rfl,rfl,hd,q⟩:=h;cases ry;obtain ⟨z,hm,vs,rel,dd⟩:=I.dk hd;refine wpAny_in_of (Zf6 rx) hm dd.mapOf ?_;rw [<- (rel.val k).isSome_eq];exact ⟨.bl _,H,I.tok _,rfl,q⟩
theorem Zij:OpR X (compareOp .NotIn) (ZoK X.prog X.w X.K true):=by
 intro pins s Z H x y v u Q I rx ry h;obtain ⟨a,kvs,k,rfl,rfl,hd,q⟩:=h;cases ry;obtain ⟨z,hm,vs,rel,dd⟩:=I.dk hd;refine wpAny_notIn_of (Zf6 rx) hm dd.mapOf ?_;rw [<- (rel.val k).isSome_eq];exact ⟨.bl _,H,I.tok _,rfl,q⟩
noncomputable def ZqB(P:Program)(w:World)(K:PySem.W.Frag):R2:=fun x y H Q=>∃ a kvs k v,x=.ref a/\y=kV k/\Dk P w K H a kvs/\ZbR kvs k=some v/\Q v H
theorem Zlv:IxR X (ZqB X.prog X.w X.K):=by
 intro value slice pins s Z H x y v u Q I rx ry h hs;obtain ⟨a,kvs,k,z,rfl,rfl,hd,hv,q⟩:=h;cases rx;obtain ⟨_,hm,vs,rel,dd⟩:=I.dk hd;obtain ⟨w',hw,rw'⟩:=ZcE.some_of (v:=z) (o:=valueAt vs k) (by rw [<- hv];exact rel.val k);exact subscriptTail_builtinR (x:=w') dd.typeIs PySem.F.slot_dict_getitem.lookup (wpAny_getItem_of (Zf6 ry) dd.mapOf hw ⟨rfl,z,H,I.tok _,rw',q⟩) hs
theorem ZpH(I:Inv X pins Z H s)(e:H a=some (.dK kvs))(l:kvs.length<sizeLine)(ry:RelV (kV k) u)(rv:RelV v r)
   (h:∀ s',Inv X pins Z (upd H a (.dK (putK kvs k v))) s'->Q () s'):wpAny (model X.prog X.w) A (setItem (.ref a) u r) Q E s:=by
 obtain ⟨z,hd,vs,rel,dd⟩:=Zmq I.hok e;have hz:vs.length<=sizeLine:=by rw [<- rel.length];exact z
 have hl:(putK kvs k v).length<=sizeLine:=by have:=ZcH kvs k v;lia
 refine wpAny_setItem_pairs (hsz:=hz) (Zf6 ry) dd fun h' dd' hs=>h _ ?_;have he:∃ q,h'.get? a=some q:=let ⟨q,_,_,hq,_⟩:=dd';⟨q,hq⟩;exact ZhR I (by rw [e];exact True.intro) hs he (Zj7 hl hd (rel.put k rv) dd')
noncomputable def ZoG:Zl5:=fun o i v H Q=>∃ a kvs k,o=.ref a/\i=kV k/\H a=some (.dK kvs)/\kvs.length<sizeLine/\Q (upd H a (.dK (putK kvs k v)))
theorem set_dict:Zl6 X ZoG:=by
 intro pins s Z H o i v ov iv u Q I ro ri rv h;obtain ⟨a,kvs,k,rfl,rfl,e,l,q⟩:=h;cases ro;exact ZpH I e l ri rv fun s' I'=>⟨_,I',q⟩
end
end L2
end
section
set_option tactic.hygienic false
namespace L2
open PySem PySem.Spec PyProof.Rows
section
variable {X:Cx}{elt tg iter:Expr}{ifs:List Expr}{scope sc:Scope}{pos:Pos}{NC:List Str}{js:List (Option Nat)}{k:Nat}{wi:TI}{g:TG}{tc:TT}{te:TE}
theorem ZgF(hN:X.N.Nodup)(hy:X.N[i0]? = some y)(hx:Loc X.env.scope y)(hf:X.fn y=true\/X.env.scope.names.lookup y=some .local)(S_:CompSc NC X.N js sc scope)(hsc:X.env.scope=sc)(hc:X.calm=true)(hi:PI X tg iter wi)
   (hb:∀ (C:Addr) (s3:Shared) (H3:Hp) (fp:List Addr),PG (Zl X NC scope C s3 H3 fp) tg g/\PIf (Zl X NC scope C s3 H3 fp) ifs tc/\PE (Zl X NC scope C s3 H3 fp) elt te)
   (hk:Zg4 k g) (hjk:∀ j,j<k->js[j]? = some none) (hs:∀ x,foldedSetIterable iter X.env x=pure x:=by intro _;rfl) (hsw:swapsWith (.ListComp elt [⟨tg,iter,ifs,0⟩] scope pos) (some (.Name y py)) spos.line X.env=pure true:=by rfl) :
   PS X (.Assign [.Name y py] (.ListComp elt [⟨tg,iter,ifs,0⟩] scope pos) spos) (Zgy (Zi0 wi js g tc te) (ZaE i0)):=by
 intro pins s Z H D0 I h;rw [exec_Assign_Name_used _ _ _ _ hsw];refine wpAny_bind (wpAny_standAt (wpAny_bind ?_));show wpAny _ X.A (do let _ <- comprehension (.ListComp elt [⟨tg,iter,ifs,0⟩] scope pos) scope X.env _ (newList []) false (eval iter X.env) (some (assign (.Name y py) X.env))) _ _ s;refine wpAny_bind (wpAny_mono (Zgg (Q:=fun x H1=>ZaE i0 x Z H1 D0.nx) (Q0:=fun _ s'=>SP X pins D0 .next s') S_ hsc hc hi hb hk hjk hs I h fun C Dd s3 s6 H3 H5 fp hC I3 f3 I6 qn=>?_) (fun _ s' hq=>wpAny_pure (wpAny_pure hq)) fun _ _ e=>e);obtain ⟨m,hm,_⟩:=I6.loc;have Io:Inv X pins Z H5 s6:=I3.comp_out (h'':=s6.heap) f3 hC I6 ⟨rfl,fun _ _=>rfl⟩;have fC:ZaZ X pins H5 C:=I3.fpOk (Nat.le_of_eq hC.symm) I6.free;show wpAny _ X.A (assign (.Name y py) X.env (.ref Dd)) _ _ _;refine wpAny_assign_Name (Zes Io hN hy hx (v:=.ref Dd) rfl (fun s8 I8 ⟨a8,sb8,ha8⟩=>?_) hf);have ne8:C≠a8:=fun z=>by
   rcases ha8 with e|e
   . exact fC.2.1 (z.trans e)
   . exact fC.2.2.2.2.1 _ _ e z.symm
 refine ⟨m,hm.sameBut sb8 ne8,fun h' hs'=>?_⟩;exact ⟨_,H5,I8.turnL (t':=s8.toks) (ch:=[C]) (fun b hb=>by rw [Ox.mp hb];exact fC) (fun b o hb e=>(hs'.2 b (fun z=>hb (by rw [z];exact List.mem_singleton_self _))).trans e),qn⟩
end
end L2
end
section
namespace L2
open PySem PySem.Spec PyProof.Rows
mutual
inductive Dp(K:PySem.W.Frag)(H:Hp):V->PyData->Prop
 | non:Dp K H .non .none
 | bl (b:Bool):Dp K H (.bl b) (.bool b)
 | int (i:Int):Dp K H (.int i) (.int i)
 | str (x:Str) (ok:PyData.strOk x=true):Dp K H (.str x) (.str x)
 | lst {a:Addr}{xs:List V}{ds:List PyData}:SqL K H a xs->Dps K H xs ds->Dp K H (.ref a) (.list ds)
 | tup {a:Addr}{xs:List V}{ds:List PyData}:SqT K H a xs->Dps K H xs ds->Dp K H (.ref a) (.tuple ds)
inductive Dps(K:PySem.W.Frag)(H:Hp):List V->List PyData->Prop
 | nil:Dps K H [] []
 | cons {v:V}{vs:List V}{d:PyData}{ds:List PyData}:Dp K H v d->Dps K H vs ds->Dps K H (v::vs) (d::ds)
end
section
variable {K:PySem.W.Frag}{H H':Hp}
mutual
theorem Dp.lay:∀ {v:V}{d:PyData},Dp K H v d->d.canLay0=true
 | _,_,.non=>rfl
 | _,_,.bl b=>rfl
 | _,_,.int i=>rfl
 | _,_,.str x ok=>ok
 | _,_,.lst h r=>Dps.lay r
 | _,_,.tup h r=>Dps.lay r
theorem Dps.lay:∀ {v:List V}{d:List PyData},Dps K H v d->PyData.canLayAll0 d=true
 | _,_,.nil=>rfl
 | _,_,.cons h r=>by rw [PyData.canLayAll0,Dp.lay h,Dps.lay r];rfl
end
end
section
variable {X:Cx}{pins:List (Addr×Obj)}{Z:St}{H:Hp}{s:Shared}
mutual
theorem Inv.reads(I:Inv X pins Z H s):∀ {v:V}{d:PyData}{u:Value},Dp X.K H v d->RelV v u->∃ as,Reads s.heap u d as
 | _,_,_,.non,r=>by cases r;exact ⟨_,.none⟩
 | _,_,_,.bl b,r=>by cases r;exact ⟨_,.bool b⟩
 | _,_,_,.int i,r=>by obtain ⟨t,rfl⟩:=r;exact ⟨_,.int i t⟩
 | _,_,_,.str x ok,r=>by obtain ⟨t,rfl⟩:=r;exact ⟨_,.str x t⟩
 | _,_,_,.lst h rs,r=>by
   cases r;obtain ⟨its,rv,⟨o,n,e,c,_,dd⟩,_⟩:=I.list h;obtain ⟨as,q⟩:=Inv.readsAll I rs rv;exact ⟨_,.list e c dd (by simpa using q)⟩
 | _,_,_,.tup h rs,r=>by
   cases r;obtain ⟨its,rv,⟨o,e,c,n,dd⟩,_⟩:=I.tuple h;obtain ⟨as,q⟩:=Inv.readsAll I rs rv;exact ⟨_,.tuple e c dd (by simpa using q)⟩
theorem Inv.readsAll(I:Inv X pins Z H s):∀ {v:List V}{d:List PyData}{u:List Value},Dps X.K H v d->Zd v u->∃ as,ReadsAll s.heap u d as
 | _,_,_,.nil,r=>by cases r;exact ⟨_,.nil⟩
 | _,_,_,.cons h rs,r=>by
   cases r with
   | cons r1 r2 =>
     obtain ⟨as,q⟩:=Inv.reads I h r1;obtain ⟨bs,q2⟩:=Inv.readsAll I rs r2;exact ⟨_,.cons q q2⟩
end
end
end L2
end
section
set_option tactic.hygienic false
namespace L2
open PySem PySem.Spec PyProof.Rows
namespace Rv
theorem own:Manifest.owners.lookup (String.ofList ['d','e','s','r','e','v','e','r'].reverse)=some Manifest.sig_reversed:=by kernel_rfl
theorem next:Slot "reversed" "__next__" "reversed.__next__" :=
 .of (owner := "reversed") (n := "__next__") (by rw [typeLookup_type,builtinLookup_eq_fast]<;>kernel_rfl) (by decide +kernel) (by decide +kernel) (by decide +kernel) (by first|exact .inl (by decide +kernel)|exact .inr (by decide +kernel)) (by rw [isSubtype_type]<;>kernel_rfl)
theorem Zmo:entryFor table "reversed.__next__" = some Builtin.«reversed.__next__»:=entryFor_of_tree (by kernel_rfl)
theorem ZmC (a:Value):argsOk "reversed.__next__" ⟨[a],[]⟩:=by
 unfold argsOk;rw [signature?_of (id := "reversed.__next__") (n:=['_','_','t','x','e','n','_','_']) (o:=['d','e','s','r','e','v','e','r']) (by kernel_rfl) own];kernel_rfl
theorem iter:Slot "reversed" "__iter__" "reversed.__iter__" :=
 .of (owner := "reversed") (n := "__iter__") (by rw [typeLookup_type,builtinLookup_eq_fast]<;>kernel_rfl) (by decide +kernel) (by decide +kernel) (by decide +kernel) (by first|exact .inl (by decide +kernel)|exact .inr (by decide +kernel)) (by rw [isSubtype_type]<;>kernel_rfl)
theorem ZpQ (a:Value):argsOk "reversed.__iter__" ⟨[a],[]⟩:=by
 unfold argsOk;rw [signature?_of (id := "reversed.__iter__") (n:=['_','_','r','e','t','i','_','_']) (o:=['d','e','s','r','e','v','e','r']) (by kernel_rfl) own];kernel_rfl
theorem ZpG:entryFor table "reversed.__iter__" = some Builtin.«dict_keyiterator.__iter__» :=
 entryFor_alias (id' := "dict_keyiterator.__iter__") (by kernel_rfl) (by first|rfl|decide +kernel|(unfold String.splitOn;simp +decide [String.splitOnAux])) (by decide +kernel) (by kernel_rfl)
theorem Zpa:typeLookup (.type "tuple") "__reversed__" = pure none:=by rw [typeLookup_type,builtinLookup_eq_fast]<;>kernel_rfl
theorem Zkv:isSubtype (.type "reversed") (.type "reversed")=pure true:=by rw [isSubtype_type]<;>kernel_rfl
theorem init:Slot "reversed" "__init__" "object.__init__" :=
 .of (owner := "object") (n := "__init__") (by rw [typeLookup_type,builtinLookup_eq_fast]<;>kernel_rfl) (by decide +kernel) (by decide +kernel) (by decide +kernel) (by first|exact .inl (by decide +kernel)|exact .inr (by decide +kernel)) (by rw [isSubtype_type]<;>kernel_rfl)
theorem called:TypeCalled "reversed" "reversed.__new__" "object.__init__" := ⟨by decide +kernel,F.create_reversed,⟨_,_,F.mro_reversed⟩,F.made_reversed,by decide +kernel,Zkv,init⟩
noncomputable def obj (l:Addr) (i:Int):Obj:={cls:=.type "reversed",data:=.fields #[.ref l,rawInt i]}
noncomputable def Is (h:Heap) (a l:Addr) (i:Int):Prop:=∃ o,h.get? a=some o/\o.cls=.type "reversed" /\ o.data=.fields #[.ref l,rawInt i]
section
variable {prog:Program}{w:World}{A:Around}{E:Value->Shared->Prop}{s:Shared}
theorem Is.typeIs (x:Is s.heap a l i):s.TypeIs (.ref a) "reversed" := let ⟨o,ho,hc,_⟩:=x;⟨o,ho,hc⟩
theorem Is.at(x:Is h a l i)(e:∀ o,h.get? a=some o->h'.get? a=some o):Is h' a l i:=let ⟨o,ho,r⟩:=x;⟨o,e _ ho,r⟩
theorem new(hl:IsTup s.heap l items)(hz:items.size<=sizeLine)
   (h:Q (.ref s.heap.objs.size) {s with heap:=s.heap.push (obj l ((items.size:Int) - 1)),toks:=s.toks+1+1}) :
   codeAny (model prog w) A (.call (.builtin "reversed.__new__") ⟨[.type "reversed",.ref l],[]⟩) (wants Q E) s:=by
 have hfit:(items.size:Int)<2 ^ 63:=by have:=Zaw;lia
 refine codeAny_of_tree ?_;show wpAny _ A.in1 (do checkBuiltinCall "reversed.__new__" ⟨[.type "reversed",.ref l],[]⟩;again (.builtin "reversed.__new__" ⟨[.type "reversed",.ref l],[]⟩)) _ _ s;refine wpAny_bind (wpAny_of_eq (F.newCall_reversed_1 _) (wpAny_pure ⟨plainId_quiet F.plain_reversed_new _,codeAny_builtin F.entry_reversed_new ?_⟩));rw [Around.under_plainId F.plain_reversed_new _];unfold Builtin.«reversed.__new__»;refine wpAny_bind (wpAny_of_eq (newClass_reversed _) ?_)
 try dsimp only
 refine wpAny_bind (wpAny_of_eq (a:=()) (by first|rfl|kernel_rfl) (wpAny_bind (wpAny_of_eq (a:=()) (by first|rfl|kernel_rfl) ?_)))
 try dsimp only
 refine wpAny_bind (wpAny_specialOf hl.typeIs Zpa ?_)
 try dsimp only
 refine wpAny_bind ?_;show wpAny _ _ (isInstance (.ref l) (.type "dict") >>= fun b=>_) _ _ s;refine wpAny_bind (wpAny_isInstance hl.typeIs F.sub_tuple_dict ?_);show wpAny _ _ (specialOf (.ref l) "__getitem__" >>= fun b=>_) _ _ s;refine wpAny_bind (wpAny_specialOf hl.typeIs slot_tuple_getitem.lookup ?_);refine wpAny_of_eq (a:=true) (by rfl) ?_;show wpAny _ _ (call (.builtin "len") [.ref l] >>= fun b=>_) _ _ s;refine wpAny_bind (len_tuple hl hfit ?_);show wpAny _ _ (asInt? (.int _ _) >>= fun b=>_) _ _ _;refine wpAny_bind (wpAny_pure ?_);show wpAny _ _ (newObj (.type "reversed") (.fields #[.ref l,rawInt ((items.size:Int) - 1)]) >>= fun b=>_) _ _ _;exact wpAny_bind (wpAny_newObj_type (wpAny_pure h))
theorem call(hl:IsTup s.heap l items)(hz:items.size<=sizeLine)
   (h:Q (.ref s.heap.objs.size) {s with heap:=s.heap.push (obj l ((items.size:Int) - 1)),toks:=s.toks+1+1}):wpAny (model prog w) A (PySem.call (.type "reversed") [.ref l]) Q E s:=by
 refine callType_codes called (F.typeCall_reversed_1 _) F.entry_object_init (new (Q:=fun o s1=>o=.ref s.heap.objs.size/\s1={s with heap:=s.heap.push (obj l ((items.size:Int) - 1)),toks:=s.toks+1+1}) hl hz ⟨rfl,rfl⟩) ?_;rintro _ _ ⟨rfl,rfl⟩;have hT:Shared.TypeIs {s with heap:=s.heap.push (obj l ((items.size:Int) - 1)),toks:=s.toks+1+1} (.ref s.heap.objs.size) "reversed" := ⟨_,Oj _ rfl,rfl⟩
 refine ⟨hT,F.args_object_init_2 _ _,?_⟩;exact object_init_meets init.lookup F.made_reversed (by decide) prog w _ _ _ ⟨hT,rfl,h⟩
theorem next_item{it l:Addr}{i:Nat}{Q:Option Value->Shared->Prop}(hit:Is s.heap it l (i:Int))(hl:IsTup s.heap l items)(hz:items.size<=sizeLine)(hx:items[i]? = some x)
   (hQ:∀ h' t',Is h' it l ((i:Int) - 1)->Heap.SameBut it s.heap h'->Q (some x) {s with heap:=h',toks:=t'}):wpAny (model prog w) A (pyNext (.ref it)) Q E s:=by
 obtain ⟨o,ho,hc,hd⟩:=id hit;have hi:i<items.size:=by
   have:=(Array.getElem?_eq_some_iff.mp hx).1;exact this
 have l63:=Zaw;unfold pyNext;refine wpAny_bind (wpAny_attempt (wpAny_callSpecial?_slot (name:=O "__next__") hit.typeIs next (wpAny_call_entry next hit.typeIs Zmo ?_ (ZmC _))));unfold Builtin.«reversed.__next__»;refine wpAny_bind (wpAny_of_eq (a:=(Value.ref it,[])) rfl ?_)
 try dsimp only
 refine wpAny_bind (wpAny_field ho hd (x:=.ref l) rfl (wpAny_bind (wpAny_field ho hd (x:=rawInt (i:Int)) rfl ?_)));show wpAny _ _ (if (i:Int)<0 then _ else _) _ _ s;rw [if_neg (by lia)];show wpAny _ _ (specialOf (.ref l) "__getitem__" >>= fun b=>_) _ _ s;refine wpAny_bind (wpAny_specialOf hl.typeIs slot_tuple_getitem.lookup ?_);show wpAny _ _ (mkInt (i:Int) >>= fun b=>_) _ _ s;refine wpAny_bind (wpAny_mkInt ?_);refine wpAny_bind (wpAny_attempt (getItem_tuple (s:={s with toks:=s.toks+1}) (j:=i) (x:=x) hl (by lia) (by lia) (seqIndex_of (by lia) (by lia)) hx ?_));show wpAny _ _ (field (.ref it) 1 >>= fun b=>_) _ _ _;refine wpAny_bind (wpAny_field ho hd (x:=rawInt (i:Int)) rfl ?_);show wpAny _ _ (setField (.ref it) 1 (rawInt ((i:Int) - 1)) >>= fun b=>_) _ _ _;refine wpAny_bind (wpAny_setField ho hd (by simp) ?_);refine wpAny_pure ⟨x,rfl,wpAny_pure (hQ _ _ ?_ (Heap.SameBut.update ..))⟩;exact ⟨_,Heap.get?_update_self _ ho (Obj.isFreed_of_fields (Obj.data_mapFields hd _)),(Obj.cls_mapFields ..).trans hc,by rw [Obj.data_mapFields hd]<;>simp⟩
theorem next_end(hh:A.handled=none)(hit:Is s.heap it l (-1))(hQ:∀ h',Heap.ExtBut it s.heap h'->Q none {s with heap:=h'}):wpAny (model prog w) A (pyNext (.ref it)) Q E s:=by
 obtain ⟨o,ho,hc,hd⟩:=id hit;unfold pyNext;refine wpAny_bind (wpAny_attempt (wpAny_callSpecial?_slot (name:=O "__next__") hit.typeIs next (wpAny_call_entry next hit.typeIs Zmo ?_ (ZmC _))));unfold Builtin.«reversed.__next__»;refine wpAny_bind (wpAny_of_eq (a:=(Value.ref it,[])) rfl ?_)
 try dsimp only
 refine wpAny_bind (wpAny_field ho hd (x:=.ref l) rfl (wpAny_bind (wpAny_field ho hd (x:=rawInt (-1)) rfl ?_)));show wpAny _ _ (if (-1:Int)<0 then _ else _) _ _ s;rw [if_pos (by decide)];refine wpAny_bind (wpAny_rule ?_);show wpAny _ _ ((setField (.ref it) 1 (rawInt (-1)) >>= fun _=>setField (.ref it) 0 .none) >>= fun b=>_) _ _ _;have e1:=Heap.get?_update_self (Obj.mapFields (·.setIfInBounds 1 (rawInt (-1)))) ho (Obj.isFreed_of_fields (Obj.data_mapFields hd _));refine wpAny_bind (wpAny_bind (wpAny_setField ho hd (by simp) (wpAny_setField e1 (Obj.data_mapFields hd _) (by simp) ?_)));refine wpAny_bind ?_;show wpAny _ _ (newExc (.type "StopIteration") [] >>= fun b=>_) _ _ _;refine wpAny_bind ?_;simp only [newExc,newTuple];refine wpAny_bind (wpAny_newObj_type ?_ (by size_fits));refine wpAny_bind (m:=firstArgMember _ _) (wpAny_of_eq (a:=Value.none) (by first|rfl|(simp only [firstArgMember]<;>rfl)) (wpAny_newObj_type ?_ (by size_fits)));simp only [raiseNew];refine wpAny_bind (wpAny_handled ?_);rw [show A.in1.handled=none from hh];refine wpAny_bind (wpAny_pure (wpAny_throw ?_));refine wpAny_bind (wpAny_isInstance (T := "StopIteration") (b:=true) ⟨_,Oj _ rfl,rfl⟩ isSubtype_stop (wpAny_pure (hQ _ ?_)));exact ((((Heap.ExtBut.refl _ _).trans (Heap.SameBut.update ..).extBut).trans (Heap.SameBut.update ..).extBut).push _).push _
theorem ZeE(hit:Is s.heap it l i)(h:Q (.ref it) s):wpAny (model prog w) A (pyIter (.ref it)) Q E s:=by
 refine wpAny_pyIter_slot hit.typeIs iter (wpAny_call_entry iter hit.typeIs ZpG ?_ (ZpQ _));exact wpAny_pure ⟨_,rfl, "reversed",_,hit.typeIs,next.lookup,h⟩
end
end Rv
noncomputable def Itv(K:PySem.W.Frag)(a:Addr)(n:Nat):It :=
 ⟨fun i H=>∃ xs x,SqT K H a xs/\xs.length=n/\xs.reverse[i]? = some x,fun i H x H'=>H'=H/\∀ xs,SqT K H a xs->xs.reverse[i]? = some x,fun i H=>∃ xs,SqT K H a xs/\xs.length=n/\n=i⟩
theorem ZiV{P:Program}{w:World}{K:PySem.W.Frag}{tg:Expr}(a it:Addr)(n:Nat):Turn P w K tg (Itv K a n) [it] it (fun i h=>i<=n/\Rv.Is h it a ((n:Int) - 1 - i)) where
 mem:=by simp
 obj:=fun i h st b hb=>by
   have e:b=it:=by simpa using hb
   subst e;obtain ⟨_,o,e,c,d⟩:=st;exact ⟨o,e,fun v z=>by rw [d] at z;cases z⟩
 keep:=fun i h h' st k=>⟨st.1,st.2.at fun o e=>k it (by simp) o e⟩
 item:=by
   intro X hP hw hK hc i pins s Z H E I hf st hg;subst hP hw hK;obtain ⟨hin,st⟩:=st;obtain ⟨xs,x,hq,hxn,hx⟩:=hg;obtain ⟨its,rv,p,hz⟩:=I.tuple hq;have hl:=rv.length;have hi:i<xs.length:=by
     have:=(Ob.mp hx).1;simpa using this
   have hx':xs[n - 1 - i]? = some x:=by
     rw [List.getElem?_reverse hi] at hx;rw [<- hxn];exact hx
   obtain ⟨u,hu,ru⟩:=rv.get hx';obtain ⟨f0,f1,f2,f3,f4,f5⟩:=hf it (by simp);have e1:(n:Int) - 1 - (i:Nat)=((n - 1 - i:Nat):Int):=by lia
   rw [e1] at st;refine Rv.next_item st p (by simp;lia) (x:=u) (by simpa using hu) fun h' t' st' sb=>?_;have I1:Inv X pins Z H {s with heap:=h',toks:=t'}:=I.turned (t':=t') (fun b o hb e=>(sb.2 b hb).trans e) f0 f1 f3 f4 f5;obtain ⟨o,e,c,d⟩:=id st';have e2:((n - 1 - i:Nat):Int) - 1=(n:Int) - 1 - ((i+1:Nat):Int):=by lia
   refine ⟨u,rfl,Zf8 (s:={s with heap:=h',toks:=t'}) e c d (by decide) ⟨x,H,I1,ru,⟨rfl,fun ys hy=>by rw [I.tuple_inj hy hq];exact hx⟩,⟨by lia,by rw [<- e2];exact st'⟩,fun b hb=>(hf b hb).1⟩⟩
 done:=by
   intro X hP hw hK hc i pins s Z H E I hf st hg;subst hP hw hK;obtain ⟨xs,hq,hxn,hx⟩:=hg;obtain ⟨f0,f1,f2,f3,f4,f5⟩:=hf it (by simp);have st1:=st.2;rw [show (n:Int) - 1 - (i:Nat)=-1 by lia] at st1;exact Rv.next_end (I.ok.hd hc) st1 fun h' eb=>⟨rfl,I.turned (t':=s.toks) (fun b o hb e=>eb b o hb e) f0 f1 f3 f4 f5⟩
 self:=fun _ _ _ _ _ st h=>Rv.ZeE st.2 h
end L2
end
section
set_option tactic.hygienic false
namespace L2
open PySem PySem.Spec PyProof.Rows
theorem ZT:∀ {vs:List Value}{ss:List Str},StrsAre vs ss->Zd (ss.map V.str) vs
 | _,_,.nil=>.nil
 | _,_,.cons y t h=>.cons ⟨t,rfl⟩ (ZT h)
theorem Zeq:∀ {ss:List Str}{vs:List Value},Zd (ss.map V.str) vs->StrsAre vs ss
 | [],vs,h=>by cases h;exact .nil
 | s::ss,vs,h=>by
   rw [Op] at h;cases h with
   | cons h1 h2 =>
     obtain ⟨t,rfl⟩:=h1;exact .cons s t (Zeq h2)
section
variable {prog:Program}{w:World}{A:Around}{E:Value->Shared->Prop}{s:Shared}
theorem ZgA
   (hcol:∀ R:List Value->Shared->Prop,(∀ (h':Heap) (tk:Nat) (vs:List Value),s.heap.objs.size<=h'.objs.size->(∀ b o,s.heap.get? b=some o->h'.get? b=some o)->StrsAre vs ss->R vs {s with heap:=h',toks:=tk})->wpAny (model prog w) A.in1 (collect (.ref r)) R E s)
   (h64:ss.length<64)
   (h:∀ (D:Addr) (h':Heap) (tk:Nat) (out:List Value) (ss':List Str) (n:Nat),(∀ b o,s.heap.get? b=some o->h'.get? b=some o)->s.heap.objs.size<=D->h'.get? D=some {cls:=.type "list",data:=.seq out.toArray n}->StrsAre out ss'->ss'.Perm ss->sortedS ss'=true ->
     Q (.ref D) {s with heap:=h',toks:=tk}):wpAny (model prog w) A (call (.builtin "sorted") [.ref r]) Q E s:=by
 refine Calls.call_function_entry kind_sorted plain_sorted entry_sorted (args_sorted1 _) ?_;unfold Builtin.«sorted»;refine wpAny_bind (m:=checkCount "sorted" 1 1 _) (wpAny_pure (wpAny_bind (hcol _ fun h' tk vs hsz hk hS=>?_)));have hlen:vs.length=ss.length:=by
   have:=(ZT hS).length;simpa using this.symm
 have hz:vs.length<=sizeLine:=by rw [sizeLine_eq];lia
 refine wpAny_bind (wpAny_newList ?_ hz);have hoL:(h'.push (seqObj "list" vs.toArray 0)).get? h'.objs.size=some (seqObj "list" vs.toArray 0):=Oj _ rfl;refine wpAny_bind (wpAny_holding (wpAny_call_entry slot_list_sort ⟨_,hoL,rfl⟩ entry_list_sort (list_sort_treeK strKind_oneLt hoL hS.keysOf (fun v₁ v₂ rest e=>keyKind_strs (by rw [<- e];exact hS)) (by lia) fun st' a1 a2=>⟨_,rfl,?_⟩) (args_list_sort _)));refine wpAny_pure ⟨_,rfl,?_⟩;obtain ⟨ss',h1,h2,h3⟩:=sorted_out_str hS a1 a2;obtain ⟨e,he⟩:=sortedHeap_at (out:=(arrOf st').map (·.2)) hoL;have e2:((arrOf st').map (·.2))=((arrOf st').map (·.2)).toList.toArray:=Array.toArray_toList.symm;refine h h'.objs.size _ tk ((arrOf st').map (·.2)).toList ss' e (fun b o q=>?_) hsz (by rw [<- e2];exact he) h1 h2 h3;have q':=hk b o q;have hlt:=Heap.lt_size q';rw [sortedHeap_old (Ou hlt) (by rw [size_push'];exact Nat.lt_succ_of_lt hlt)];exact Od _ q'
theorem Zgi(K:PySem.W.KdlSrc prog w T r d n P OK)(hh:A.handled=none)(hok:OK s.heap)(hn:n<=sizeLine)
   (h:∀ (h':Heap) (tk:Nat) (acc:Array Value),s.heap.objs.size<=h'.objs.size->(∀ b o,s.heap.get? b=some o->h'.get? b=some o)->ItemsOf P acc n->R acc.toList {s with heap:=h',toks:=tk}) :
   wpAny (model prog w) A (collect (.ref r)) R E s:=by
 have lt:=K.there _ hok;unfold collect;refine wpAny_bind (wpAny_runValue (codeAny_builtin entry_proto_collect' ?_));rw [Around.under_plainId PySem.F.plain_proto_collect _];show wpAny _ A.in1 (newList [] >>= fun x=>again (.builtin "list.__iadd__" ⟨[x,.ref r],[]⟩)) _ _ s;refine wpAny_bind (wpAny_newObj_type (wpAny_pure ⟨plainId_quiet PySem.F.plain_list_iadd _,codeAny_builtin entry_list_iadd' ?_⟩));rw [Around.under_plainId PySem.F.plain_list_iadd _];have e0:(s.heap.push {cls:=.type "list",data:=.seq ([]:List Value).toArray}).get? s.heap.objs.size=some {cls:=.type "list",data:=.seq #[]}:=Oj _ rfl;show wpAny _ A.in1 (Builtin.List.listExtendWith (.ref s.heap.objs.size) (.ref r) (.ref s.heap.objs.size)) _ _ _;have key:=PySem.W.kdl_extend (A:=A) (s:={s with heap:=s.heap.push {cls:=.type "list",data:=.seq ([]:List Value).toArray}})
   (R:=fun (q:Result) (s':Shared)=>∃ (h':Heap) (tk:Nat) (acc:Array Value) (c:Nat),q=.ok (.ret (.ref s.heap.objs.size))/\s'={s with heap:=h',toks:=tk}/\(∀ b o,s.heap.get? b=some o->h'.get? b=some o)/\h'.get? s.heap.objs.size=some {cls:=.type "list",dict:=none,data:=.seq acc c,slots:=#[]}/\ItemsOf P acc n)
   K hh (K.keep _ _ hok fun b _ o e=>Od _ e) s.heap.objs.size (Nat.ne_of_gt lt.1) (Nat.ne_of_gt lt.2) (.ref s.heap.objs.size) 0 e0 (fun h' tk acc c hk hS hacc=>⟨h',tk,acc,c,rfl,rfl,fun b o e=>hk b o (Ou (Heap.lt_size e)) (Od _ e),hS,hacc⟩) hn
 refine wpAny_mono key (fun fin s' x=>?_) fun e s' x=>?_
 . cases fin with
   | done f =>
     obtain ⟨h',tk,acc,c,e,rfl,hk,hS,hacc⟩:=x;cases e;exact wpAny_bind (wpAny_load hS (wpAny_pure (h h' tk acc (Nat.le_of_lt (Heap.lt_size hS)) hk hacc)))
   | again c₁ =>
     refine ⟨x.1,codeAny_mono x.2 fun q s₂ y=>?_⟩;obtain ⟨h',tk,acc,c,rfl,rfl,hk,hS,hacc⟩:=y;exact wpAny_bind (wpAny_load hS (wpAny_pure (h h' tk acc (Nat.le_of_lt (Heap.lt_size hS)) hk hacc)))
 . obtain ⟨_,_,_,_,z,_⟩:=x;cases z
end
theorem Zdv:∀ {xs:List α}{ys:List β},Paired R xs ys->∀ {i:Nat}{x:α},xs[i]? = some x->∃ y,ys[i]? = some y/\R x y
 | _,_,.nil,i,x,e=>by simp at e
 | _,_,.cons h r,0,x,e=>by cases e;exact ⟨_,rfl,h⟩
 | _,_,.cons h r,i+1,x,e=>by
   obtain ⟨y,h1,h2⟩:=Zdv r (i:=i) (x:=x) (by simpa using e);exact ⟨y,by simpa using h1,h2⟩
theorem Zdk:∀ (ss:List Str) (vs:List Value),vs.length=ss.length->(∀ (j:Nat) (v:Value),vs[j]? = some v->∃ x,ss[j]? = some x/\(Zw P w).is (Sum.inr x) v=true)->StrsAre vs ss
 | [],[],_,_=>.nil
 | s::ss,v::vs,hl,h=>by
   obtain ⟨x,e,hx⟩:=h 0 v rfl;cases e;obtain ⟨t,rfl⟩:=Value.isStrOf_shape (x:=s) (v:=v) hx;exact .cons s t (Zdk ss vs (by simpa using hl) fun j u hu=>h (j+1) u (by simpa using hu))
section
variable {X:Cx}
noncomputable def Zjd(P:Program)(w:World)(K:PySem.W.Frag):List V->Hp->VK->Prop:=fun xs H Q=>∃ a kvs ss,xs=[.ref a]/\Dk P w K H a kvs/\kvs.map (·.1)=ss.map Sum.inr/\ss.length<64/\∀ p ss',H p=none->ss'.Perm ss->sortedS ss'=true->Q (.ref p) (upd H p (.lst (ss'.map V.str)))
theorem Zfg (hc:X.A.handled=none):Zau X (.builtin "sorted") (Zjd X.prog X.w X.K):=by
 intro pins s Z H xs us Q I r h;obtain ⟨a,kvs,ss,rfl,hd,hks,h64,q⟩:=h;obtain ⟨u,rfl,ru⟩:=vals1 r;cases ru;obtain ⟨z,hm,vs,rel,dd⟩:=I.dk hd;obtain ⟨ep,hat⟩:=dd.dictAt;have hl:vs.length=kvs.length:=(Paired.length rel).symm;have hl2:kvs.length=ss.length:=by
   have:=congrArg List.length hks;simpa using this
 have hkey:∀ (j:Nat) k x,vs[j]? = some (k,x)->∃ y,ss[j]? = some y/\k=Sum.inr y:=fun j k x e=>by
   have hj:j<vs.length:=(Ob.mp e).1;have h1:kvs[j]? = some kvs[j]:=Og (by lia);obtain ⟨u,hu,hu2⟩:=Zdv rel h1;rw [e] at hu;cases hu;have h3:(kvs.map (·.1))[j]? = some kvs[j].1:=by rw [On,h1];rfl
   rw [hks,On] at h3;obtain ⟨y,hy,e3⟩:=Oo.mp h3;exact ⟨y,hy,hu2.1.symm.trans e3.symm⟩
 refine ZgA (ss:=ss) (fun R hR=>Zgi (PySem.W.kdl_dict (knd:=Zw X.prog X.w) (kvs:=vs) (ep:=ep) hm) hc hat (by lia) fun h' tk acc hsz hk hacc=>?_) h64 fun D h' tk out ss' n hk hD ho hS hp hs=>?_
 . refine hR h' tk acc.toList hsz hk (Zdk (P:=X.prog) (w:=X.w) ss acc.toList (by rw [Array.length_toList,hacc.1];lia) fun j v hv=>?_);obtain ⟨k,x,e,hk2⟩:=hacc.2 j v (by rw [<- Array.getElem?_toList];exact hv);obtain ⟨y,hy,rfl⟩:=hkey j k x e;exact ⟨y,hy,hk2⟩
 . have hlen:ss'.length<=sizeLine:=by rw [hp.length_eq];lia
   refine ⟨.ref D,_,I.laid (a:=D) (o:=.lst (ss'.map V.str)) (t':=tk) hk hD ⟨by simpa using hlen,out,n,ZT hS,ho⟩,rfl,q D ss' (I.hok.fresh hD) hp hs⟩
end
end L2
end
section
namespace L2
open PySem PySem.Spec PyProof.Rows
noncomputable def Zcg(z:Str)(n:Nat):Str:=⟨(List.replicate n z.cps).foldl (·++·) #[]⟩
theorem ZdG(a:Array Nat):∀ (n:Nat) (i:Array Nat),((List.replicate n a).foldl (·++·) i).size=i.size+n * a.size
 | 0,i=>by simp
 | n+1,i=>by
   rw [List.replicate_succ,List.foldl_cons,ZdG a n (i++a),Array.size_append,Nat.succ_mul]
   lia
theorem Zdp(z:Str)(n:Nat):(Zcg z n).length=n * z.length:=by
 show ((List.replicate n z.cps).foldl (·++·) #[]).size=_;rw [ZdG];simp;rfl
section
variable {X:Cx}
theorem Zk7:OpR X (binaryOp .Mult) (fun x y H Q=>∃ z n,x=.str z/\y=.int n/\0<=n/\n<=1000/\z.length<=1000/\Q (.str (Zcg z n.toNat)) H):=by
 intro pins s Z H x y v u Q I rx ry h;obtain ⟨z,n,rfl,rfl,h0,h1,h2,q⟩:=h;obtain ⟨t,rfl⟩:=rx;obtain ⟨t2,rfl⟩:=ry;have hl:z.length * n.toNat<=1000000:=Nat.mul_le_mul h2 (by lia:n.toNat<=1000);have hs:(1000000:Nat)<=sizeLine:=by decide
 refine PySem.P.mul_str (by rw [decide_eq_false (by lia:¬ n < -(2 ^ 63:Int)),decide_eq_false (by lia:¬ n ≥ 2 ^ 63)]<;>rfl) (fun _ _=>?_) (fun _ _=>?_) ?_
 . have h3:1<=n:=by lia
   have h4:(9223372036854775807:Int) / n ≥ 1000:=by
     have:1000<=9223372036854775807 / n:=(Int.le_ediv_iff_mul_le (by lia)).mpr (by lia);exact this
   show ¬ ((z.length:Int) > (2 ^ 63 - 1) / n);rw [show (2 ^ 63 - 1:Int)=9223372036854775807 by decide]
   lia
 . unfold Builtin.Str.tooLong;exact decide_eq_false (by lia)
 . by_cases hn:n<1
   . rw [if_pos hn];refine ⟨by decide,.str _,H,I.tok _,⟨_,rfl⟩,?_⟩;rw [show n.toNat=0 by lia] at q;exact q
   . rw [if_neg hn];by_cases h5:(n==1 || z.length==0)=true
     . rw [if_pos h5];refine ⟨.str _,H,I,⟨_,rfl⟩,?_⟩;have e:Zcg z n.toNat=z:=by
         rw [Bool.or_eq_true] at h5;rcases h5 with h5|h5
         . have e1:n.toNat=1:=by have:=eq_of_beq h5;lia
           rw [e1];unfold Zcg;simp
         . have e1:z.length=0:=eq_of_beq h5;have e2:(Zcg z n.toNat).length=0:=by rw [Zdp,e1];simp
           have f:∀ y:Str,y.length=0->y=⟨#[]⟩:=fun y hy=>by
             cases y with|mk c=>rw [show c=#[] from Array.eq_empty_of_size_eq_zero hy]
           exact (f _ e2).trans (f z e1).symm
       rw [e] at q;exact q
     . rw [if_neg h5];refine ⟨?_,.str _,H,I.tok _,⟨_,rfl⟩,q⟩;show (Zcg z n.toNat).length<=sizeLine;rw [Zdp,Nat.mul_comm]
       lia
end
end L2
end
section
namespace L2
open PySem PySem.Spec PyProof.Rows
section
variable {X:Cx}
theorem Ze1(hi:i.natAbs<2 ^ 2000)(hj:j.natAbs<2 ^ 2000):IntMulOk i j:=by
 have bits:∀ k:Int,k.natAbs<2 ^ 2000->Builtin.Int.intBits k<=2000:=fun k hk=>by
   unfold Builtin.Int.intBits;split
   . lia
   . rename_i h;have h0:k.natAbs≠0:=by simpa using h
     have:=(Nat.log2_lt h0).mpr hk
     lia
 unfold IntMulOk;have h1:=bits i hi;have h2:=bits j hj;have h3:Builtin.Int.intTooBig (Builtin.Int.intBits i+Builtin.Int.intBits j:Nat)=false:=by
   unfold Builtin.Int.intTooBig;rw [decide_eq_false_iff_not];have:(bitsLine:Nat)=134217728:=by decide
   rw [this]
   lia
 intro q;simp only [Oa] at q;have q2:=q.2;rw [show ((Builtin.Int.intBits i:Int)+(Builtin.Int.intBits j:Int))=((Builtin.Int.intBits i+Builtin.Int.intBits j:Nat):Int) by simp] at q2;rw [h3] at q2;cases q2
theorem Zik:OpR X (binaryOp .Mult) (rI (fun i j=>i.natAbs<2 ^ 2000/\j.natAbs<2 ^ 2000) fun i j=>.int (i * j)):=opI fun _ _ _ _ _ _ _ hc q=>mul_int q (Ze1 hc.1 hc.2)
noncomputable def ZoM(K:PySem.W.Frag):R2:=fun x y H Q=>∃ a b ys,x=.ref a/\y=.ref b/\SqT K H a []/\SqT K H b ys/\Q (.ref b) H
theorem Zla:OpR X (binaryOp .Add) (ZoM X.K):=by
 intro pins s Z H x y v u Q I rx ry h;obtain ⟨a,b,ys,rfl,rfl,ha,hb,q⟩:=h;cases rx;cases ry;obtain ⟨its,r1,ht,_⟩:=I.tuple ha;obtain ⟨its2,r2,hb,_⟩:=I.tuple hb;cases r1;obtain ⟨⟨cls,dd,data,sl⟩,ho,hc,n,hd⟩:=id ht;obtain ⟨⟨cls2,dd2,data2,sl2⟩,ho2,hc2,n2,hd2⟩:=id hb;simp only at hc hd hc2 hd2;subst hc hd hc2 hd2;exact concat_meets ⟨_,ho,rfl⟩ ⟨_,ho2,rfl⟩ noFill_tuple_add seq_tuple_add PySem.F.slot_tuple_add PySem.F.entry_tuple_add (PySem.F.args_tuple_add_2 _ _)
     (tuple_addW0 a b _ _ n n2 dd dd2 sl sl2 (by simp)) ⟨ho,ho2,⟨.ref b,H,I,rfl,q⟩⟩
end
end L2
namespace HT
open PySem PyProof.Rows
section
variable {prog:Program}{w:World}{A:Around}{E:Value->Shared->Prop}{s:Shared}
theorem Za8{t sl:Addr}{items:Array Value}{lo hi:Option Int}{Q:Value->Shared->Prop}(ht:IsTup s.heap t items)(hs:s.heap.IsSliceOf sl vl vu .none)(pl:IsPart vl lo)(pu:IsPart vu hi)
   (hw:sIx items.size 0 lo=0/\sIx items.size items.size hi=items.size) (h:Q (.ref t) s):wpAny (model prog w) A (getItem (.ref t) (.ref sl)) Q E s:=by
 obtain ⟨os,hos,hcs,hds⟩:=id hs;have hTs:s.TypeIs (.ref sl) "slice" := ⟨os,hos,hcs⟩
 unfold getItem
 try with_reducible refine wpAny_holding ?_
 first|refine wpAny_bind (wpAny_pure ?_)|skip
 refine wpAny_bind (wpAny_sequenceKey ht.typeIs (by decide) ?_);refine wpAny_bind (wpAny_callSpecial?_slot (name:=O "__getitem__") ht.typeIs PyProof.Rows.slot_tuple_getitem
   (wpAny_call_entry PyProof.Rows.slot_tuple_getitem ht.typeIs entry_tuple_getitem ?_ (args_tuple_getitem _ _)))
 show wpAny _ _ (Builtin.Tuple.tupleItemsOf (.ref t) >>= _) _ _ s;refine wpAny_bind (tupleItemsOf_ ht ?_);refine wpAny_bind (wpAny_typeOf hTs ?_);rw [if_pos (by decide)];refine wpAny_bind (Zak hs pl pu ?_);have hyes:(((sIx items.size 0 lo:Nat):Int)==0&&(1:Int)==1&&(sIx items.size items.size hi - sIx items.size 0 lo)==items.size)=true:=by
   rw [hw.1,hw.2];simp
 show wpAny _ _ (if (((sIx items.size 0 lo:Nat):Int)==0&&(1:Int)==1&&(sIx items.size items.size hi - sIx items.size 0 lo)==items.size)=true then _ else _) _ _ s;rw [if_pos hyes];unfold Builtin.Tuple.tupleIsExact;refine wpAny_bind (wpAny_bind (wpAny_typeOf ht.typeIs (wpAny_pure ?_)));rw [if_pos (by decide)];exact wpAny_bind (wpAny_rule (wpAny_pure ⟨_,rfl,wpAny_pure h⟩))
end
end HT
namespace L2
open PySem PySem.Spec PyProof.Rows
section
variable {X:Cx}
noncomputable def Zqt(K:PySem.W.Frag):V->Option Int->Option Int->Hp->VK->Prop:=fun x lo hi H Q=>∃ a xs,x=.ref a/\SqT K H a xs /\
 (HT.sIx xs.length 0 lo=0/\HT.sIx xs.length xs.length hi=xs.length)/\Q (.ref a) H
theorem Zi6:SlR X (Zqt X.K):=by
 intro pins s Z H x v vl vu lo hi sl Q I rx hs pl pu h;obtain ⟨a,xs,rfl,hx,hw,q⟩:=h;cases rx;obtain ⟨its,r,ht,hz⟩:=I.tuple hx;have hlen:its.toArray.size=xs.length:=by rw [Of];exact r.length.symm
 refine ⟨"tuple",_,PyProof.Rows.slot_tuple_getitem.lookup,ht.typeIs,?_⟩;exact HT.Za8 ht hs pl pu (by rw [hlen];exact hw) ⟨.ref a,H,I,rfl,q⟩
end
end L2
end
section
set_option tactic.hygienic false
namespace L2
open PySem PySem.Spec PyProof.Rows
noncomputable def Zph:List Int->Int->Int
 | [],d=>d
 | x::r,_=>r.foldl (fun m y=>if y > m then y else m) x
end L2
end
section
namespace L2
open PySem PySem.Spec PyProof PyProof.Rows PySem.AutoSeq1
set_option maxRecDepth 8000 in
theorem ZgW(l:Addr)(items:Array Value)(n:Nat)(b:Addr)(items2:Array Value)(n2:Nat)(od:Option Addr)(sl:Array (Option Value))(hs0:¬(!items.isEmpty&&Builtin.List.listTooLong (items.size+items2.size))=true)(hs1:items.size<=sizeLine)(hs2:items.size+items2.size<=sizeLine+1) :
   Meets (Builtin.«list.extend» ⟨[.ref l,.ref b],[]⟩) (fun _ R s=>s.heap.get? l=some {cls:=.type "list",dict:=none,data:=.seq items n,slots:=#[]}/\s.heap.get? b=some {cls:=.type "tuple",dict:=od,data:=.seq items2 n2,slots:=sl}/\R (.ok (.ret Value.none)) {s with heap:=s.heap.update l (Obj.mapSeq fun x=>x++items2),toks:=s.toks}) :=
 .of_wp fun prog w A R s h=>by
   obtain ⟨hp,g,d,tk,os⟩:=s;obtain ⟨hl,hb,h⟩:=h;have f1:=idx_int;have f2:=AutoSeq1.sub_tuple_tuple;have f3:=AutoSeq1.sub_list_list;have f4:=AutoSeq1.sub_tuple_list;have f5:=AutoSeq1.sub_list_tuple;have hz':(items++items2).size<=sizeLine+1:=by rw [Array.size_append];exact hs2
   wp_walk using (wpAny_updateSeq hl rfl (hz:=hs1) (_hz':=hz')),wpAny_loadPart' hl,wpAny_loadPart' hb;exact ⟨_,rfl,h⟩
section
variable {X:Cx}
noncomputable def Zjf(K:PySem.W.Frag):V->List V->Hp->VK->Prop:=fun x vs H Q=>∃ l b xs zs,x=.ref l/\vs=[.ref b]/\H l=some (.lst xs)/\SqT K H b zs/\xs.length+zs.length<=sizeLine/\Q .non (upd H l (.lst (xs++zs)))
theorem ZgN:MtM X "list.extend" (Zjf X.K):=by
 intro pins s Z H x vs v us Q I rx rv h;obtain ⟨l,b,xs,zs,rfl,rfl,hH,hB,hz,q⟩:=h;cases rx;obtain ⟨u,rfl,ru⟩:=rv.one;cases ru;obtain ⟨z,its,n,r,hl,e⟩:=I.lstM hH;obtain ⟨its2,r2,⟨o,e2,oc,n2,od⟩,z2⟩:=I.tuple hB;obtain ⟨cls,dc,dat,sl⟩:=o;simp only at oc od;subst oc;subst od;have hl2:=r2.length;have hsz:its.toArray.size+its2.toArray.size<=sizeLine:=by rw [Of,Of];lia
 have hlong:¬ (!its.toArray.isEmpty&&Builtin.List.listTooLong (its.toArray.size+its2.toArray.size))=true:=by
   rw [ZfX hsz,Bool.and_false];exact Ow
 refine call_meets F.slot_list_extend ⟨_,e,rfl⟩ F.entry_list_extend (F.args_list_extend_2 _ _)
   (ZgW l its.toArray n b its2.toArray n2 dc sl hlong (by rw [Of];lia) (by lia)) ⟨e,e2,?_⟩
 refine ⟨.non,_,I.lset (its':=its++its2) hH e (by simp) (r.append r2) ?_,rfl,q⟩;rw [OA]
 lia
end
end L2
end
section
namespace L2
open PySem PySem.Spec PyProof.Rows
noncomputable def Zn9(K:PySem.W.Frag)(a:Addr)(n:Nat):It :=
 ⟨fun i H=>∃ xs x,SqL K H a xs/\xs.length=n/\xs.reverse[i]? = some x,fun i H x H'=>H'=H/\∀ xs,SqL K H a xs->xs.reverse[i]? = some x,fun i H=>∃ xs,SqL K H a xs/\xs.length=n/\n=i⟩
theorem Zh6{P:Program}{w:World}{K:PySem.W.Frag}{tg:Expr}(a it:Addr)(n:Nat):Turn P w K tg (Zn9 K a n) [it] it (fun i h=>i<=n/\h.IsRevIter it a ((n:Int) - 1 - i)) where
 mem:=by simp
 obj:=fun i h st b hb=>by
   have e:b=it:=by simpa using hb
   subst e;obtain ⟨_,o,e,c,d⟩:=st;exact ⟨o,e,fun v z=>by rw [d] at z;cases z⟩
 keep:=fun i h h' st k=>⟨st.1,st.2.at fun o e=>k it (by simp) o e⟩
 item:=by
   intro X hP hw hK hc i pins s Z H E I hf st hg;subst hP hw hK;obtain ⟨hin,st⟩:=st;obtain ⟨xs,x,hq,hxn,hx⟩:=hg;obtain ⟨its,rv,p,hz⟩:=I.list hq;have hl:=rv.length;have hi:i<xs.length:=by
     have:=(Ob.mp hx).1;simpa using this
   have hx':xs[n - 1 - i]? = some x:=by
     rw [List.getElem?_reverse hi] at hx;rw [<- hxn];exact hx
   obtain ⟨u,hu,ru⟩:=rv.get hx';obtain ⟨f0,f1,f2,f3,f4,f5⟩:=hf it (by simp);have e1:(n:Int) - 1 - (i:Nat)=((n - 1 - i:Nat):Int):=by lia
   rw [e1] at st;refine wpAny_pyNext_rev_item st p.isList (x:=u) (by simpa using hu) fun h' st' sb=>?_;have I1:Inv X pins Z H {s with heap:=h'}:=I.turned (t':=s.toks) (fun b o hb e=>(sb.2 b hb).trans e) f0 f1 f3 f4 f5;obtain ⟨o,e,c,d⟩:=id st';have e2:((n - 1 - i:Nat):Int) - 1=(n:Int) - 1 - ((i+1:Nat):Int):=by lia
   exact ⟨u,rfl,Zf8 (s:={s with heap:=h'}) e c d (by decide) ⟨x,H,I1,ru,⟨rfl,fun ys hy=>by rw [I.list_inj hy hq];exact hx⟩,⟨by lia,by rw [<- e2];exact st'⟩,fun b hb=>(hf b hb).1⟩⟩
 done:=by
   intro X hP hw hK hc i pins s Z H E I hf st hg;subst hP hw hK;obtain ⟨xs,hq,hxn,hx⟩:=hg;obtain ⟨f0,f1,f2,f3,f4,f5⟩:=hf it (by simp);have st1:=st.2;rw [show (n:Int) - 1 - (i:Nat)=-1 by lia] at st1;exact wpAny_pyNext_rev_end (I.ok.hd hc) st1 fun h' eb=>⟨rfl,I.turned (t':=s.toks) (fun b o hb e=>eb b o hb e) f0 f1 f3 f4 f5⟩
 self:=fun _ _ _ _ _ st h=>wpAny_pyIter_revIter st.2 h
noncomputable def Zpw(K:PySem.W.Frag)(ta:TA):TI:=fun Z H R=>ta Z H fun vs H1=>∃ a xs,vs=[.ref a]/\((SqT K H1 a xs/\R (Itv K a xs.length) H1)\/(SqL K H1 a xs/\R (Zn9 K a xs.length) H1))
theorem ZkW {X:Cx}{tg l:Expr}{ta:TA}{p pos:Pos} (hg:Gl X "reversed") (hm:X.mg "reversed" = none) (ha:PA X [l] ta) (hs:starEach [l] X.env=[(false,eval l X.env)]:=by rfl) :
   PI X tg (.Call (.Name "reversed" p) [l] [] pos) (Zpw X.K ta):=by
 intro pins s Z H R I h;refine Call_ (ZaO I hg hm boot_reversed (PyProof.Rows.callWith_type1 (thn (ha pos pins s Z H _ I h) fun us s1 ⟨vs,H1,I1,r1,q1⟩=>?_) hs rfl));obtain ⟨a,xs,rfl,q⟩:=q1;obtain ⟨u,rfl,ru⟩:=vals1 r1;obtain rfl:u=Value.ref a:=ru;rcases q with ⟨hq,q⟩|⟨hq,q⟩
 . obtain ⟨its,rv,pl,hz⟩:=I1.tuple hq;have hl:=rv.length;refine Rv.call pl (by simp;lia) ?_;have e1:((its.toArray.size:Nat):Int) - 1=(xs.length:Int) - 1 - ((0:Nat):Int):=by simp;lia
   have st:Rv.Is (s1.heap.push (Rv.obj a (((its.toArray.size:Nat):Int) - 1))) s1.heap.objs.size a ((xs.length:Int) - 1 - ((0:Nat):Int)):=⟨_,Oj _ rfl,rfl,by rw [<- e1];rfl⟩
   refine Rv.ZeE st ?_;refine ⟨s1.heap.objs.size,[s1.heap.objs.size],_,_,H1,rfl,I1.kept (t':=s1.toks+1+1) fun b o e=>Od _ e,ZiV a _ xs.length,⟨Nat.zero_le _,st⟩,fun b hb=>?_,q⟩;have e:b=s1.heap.objs.size:=by simpa using hb
   subst e;exact I1.fpOk (Oq _) (I1.hok.fresh (Oq _))
 . obtain ⟨its,rv,pl,hz⟩:=I1.list hq;have hl:=rv.length;refine call_reversed_list pl.isList ?_;have e1:((its.toArray.size:Nat):Int) - 1=(xs.length:Int) - 1 - ((0:Nat):Int):=by simp;lia
   have st:(s1.heap.push (revObj a (((its.toArray.size:Nat):Int) - 1))).IsRevIter s1.heap.objs.size a ((xs.length:Int) - 1 - ((0:Nat):Int)):=⟨_,Oj _ rfl,rfl,by rw [<- e1];rfl⟩
   refine wpAny_pyIter_revIter st ?_;refine ⟨s1.heap.objs.size,[s1.heap.objs.size],_,_,H1,rfl,I1.kept (t':=s1.toks) fun b o e=>Od _ e,Zh6 a _ xs.length,⟨Nat.zero_le _,st⟩,fun b hb=>?_,q⟩;have e:b=s1.heap.objs.size:=by simpa using hb
   subst e;exact I1.fpOk (Oq _) (I1.hok.fresh (Oq _))
end L2
end
section
namespace L2
open PySem PySem.Spec PyProof.Rows
namespace Tx
noncomputable def place(x:Str):List Str->Option Nat
 | []=>none
 | y::r=>if y=x then some 0 else (place x r).map (·+1)
end Tx
end L2
namespace L2
open PySem PySem.Spec PyProof.Rows
noncomputable def Zdi (K:PySem.W.Frag):Bool:=K.all fun p=>!decide (p.2.cls=.type "tuple") || p.2.dict.isNone
end L2
end
section
namespace L2
open PySem PySem.Spec PyProof.Rows
noncomputable def Zqn(d:PyData):Bool:=isDisplay d&&(PyData.showable d&&(PyData.intsShort 13 d&&(decide (PyData.weight d<=2 ^ 20)&&decide (PyData.depth d<=1000))))
end L2
end
section
namespace L2
open PySem PySem.Spec PyProof.Rows
structure XAs(K:PySem.W.Frag)(a b:Addr):Prop extends ExcN K a where
 sub:PySem.W.subIn K (.ref b) (.ref a)=some true
 at':ExcA K b
 one:PySem.W.kitOne K (.ref b) (.ref b)=some true
end L2
end
section
namespace L2
open PySem PySem.Spec PyProof.Rows
theorem Zi2(t:SetTable)(n:Nat):(t.orStandIn n).led=t.led/\(t.plain=false->(t.orStandIn n).plain=false):=by
 unfold SetTable.orStandIn;split
 . exact ⟨rfl,id⟩
 . exact ⟨rfl,fun _=>rfl⟩
theorem ZnC(t:SetTable)(es:Array (Int×Value))(h:Int)(x:Value):(layNew t es h x).2.1.led=t.led/\(t.plain=false->(layNew t es h x).2.1.plain=false):=by
 unfold layNew;split
 . exact Zi2 _ _
 . exact ⟨rfl,fun _=>rfl⟩
theorem Zls{m f mv:Nat}{l p:Bool}{hs:Array Int}{t:SetTable}{o:Array Nat}(e:SetTable.laid m f mv l p hs=some (t,o)):t.led=l/\t.plain=p:=by
 unfold SetTable.laid at e;obtain ⟨x,_,e2⟩:=Option.bind_eq_some_iff.mp e;cases e2;exact ⟨rfl,rfl⟩
theorem Zi9(t:SetTable)(es:Array (Int×Value))(n:Nat):(relayAll t es n).2.1.led=t.led/\(t.plain=false->(relayAll t es n).2.1.plain=false):=by
 unfold relayAll;split
 . rename_i t' o e;obtain ⟨h1,h2⟩:=Zls e;dsimp only;split
   . exact ⟨h1,fun q=>h2.trans q⟩
   . exact ⟨rfl,fun _=>rfl⟩
 . exact ⟨rfl,fun _=>rfl⟩
section
variable {prog:Program}{w:World}{A:Around}{E:Value->Shared->Prop}{s:Shared}{a:Addr}{S_:Str->Bool}{n:Nat}
structure XSet(prog:Program)(w:World)(led:Bool)(h:Heap)(a:Addr)(es:Array (Int×Value))(ep:Nat)(t:SetTable):Prop where
 at':∃ o,h.get? a=some o/\o.ExactSet/\o.data=.set es ep t
 el:ElemsOf (PySem.strKind prog w) es.toList
 sz:es.size<scanBound
 fit:t.fits es.size=true
 ld:t.led=led
 pl:es.size=0\/t.plain=false
theorem XSet.store{led:Bool}{es:Array (Int×Value)}{ep:Nat}{t:SetTable}(T:XSet prog w led s.heap a es ep t){es':Array (Int×Value)}{t':SetTable}{Q:Unit->Shared->Prop}(el:ElemsOf (PySem.strKind prog w) es'.toList)(sz:es'.size<scanBound)(fit:t'.fits es'.size=true)(ld:t'.led=led)(pl:t'.plain=false)
   (h:∀ h',Heap.SameBut a s.heap h'->XSet prog w led h' a es' (ep+1) t'->Q () {s with heap:=h'}):wpAny (model prog w) A (storeSet a es' t') Q E s:=by
 obtain ⟨o,ho,hex,hd⟩:=T.at';refine wpAny_storeSet_of ho hd (h _ (Heap.SameBut.update ..) ⟨⟨{o with data:=.set es' (ep+1) t'},?_,hex,rfl⟩,el,sz,fit,ld,.inr pl⟩) (fits_of_scanBound sz);have:=Heap.get?_update_self (Obj.putSet es' t') ho (by rw [putSet_of es' t' hd];rfl);rw [putSet_of es' t' hd] at this;exact this
theorem XSet.add{led:Bool}{es:Array (Int×Value)}{ep:Nat}{t:SetTable}(T:XSet prog w led s.heap a es ep t){x:Str}{v:Value}{Q:Bool->Shared->Prop}(hk:(PySem.strKind prog w).is x v=true)(hs:v.scannable=true)(hv:plainKind v=false)(room:es.size+1<scanBound)
   (h1:es.toList.findIdx? (fun e=>(PySem.strKind prog w).is x e.2)≠none->Q false s)
   (h2:es.toList.findIdx? (fun e=>(PySem.strKind prog w).is x e.2)=none->∀ h' es' ep' t',Heap.SameBut a s.heap h'->XSet prog w led h' a es' ep' t'->es'.toList.Perm (es.toList++[((PySem.strKind prog w).hash x,v)])->Q true {s with heap:=h'}) :
   wpAny (model prog w) A (setAddHashed a v ((PySem.strKind prog w).hash x)) Q E s:=by
 obtain ⟨o,ho,hex,hd⟩:=T.at';unfold setAddHashed setAddHashedIn;refine wpAny_holding (wpAny_bind (wpAny_setState_of ho hd T.fit ?_));dsimp only;rw [byScan_of hs T.sz T.el,if_pos rfl];unfold setAddByScan;refine wpAny_bind (wpAny_bind (wpAny_rule (wpAny_bind (wpAny_setScan_of hk ho hd T.fit T.el ?_))));cases hr:es.toList.findIdx? (fun e=>(PySem.strKind prog w).is x e.2) with
 | some j=>exact wpAny_pure (wpAny_pure (h1 (by rw [hr];exact nofun)))
 | none =>
   have gw:∀ (b:Bool) {s1:Shared}{Q':Unit->Shared->Prop},Q' () s1->wpAny (model prog w) A (match b with|true=>rule "set.scan.the-table-gave-way" | false=>pure ()) Q' E s1:=fun b s1 Q' q=>by
     cases b
     . exact wpAny_pure q
     . exact wpAny_rule q
   have pm:=layNew_perm t es ((PySem.strKind prog w).hash x) v;have ft:=layNew_fits t es ((PySem.strKind prog w).hash x) v;obtain ⟨l1,l2⟩:=ZnC t es ((PySem.strKind prog w).hash x) v;dsimp only;generalize layNew t es ((PySem.strKind prog w).hash x) v=L at pm ft l1 l2 ⊢;obtain ⟨es1,t1,wd,gv⟩:=L;dsimp only at pm ft l1 l2 ⊢;rw [Array.toList_push] at pm;have el1:ElemsOf (PySem.strKind prog w) es1.toList:=(T.el.push hk hs).perm pm;have z1:es1.size=es.size+1:=by rw [<- Array.length_toList,pm.length_eq,OA,Array.length_toList];rfl
   refine wpAny_bind (gw _ ?_);have fin:∀ t2:SetTable,t2.fits es1.size=true->t2.led=led->t2.plain=false->wpAny (model prog w) A (do
       storeSet a es1 t2
       if (!wd&&t2.tooFull)=true then do
           (match (relayAll t2 es1 (SetTable.grown es1.size)).2.2 with|true=>rule "set.scan.the-table-gave-way" | false=>pure ())
           storeSet a (relayAll t2 es1 (SetTable.grown es1.size)).1 (relayAll t2 es1 (SetTable.grown es1.size)).2.1
           pure (some true)
         else pure (some true)) (fun r s'=>wpAny (model prog w) A (match r with|some added=>pure added|none=>setAddHashedIn a v ((PySem.strKind prog w).hash x) 99999) Q E s') E s:=by
     intro t2 f2 d2 p2;refine wpAny_bind (T.store el1 (by rw [z1];exact room) f2 d2 p2 fun h' sb T1=>?_);split
     . have pm2:=relayAll_perm t2 es1 (SetTable.grown es1.size);have ft2:=relayAll_fits t2 es1 (SetTable.grown es1.size);obtain ⟨r1,r2⟩:=Zi9 t2 es1 (SetTable.grown es1.size);generalize relayAll t2 es1 (SetTable.grown es1.size)=R at pm2 ft2 r1 r2 ⊢;obtain ⟨es2,t3,gv2⟩:=R;dsimp only at pm2 ft2 r1 r2 ⊢;have z2:es2.size=es1.size:=by rw [<- Array.length_toList,pm2.length_eq,Array.length_toList]
       refine wpAny_bind (gw _ (wpAny_bind (T1.store (el1.perm pm2) (by rw [z2,z1];exact room) ft2 (r1.trans d2) (r2 p2) fun h'' sb2 T2=>wpAny_pure (wpAny_pure ?_))));exact h2 hr h'' _ _ _ (sb.trans sb2) T2 (pm2.trans pm)
     . exact wpAny_pure (wpAny_pure (h2 hr h' _ _ _ sb T1 pm))
   split
   . rw [hashByValue_scannable 8 hs,hv];exact wpAny_bind (wpAny_pure (fin _ (SetTable.fits_plain_off ft) (l1.trans T.ld) rfl))
   . rename_i hp;exact wpAny_bind (wpAny_pure (fin _ ft (l1.trans T.ld) (by simpa using hp)))
end
end L2
end
section
namespace L2
open PySem PySem.Spec PyProof.Rows
noncomputable def txt:Value->Str
 | .str x _=>x
 | _=>O ""
noncomputable def kst(es:Array (Int×Value)):List Str:=es.toList.map fun e=>txt e.2
section
variable {prog:Program}{w:World}{A:Around}{E:Value->Shared->Prop}{s:Shared}{a:Addr}{led:Bool}{es:Array (Int×Value)}{ep:Nat}{t:SetTable}
theorem XSet.str(T:XSet prog w led h a es ep t)(e:Int×Value)(he:e∈es.toList):∃ u,e.2=.str (txt e.2) u:=by
 obtain ⟨⟨k,hk,_⟩,_⟩:=T.el e he;obtain ⟨u,q⟩:=Value.isStrOf_shape hk;exact ⟨u,by rw [q];rfl⟩
theorem XSet.find(T:XSet prog w led h a es ep t)(x:Str):es.toList.findIdx? (fun e=>(PySem.strKind prog w).is x e.2)=none↔x ∉ kst es:=by
 rw [List.findIdx?_eq_none_iff];constructor
 . intro h hx;obtain ⟨e,he,rfl⟩:=List.mem_map.mp hx;obtain ⟨u,q⟩:=T.str e he;have:=h e he;rw [q] at this;exact absurd this (by show (txt e.2==txt e.2)≠false;simp)
 . intro h e he;obtain ⟨u,q⟩:=T.str e he;rw [q];show (txt e.2==x)=false;exact beq_eq_false_iff_ne.mpr fun z=>h (by rw [<- z];exact List.mem_map.mpr ⟨e,he,rfl⟩)
noncomputable def Zce(prog:Program)(w:World)(led:Bool)(h:Heap)(a:Addr)(ss:List Str):Prop:=∃ es ep t,XSet prog w led h a es ep t/\(kst es).Nodup/\(∀ x,x∈kst es↔x∈ss)/\es.size<=ss.length
theorem Zce.at{h':Heap}(k:Zce prog w led h a ss)(e:∀ o,h.get? a=some o->h'.get? a=some o):Zce prog w led h' a ss:=by
 obtain ⟨es,ep,t,T,r⟩:=k;obtain ⟨o,ho,hx⟩:=T.at';exact ⟨es,ep,t,⟨⟨o,e o ho,hx⟩,T.el,T.sz,T.fit,T.ld,T.pl⟩,r⟩
theorem Zce.add{x:Str}{u:Nat}{Q:Bool->Shared->Prop}(k:Zce prog w led s.heap a ss)(hl:ss.length+1<scanBound)(h:∀ b h',Heap.SameBut a s.heap h'->Zce prog w led h' a (ss++[x])->Q b {s with heap:=h'}):wpAny (model prog w) A (setAddHashed a (.str x u) ((PySem.strKind prog w).hash x)) Q E s:=by
 obtain ⟨es,ep,t,T,nd,mm,sz⟩:=k;refine T.add (x:=x) (by show (x==x)=true;simp) rfl rfl (by lia) (fun q=>?_) fun q h' es' ep' t' sb T' pm=>h _ h' sb ⟨es',ep',t',T',?_,?_,?_⟩
 . have q1:x∈kst es:=Classical.byContradiction fun z=>q ((T.find x).mpr z);have e:s={s with heap:=s.heap}:=by cases s;rfl
   rw [e];refine h _ _ (Heap.SameBut.refl a s.heap) ⟨es,ep,t,T,nd,fun y=>?_,by rw [OA];lia⟩;rw [mm y,OD,Ox];exact ⟨.inl,fun z=>z.elim id fun z=>by rw [z];exact (mm x).mp q1⟩
 . have p2:(kst es').Perm (kst es++[x]):=by have:=pm.map (fun e=>txt e.2);rwa [List.map_append] at this
   refine p2.nodup_iff.mpr (List.nodup_append.mpr ⟨nd,by simp,fun y hy z hz=>?_⟩);rw [Ox.mp hz];exact fun e=>(T.find x).mp q (e ▸ hy)
 . intro y;have p2:(kst es').Perm (kst es++[x]):=by have:=pm.map (fun e=>txt e.2);rwa [List.map_append] at this
   rw [p2.mem_iff,OD,OD,mm y]
 . have:=pm.length_eq;rw [OA,Array.length_toList,Array.length_toList] at this;rw [OA];simp at this ⊢
   lia
theorem ZjG{R:Result->Shared->Prop}{I:Addr}{fp wr:List Addr}{G:Array GenState->Array GenState->Prop}{n:Nat}{Pv:Nat->Value->Prop}{St:Nat->Shared->Prop}(W:WalksS prog w A.in1 I fp wr G n Pv St)(S_:Addr)(hS:S_ ∉ fp)(ss:List Str)(hn:n=ss.length)(hv:∀ i v,Pv i v->∃ x u,ss[i]? = some x/\v=.str x u)(hb:n+1<scanBound) :
   ∀ (k i:Nat) (s:Shared),n - i=k->i<=n->St i s->Zce prog w led s.heap S_ (ss.take i)->(∀ s',Moved (S_::wr) G s s'->Zce prog w led s'.heap S_ ss->R (.ok (.ret .none)) s') ->
     codeAny (model prog w) A (.builtin "set.update.loop" ⟨[.ref S_,.ref I],[]⟩) R s:=by
 have hw:S_ ∉ wr:=fun h=>hS (W.sub _ h);have up:∀ b∈wr,b∈S_::wr:=fun b hb=>Oh _ hb;intro k;induction k with
 | zero =>
   intro i s hk hi st ks hR;obtain rfl:i=n:=by lia
   refine codeAny_builtin F.entry_set_update_loop ?_;rw [Around.under_plainId F.plain_set_update_loop _];show wpAny _ A.in1 (pyNext (.ref I) >>= _) _ _ s;refine wpAny_bind (W.done s _ _ st fun s' m=>?_);show wpAny _ A.in1 (ret Value.none) _ _ s';refine wpAny_pure (hR s' (m.mono up) ?_);rw [hn,List.take_length] at ks;exact ks.at fun o e=>m.heap S_ o hw e
 | succ k ih =>
   intro i s hk hi st ks hR;have hlt:i<n:=by lia
   refine codeAny_builtin F.entry_set_update_loop ?_;rw [Around.under_plainId F.plain_set_update_loop _];show wpAny _ A.in1 (pyNext (.ref I) >>= _) _ _ s;refine wpAny_bind (W.item i s _ _ hlt st fun v s' hP st' m=>?_);obtain ⟨x,u,hx,rfl⟩:=hv i v hP;have ks':Zce prog w led s'.heap S_ (ss.take i):=ks.at fun o e=>m.heap S_ o hw e;show wpAny _ A.in1 (holding [Value.str x u] (setAdd S_ (.str x u)) >>= _) _ _ s';refine wpAny_bind (wpAny_holding ?_);unfold setAdd;refine wpAny_holding (wpAny_bind ((PySem.strKind prog w).pyHash (k:=x) (by show (x==x)=true;simp) ?_));refine Zce.add (s:={s' with toks:=s'.toks+1}) ks' (by rw [List.length_take];lia) fun b h' sb ks2=>?_;have e2:ss.take i++[x]=ss.take (i+1):=by rw [List.take_add_one,hx];rfl
   rw [e2] at ks2;refine wpAny_pure ⟨plainId_quiet F.plain_set_update_loop _,ih (i+1) _ (by lia) hlt (W.frame _ s' _ _ st' (Nat.le_succ _) fun b hb o e=>?_) ks2 fun s'' m'' k''=>?_⟩
   . rw [sb.2 b (fun h:b=S_=>hS (by rw [<- h];exact hb))];exact e
   . refine hR s'' (Moved.trans W.gtrans ((m.mono up).then_heap (Nat.le_succ _) fun b o hb e=>?_) m'') k'';rw [sb.2 b (fun h:b=S_=>hb (by rw [h];exact Oi))];exact e
end
end L2
end
section
namespace L2
open PySem PySem.Spec PyProof.Rows
section
variable {prog:Program}{w:World}{A:Around}{E:Value->Shared->Prop}{s:Shared}
noncomputable abbrev ZZ (w:World):Bool:=!(w.params.followText "set-order")
noncomputable abbrev Zd1 (w:World):Obj:={cls:=.type "set",dict:=none,data:=.set #[] 0 (.fresh 0 0 (ZZ w))}
theorem Zkz(v:Value){Q₁:Value->Shared->Prop}(h:Q₁ (.ref s.heap.objs.size) {s with heap:=s.heap.push (Zd1 w)}) :
   codeAny (model prog w) A (.call (.builtin "set.__new__") ⟨[.type "set",v],[]⟩) (wants Q₁ E) s:=by
 refine codeAny_call_builtin F.plain_set_new F.entry_set_new (wpAny_of_eq (F.newCall_set_1 v) ?_);unfold Builtin.«set.__new__» Builtin.Frozenset.newClass;have hsub:=sub_set_self;obtain ⟨hp,g,d,tk,os⟩:=s;dsimp only
 wp_walk
 refine wpAny_askSetting (wpAny_pure ?_);dsimp only;simp only [newObj];refine wpAny_bind (wpAny_alloc (wpAny_pure ?_));exact wpAny_pure h
theorem ZlA:Zce prog w (ZZ w) (s.heap.push (Zd1 w)) s.heap.objs.size [] :=
 ⟨#[],0,_,⟨⟨_,Oj _ rfl,⟨rfl,rfl,rfl⟩,rfl⟩,(fun e he=>by cases he),by decide,rfl,rfl,.inl rfl⟩,(by simp [kst]),(fun x=>by simp [kst]),Oq _⟩
set_option maxHeartbeats 3200000 in
theorem Zi7{l:Addr}{its:Array Value}{ss:List Str}{Q:Value->Shared->Prop}(hh:A.handled=none)(hl:s.heap.IsList l its)(hs:StrsAre its.toList ss)(hb:ss.length+1<scanBound)
   (h:∀ (h':Heap) (tk:Nat),Zce prog w (ZZ w) h' s.heap.objs.size ss->(∀ b o,s.heap.get? b=some o->h'.get? b=some o)->Q .none {s with heap:=h',toks:=tk}) :
   codeAny (model prog w) A (.call (.builtin "set.__init__") ⟨[.ref s.heap.objs.size,.ref l],[]⟩) (wants Q E) {s with heap:=s.heap.push (Zd1 w)}:=by
 have g0:(s.heap.push (Zd1 w)).get? s.heap.objs.size=some (Zd1 w):=Oj _ rfl;refine codeAny_call_builtin F.called_set.init.plain F.entry_set_init (check_set_init_1 ⟨_,g0,rfl⟩ ?_);obtain ⟨ol,hol,hcl,nl,hdl⟩:=hl;have lt:l<s.heap.objs.size:=Heap.lt_size hol;have hl1:(s.heap.push (Zd1 w)).IsList l its:=⟨_,Od _ hol,hcl,nl,hdl⟩
 obtain ⟨c1,d1,dt1,sl1⟩:=ol;simp only at hcl hdl;subst hcl hdl;have hol':(s.heap.push (Zd1 w)).get? l=some {cls:=.type "list",dict:=d1,data:=.seq its nl,slots:=sl1}:=Od _ hol;have q1:=F.sub_list_set;have q2:=F.sub_list_frozenset;have q3:(Value.type "list" == Value.type "dict")=false:=by decide
 unfold Builtin.«set.__init__» noKeywords Builtin.Frozenset.updateFrom;generalize hPI:pyIter=PI
 wp_walk
 subst hPI;refine wpAny_pyIter_list hl1 (wpAny_bind (wpAny_runValue ?_));have ne:l≠(s.heap.push (Zd1 w)).objs.size:=by rw [Heap.size_push];exact Ou (Nat.lt_succ_of_lt lt)
 have hz:its.size=ss.length:=by
   have:=(ZT hs).length;simpa using this.symm
 refine ZjG ((Walks.list (by simp [hh]) _ l ne its).toS) s.heap.objs.size (by
     rw [Heap.size_push];simp only [O2,List.not_mem_nil,or_false,not_or];exact ⟨Ou (OH _),Nat.ne_of_gt lt⟩) ss hz (fun i v hv=>?_) (by rw [hz];exact hb) (its.size - 0) 0 _ rfl (Nat.zero_le _) ⟨⟨_,Oj _ rfl,rfl,rfl⟩,hl1.push _⟩ (ZlA.at fun o e=>Od _ e) fun s' m k=>?_
 . have hv':its.toList[i]? = some v:=by rw [Array.getElem?_toList];exact hv
   have vs:=ZT hs;have hi:i<ss.length:=by have:=(Ob.mp hv').1;simp at this;lia
   obtain ⟨u,hu,ru⟩:=vs.get (i:=i) (x:=V.str ss[i]) (by rw [On,Og hi];rfl);rw [hv'] at hu;cases hu;obtain ⟨t,rfl⟩:=ru;exact ⟨ss[i],t,Og hi,rfl⟩
 . rw [Moved.eq_with m];refine wpAny_pure (wpAny_pure (h _ _ k fun b o e=>?_));have b1:b<s.heap.objs.size:=Heap.lt_size e;refine m.heap b o ?_ (Od _ (Od _ e));simp only [O2,List.not_mem_nil,or_false,not_or];exact ⟨Ou b1,by rw [Heap.size_push];exact Ou (Nat.lt_succ_of_lt b1)⟩
set_option maxHeartbeats 3200000 in
theorem Zkb{l:Addr}{its:Array Value}{ss:List Str}{Q:Value->Shared->Prop}(hh:A.handled=none)(hl:s.heap.IsList l its)(hs:StrsAre its.toList ss)(hb:ss.length+1<scanBound)
   (h:∀ (h':Heap) (tk:Nat),Zce prog w (ZZ w) h' s.heap.objs.size ss->(∀ b o,s.heap.get? b=some o->h'.get? b=some o)->Q (.ref s.heap.objs.size) {s with heap:=h',toks:=tk}) :
   wpAny (model prog w) A (call (.type "set") [.ref l]) Q E s:=by
 obtain ⟨c,tl,m1⟩:=F.called_set.mro;have m2:=F.called_set.made;have m3:=F.called_set.sub;have m4:=F.called_set.notType;have m5:=F.called_set.canCreate;have m6:=F.typeCall_set_1 (.ref l);refine wpAny_call (codeAny_of_tree ?_);show wpAny _ _ (callAny (.type "set") _) _ _ _;refine wpAny_pure ⟨Code.quiet_builtin _ (by decide +kernel),codeAny_builtin F.entry_type_call ?_⟩;rw [Around.under_plain (weight_type_call_type "set" [.ref l] []) rfl]
 repeat (any_goals (first|assumption|wp_step))
 refine codeAny_mono (Zkz (.ref l) (E:=E) (Q₁:=fun o s1=>o=.ref s.heap.objs.size/\s1={s with heap:=s.heap.push (Zd1 w)}) ⟨rfl,rfl⟩) fun r s1 hr=>?_;cases r with
 | error e=>exact hr
 | ok fl =>
   cases fl with
   | ret o =>
     obtain ⟨rfl,rfl⟩:=hr;have ty:Shared.TypeIs {s with heap:=s.heap.push (Zd1 w)} (.ref s.heap.objs.size) "set" := ⟨_,Oj _ rfl,rfl⟩
     have m7:=F.called_set.init.lookup;have m8:=F.called_set.init.bind (.ref s.heap.objs.size)
     repeat (any_goals (first|assumption|wp_step))
     refine codeAny_mono (Zi7 (Q:=fun r s2=>r=.none/\∃ h' tk,s2={s with heap:=h',toks:=tk}/\Zce prog w (ZZ w) h' s.heap.objs.size ss/\∀ b o,s.heap.get? b=some o->h'.get? b=some o) (E:=E) (by simp [hh]) hl hs hb fun h' tk k kp=>⟨rfl,h',tk,rfl,k,kp⟩) fun r2 s2 hr2=>?_;cases r2 with
     | error e=>exact hr2
     | ok fl2 =>
       cases fl2 with
       | ret r =>
         obtain ⟨rfl,h',tk,rfl,k,kp⟩:=hr2
         repeat (any_goals (first|assumption|wp_step))
         exact h _ _ k kp
       | _=>exact hr2.elim
   | _=>exact hr.elim
end
end L2
end
section
namespace L2
open PySem PySem.Spec PyProof.Rows
theorem Zfd{α:Type}:∀ {xs:List α}{i:Nat} (hi:i<xs.length),(xs[i]::xs.eraseIdx i).Perm xs
 | x::xs,0,_=>List.Perm.refl _
 | x::xs,i+1,hi=>by
   have h:i<xs.length:=Nat.lt_of_succ_lt_succ hi;exact (List.Perm.swap x xs[i] _).trans ((Zfd h).cons x)
section
variable {prog:Program}{w:World}{A:Around}{E:Value->Shared->Prop}{s:Shared}
theorem ZdZ{src:Source}{n:Nat}{Q:Nat->Shared->Prop}(hn:0<n)(h:∀ i d,i<n->Q i {s with drawn:=d}):wpAny (model prog w) A (choose src n) Q E s:=fun Γ p hΓ=>by
 show Sem.wp (model prog w) Γ (.choose src n .pure) _ _ p s;rw [Sem.wp_choose];exact ⟨Nat.ne_of_gt hn,h _ _ (Nat.mod_lt _ hn)⟩
theorem Zgc{α:Type}:∀ (n:Nat) (xs:List α) {Q:List α->Shared->Prop}{s:Shared},xs.length=n->(∀ ys d,ys.Perm xs->Q ys {s with drawn:=d})->wpAny (model prog w) A (drawOrder n xs) Q E s
 | 0,[],Q,s,_,h=>wpAny_pure (by have:=h [] s.drawn (List.Perm.refl _);cases s;exact this)
 | n+1,x::xs,Q,s,e,h=>by
   show wpAny _ _ (choose .order (x::xs).length >>= _) _ _ _;refine wpAny_bind (ZdZ (by simp) fun i d hi=>?_);rw [Og hi];refine wpAny_bind (Zgc n ((x::xs).eraseIdx i) (by rw [List.length_eraseIdx,if_pos hi];simp at e ⊢;lia) fun ys d2 pm=>wpAny_pure (h _ d2 ?_));exact (List.Perm.cons _ pm).trans (Zfd hi)
end
theorem Zch{α:Type}(next:Nat->Nat)(xs:Array α):(pickOrder next xs).toList.Perm xs.toList:=by
 have go:∀ (fuel k:Nat) (left:List α) (out:Array α),left.length=fuel->(pickOrder.go next fuel k left out).toList.Perm (out.toList++left):=by
   intro fuel;induction fuel with
   | zero =>
     intro k left out e;rw [List.eq_nil_of_length_eq_zero e,List.append_nil];exact List.Perm.refl _
   | succ n ih =>
     intro k left out e;have hi:next k % left.length<left.length:=Nat.mod_lt _ (by lia)
     unfold pickOrder.go;rw [Og hi];refine (ih (k+1) _ _ (by rw [List.length_eraseIdx,if_pos hi];lia)).trans ?_;rw [Array.toList_push,Oz];exact List.Perm.append_left _ (Zfd hi)
 have:=go xs.size 0 xs.toList #[] (by simp);unfold pickOrder;simpa using this
end L2
end
section
namespace L2
open PySem PySem.Spec PyProof.Rows
theorem ZdL:entryFor table "set.__iter__" = some Builtin.«frozenset.__iter__» :=
 entryFor_alias (id' := "frozenset.__iter__") (by kernel_rfl) (by first|rfl|decide +kernel|(unfold String.splitOn;simp +decide [String.splitOnAux])) (by decide +kernel) (by kernel_rfl)
theorem ZH:Slot "set_iterator" "__next__" "set_iterator.__next__" :=
 .of (owner := "set_iterator") (n := "__next__") (by rw [typeLookup_type,builtinLookup_eq_fast];kernel_rfl) (by decide +kernel) (by decide +kernel) (by decide +kernel)
   (by first|exact .inl (by decide +kernel)|exact .inr (by decide +kernel)) (by rw [isSubtype_type];kernel_rfl)
theorem Zbk:entryFor table "set_iterator.__next__" = some Builtin.«set_iterator.__next__»:=entryFor_of_tree (by kernel_rfl)
theorem ZfV:Manifest.owners.lookup (String.ofList ['r','o','t','a','r','e','t','i','_','t','e','s'].reverse)=some Manifest.sig_set_iterator:=by kernel_rfl
theorem Zcc (a:Value):argsOk "set_iterator.__next__" ⟨[a],[]⟩:=by
 unfold argsOk;rw [signature?_of (id := "set_iterator.__next__") (n:=['_','_','t','x','e','n','_','_']) (o:=['r','o','t','a','r','e','t','i','_','t','e','s']) (by kernel_rfl) ZfV];kernel_rfl
section
variable {prog:Program}{w:World}{A:Around}{E:Value->Shared->Prop}{s:Shared}{a:Addr}{es:Array (Int×Value)}{ep:Nat}{t:SetTable}
noncomputable def SI (h:Heap) (it:Addr) (first:Value) (i:Nat) (a:Addr) (n ep:Nat):Prop:=h.get? it=some {cls:=.type "set_iterator",data:=.fields #[first,rawInt i,.ref a,rawInt n,rawInt ep]}
theorem ZjL{Q:Value->Shared->Prop}(T:XSet prog w (ZZ w) s.heap a es ep t)
   (h1:es.size<=1\/w.params.followText "set-order" = true->∀ h',SI h' s.heap.objs.size (rawInt 0) 0 a es.size ep->(∀ b o,s.heap.get? b=some o->h'.get? b=some o)->Q (.ref s.heap.objs.size) {s with heap:=h'})
   (h2:1<es.size->w.params.followText "set-order" = false->∀ h' d (ps:List Nat),ps.Perm (List.range es.size)->h'.get? s.heap.objs.size=some {cls:=.type "tuple",data:=.seq (ps.map fun (i:Nat)=>rawInt i).toArray}->SI h' (s.heap.objs.size+1) (.ref s.heap.objs.size) 0 a es.size ep->(∀ b o,s.heap.get? b=some o->h'.get? b=some o)->Q (.ref (s.heap.objs.size+1)) {s with heap:=h',drawn:=d}) :
   wpAny (model prog w) A (pyIter (.ref a)) Q E s:=by
 obtain ⟨o,ho,hex,hd⟩:=T.at';have ty:s.TypeIs (.ref a) "set" := ⟨o,ho,hex.1⟩
 refine wpAny_pyIter_slot ty F.slot_set_iter (wpAny_call_entry F.slot_set_iter ty ZdL ?_ (F.args_set_iter_1 _));have st:∀ {E':Value->Shared->Prop}{h':Heap}{d:Drawn}{Q':(Array (Int×Value)×Nat×SetTable)->Shared->Prop},(∀ b o,s.heap.get? b=some o->h'.get? b=some o)->Q' (es,ep,t) {s with heap:=h',drawn:=d}->wpAny (model prog w) A.in1 (setState a) Q' E' {s with heap:=h',drawn:=d}:=fun kp h=>wpAny_setState_of (kp _ _ ho) hd T.fit h;have st0:∀ {E':Value->Shared->Prop}{Q':(Array (Int×Value)×Nat×SetTable)->Shared->Prop},Q' (es,ep,t) s->wpAny (model prog w) A.in1 (setState a) Q' E' s:=fun h=>wpAny_setState_of ho hd T.fit h;unfold Builtin.«frozenset.__iter__»;refine wpAny_bind (m:=Builtin.Frozenset.slot0 "__iter__" ⟨[.ref a],[]⟩) (wpAny_pure ?_);refine wpAny_bind (m:=Builtin.Frozenset.sizeOf a) (wpAny_bind (m:=setEntries a) (wpAny_bind (m:=setState a) (st0 (wpAny_pure (wpAny_pure ?_)))));refine wpAny_bind (m:=setDrawn a) (wpAny_bind (m:=setState a) (st0 (wpAny_bind (m:=setsByText) (wpAny_bind (m:=ask) (wpAny_askSetting (wpAny_pure (wpAny_pure ?_)))))));have fin:∀ {h':Heap}{d:Drawn}{first:Value},(∀ b o,s.heap.get? b=some o->h'.get? b=some o)->(∀ h'',SI h'' h'.objs.size first 0 a es.size ep->(∀ b o,h'.get? b=some o->h''.get? b=some o)->Q (.ref h'.objs.size) {s with heap:=h'',drawn:=d}) ->
     wpAny (model prog w) A.in1 (setEpoch a >>= fun e=>newFields "set_iterator" [first,rawInt 0,Value.ref a,rawInt (es.size:Nat),rawInt (e:Nat)] >>= fun o=>ret o) (fun f s'=>∃ v,f=Fin.done (.ret v)/\(∃ T' r,s'.TypeIs v T'/\typeLookup (.type T') (O "__next__")=pure (some r)/\Q v s')) E {s with heap:=h',drawn:=d}:=fun {h' d first} kp q=>by
   refine wpAny_bind (m:=setEpoch a) (wpAny_bind (m:=setState a) (st kp (wpAny_pure (wpAny_bind (wpAny_newObj_type ?_)))));have g:(h'.push {cls:=.type "set_iterator",data:=.fields #[first,rawInt 0,.ref a,rawInt (es.size:Nat),rawInt (ep:Nat)]}).get? h'.objs.size=some _:=Oj _ rfl;exact wpAny_pure ⟨_,rfl, "set_iterator",_,⟨_,g,rfl⟩,ZH.lookup,q _ g fun b o e=>Od _ e⟩
 split
 . rename_i hc;obtain ⟨c1,c2⟩:=Bool.and_eq_true_iff.mp hc;have c2:(!t.plain&&decide (es.size > 1))=true:=c2;have c3:1<es.size:=of_decide_eq_true (Bool.and_eq_true_iff.mp c2).2;refine wpAny_bind (Zgc es.size (List.range es.size) (by simp) fun ps d pm=>wpAny_bind (wpAny_newTuple ?_ (by rw [List.length_map,pm.length_eq,List.length_range];exact fits_of_scanBound T.sz)));have e1:(s.heap.push {cls:=.type "tuple",data:=.seq (ps.map fun (i:Nat)=>rawInt i).toArray}).objs.size=s.heap.objs.size+1:=Heap.size_push ..;refine fin (fun b o e=>Od _ e) fun h'' si kp=>?_;rw [e1] at si ⊢;have c4:(!w.params.followText "set-order")=true:=c1;exact h2 c3 (by simpa using c4) h'' d ps pm (kp _ _ (Oj _ rfl)) si fun b o e=>kp b o (Od _ e)
 . rename_i hc;have k:es.size<=1\/w.params.followText "set-order" = true:=by
     by_cases b:w.params.followText "set-order" = true
     . exact .inr b
     . refine .inl (Nat.le_of_not_lt fun z=>hc ?_);have p:t.plain=false:=T.pl.resolve_left (by lia);refine Bool.and_eq_true_iff.mpr ⟨(show (!w.params.followText "set-order")=true by simpa using b),?_⟩;show (!t.plain&&decide (es.size > 1))=true;rw [p];simpa using z
   have e0:s={s with heap:=s.heap,drawn:=s.drawn}:=by cases s;rfl
   refine wpAny_bind (wpAny_pure ?_);have:=fin (h':=s.heap) (d:=s.drawn) (first:=rawInt 0) (fun b o e=>e) fun h'' si kp=>by
     have:=h1 k h'' si kp;exact this
   exact this
end
end L2
end
section
namespace L2
open PySem PySem.Spec PyProof.Rows
section
variable {prog:Program}{w:World}{A:Around}{E:Value->Shared->Prop}{s:Shared}{a it tp:Addr}{es:Array (Int×Value)}{ep i pl:Nat}{ps:List Nat}{v:Value}{hx:Int}{t:SetTable}
theorem ZfI {A':Around}{X:Type}{Q:X->Shared->Prop} (hh:A'.handled=none) (q:∀ h' e,(∀ b o,s.heap.get? b=some o->h'.get? b=some o)->(∃ o,h'.get? e=some o/\o.cls=.type "StopIteration")->E (.ref e) {s with heap:=h'}):wpAny (model prog w) A' (newExc (.type "StopIteration") [] >>= fun e=>(raiseNew e:Sem X)) Q E s:=by
 refine wpAny_bind ?_;simp only [newExc,newTuple];refine wpAny_bind (wpAny_newObj_type ?_ (by size_fits));refine wpAny_bind (m:=firstArgMember _ _) (wpAny_of_eq (a:=Value.none) (by first|rfl|(simp only [firstArgMember]<;>rfl)) (wpAny_newObj_type ?_ (by size_fits)));simp only [raiseNew];refine wpAny_bind (wpAny_handled ?_);rw [hh];exact wpAny_bind (wpAny_pure (wpAny_throw (q _ _ (fun b o e=>Od _ (Od _ e)) ⟨_,Oj _ rfl,rfl⟩)))
theorem Zg2 {Q:Value->Shared->Prop} (T:XSet prog w (ZZ w) s.heap a es ep t) (si:SI s.heap it (.ref tp) i a es.size ep) (ht:s.heap.get? tp=some {cls:=.type "tuple",data:=.seq (ps.map fun (i:Nat)=>rawInt i).toArray})
   (hi:ps[i]? = some pl) (hv:es[pl]? = some (hx,v)) (q:∀ h',SI h' it (.ref tp) (i+1) a es.size ep->Heap.SameBut it s.heap h'->Q v {s with heap:=h'}) :
   wpAny (model prog w) A (Builtin.«set_iterator.__next__» ⟨[.ref it],[]⟩) (fun f s'=>∃ v,f=.done (.ret v)/\Q v s') E s:=by
 obtain ⟨o,ho,hex,hd⟩:=T.at';have st0:∀ {E':Value->Shared->Prop}{Q':(Array (Int×Value)×Nat×SetTable)->Shared->Prop},Q' (es,ep,t) s->wpAny (model prog w) A (setState a) Q' E' s:=fun h=>wpAny_setState_of ho hd T.fit h;unfold Builtin.«set_iterator.__next__»;refine wpAny_bind (m:=slotArgs "__next__" 0 ⟨[.ref it],[]⟩) (wpAny_pure ?_);refine wpAny_bind (m:=fieldsOf (.ref it)) (wpAny_bind (wpAny_load si (wpAny_pure ?_)));show wpAny _ _ (setEntries a >>= _) _ _ _;refine wpAny_bind (wpAny_bind (m:=setState a) (st0 (wpAny_pure ?_)));rw [if_neg (by simp)];show wpAny _ _ (seqItems? (.ref tp) >>= _) _ _ _;refine wpAny_bind (wpAny_seqItems ht rfl ?_);have e1:(ps.map fun (i:Nat)=>rawInt i).toArray[((i:Int)).toNat]? = some (rawInt pl):=by simp [hi]
 dsimp only;rw [e1];show wpAny _ _ (setNextDrawn a pl ep >>= _) _ _ _;unfold setNextDrawn;refine wpAny_bind (wpAny_bind (m:=setState a) (st0 ?_));dsimp only;rw [if_neg (by simp),hv];refine wpAny_pure (wpAny_bind (wpAny_setField_rec si (by simp) fun h1 y1 s1=>wpAny_pure ⟨_,rfl,q h1 y1 s1⟩))
theorem ZiF {Q:Fin->Shared->Prop} (hh:A.handled=none) (T:XSet prog w (ZZ w) s.heap a es ep t) (si:SI s.heap it (.ref tp) i a es.size ep) (ht:s.heap.get? tp=some {cls:=.type "tuple",data:=.seq (ps.map fun (i:Nat)=>rawInt i).toArray})
   (hi:ps[i]? = none) (q:∀ h' e,(∀ b o,b≠it->s.heap.get? b=some o->h'.get? b=some o)->(∃ o,h'.get? e=some o/\o.cls=.type "StopIteration")->E (.ref e) {s with heap:=h'}) :
   wpAny (model prog w) A (Builtin.«set_iterator.__next__» ⟨[.ref it],[]⟩) Q E s:=by
 obtain ⟨o,ho,hex,hd⟩:=T.at';have st0:∀ {E':Value->Shared->Prop}{Q':(Array (Int×Value)×Nat×SetTable)->Shared->Prop},Q' (es,ep,t) s->wpAny (model prog w) A (setState a) Q' E' s:=fun h=>wpAny_setState_of ho hd T.fit h;unfold Builtin.«set_iterator.__next__»;refine wpAny_bind (m:=slotArgs "__next__" 0 ⟨[.ref it],[]⟩) (wpAny_pure ?_);refine wpAny_bind (m:=fieldsOf (.ref it)) (wpAny_bind (wpAny_load si (wpAny_pure ?_)));show wpAny _ _ (setEntries a >>= _) _ _ _;refine wpAny_bind (wpAny_bind (m:=setState a) (st0 (wpAny_pure ?_)));rw [if_neg (by simp)];show wpAny _ _ (seqItems? (.ref tp) >>= _) _ _ _;refine wpAny_bind (wpAny_seqItems ht rfl ?_);have e1:(ps.map fun (i:Nat)=>rawInt i).toArray[((i:Int)).toNat]? = none:=by simpa using hi
 dsimp only;rw [e1];refine wpAny_bind (wpAny_setField_rec si (by simp) fun h1 y1 s1=>wpAny_bind (wpAny_setField_rec y1 (by simp) fun h2 y2 s2=>?_));exact ZfI hh fun h' e kp he=>q h' e (fun b o nb eb=>kp b o (s2.extBut _ _ nb (s1.extBut _ _ nb eb))) he
end
end L2
end
section
namespace L2
open PySem PySem.Spec PyProof.Rows
section
variable {prog:Program}{w:World}{A:Around}{E:Value->Shared->Prop}{s:Shared}{a it tp:Addr}{es:Array (Int×Value)}{ep i pl sl:Nat}{ps:List Nat}{v:Value}{hx:Int}{t:SetTable}
theorem XSet.state(T:XSet prog w led s.heap a es ep t){E':Value->Shared->Prop}{Q':(Array (Int×Value)×Nat×SetTable)->Shared->Prop}(h:Q' (es,ep,t) s):wpAny (model prog w) A (setState a) Q' E' s:=by
 obtain ⟨o,ho,hex,hd⟩:=T.at';exact wpAny_setState_of ho hd T.fit h
theorem Zfn {E':Value->Shared->Prop}{Q':Bool->Shared->Prop} (h:Q' (w.params.followText "set-order") s):wpAny (model prog w) A setsByText Q' E' s:=wpAny_bind (m:=ask) (wpAny_askSetting (wpAny_pure h))
theorem Zey {Q:Option (Value×Nat)->Shared->Prop} (T:XSet prog w led s.heap a es ep t) (b:w.params.followText "set-order" = true) (h:Q (((pickOrder (w.params.setOrder a ep) es)[i]?).map fun e=>(e.2,sl)) s):wpAny (model prog w) A (setNext a sl i ep) Q E s:=by
 unfold setNext;refine wpAny_bind (m:=setState a) (T.state ?_);dsimp only;refine wpAny_bind (m:=setsByText) (Zfn ?_);rw [if_pos b,if_neg (by simp)];refine wpAny_bind (m:=setWalk a) ?_;unfold setWalk;refine wpAny_bind (m:=setState a) (T.state ?_);dsimp only;refine wpAny_bind (m:=setsByText) (Zfn ?_);rw [if_pos b];exact wpAny_bind (m:=ask) (wpAny_askSetting (wpAny_pure (wpAny_pure h)))
theorem Zez {Q:Option (Value×Nat)->Shared->Prop} (T:XSet prog w (ZZ w) s.heap a es ep t) (b:w.params.followText "set-order" = false) (z:es.size<=1) (h:Q (match es[SetTable.below t.place sl]?,t.place[SetTable.below t.place sl]? with
   | some (_,x),some j=>some (x,j+1)
   | _,_=>none) s):wpAny (model prog w) A (setNext a sl i ep) Q E s:=by
 unfold setNext;refine wpAny_bind (m:=setState a) (T.state ?_);dsimp only;refine wpAny_bind (m:=setsByText) (Zfn ?_);rw [if_neg (by rw [b];exact Ow)];have l:t.led=true:=by rw [T.ld,ZZ,b];rfl
 split
 . rename_i hc;have hc:(!t.plain&&decide (es.size > 1))=true:=hc;exact absurd (of_decide_eq_true (Bool.and_eq_true_iff.mp hc).2) (by lia)
 . refine wpAny_bind (wpAny_of_eq (a:=()) ?_ (wpAny_pure h));show (if (!t.led&&!es.isEmpty)=true then _ else pure ())=pure ();rw [l];rfl
theorem Zgn{sl':Nat}{Q:Value->Shared->Prop}(T:XSet prog w led s.heap a es ep t)(si:SI s.heap it (rawInt sl) i a es.size ep)(nx:∀ {Q':Option (Value×Nat)->Shared->Prop},Q' (some (v,sl')) s->wpAny (model prog w) A (setNext a sl i ep) Q' E s)
   (q:∀ h',SI h' it (rawInt sl') (i+1) a es.size ep->Heap.SameBut it s.heap h'->Q v {s with heap:=h'}):wpAny (model prog w) A (Builtin.«set_iterator.__next__» ⟨[.ref it],[]⟩) (fun f s'=>∃ v,f=.done (.ret v)/\Q v s') E s:=by
 unfold Builtin.«set_iterator.__next__»;refine wpAny_bind (m:=slotArgs "__next__" 0 ⟨[.ref it],[]⟩) (wpAny_pure ?_);refine wpAny_bind (m:=fieldsOf (.ref it)) (wpAny_bind (wpAny_load si (wpAny_pure ?_)));show wpAny _ _ (setEntries a >>= _) _ _ _;refine wpAny_bind (wpAny_bind (m:=setState a) (T.state (wpAny_pure ?_)));rw [if_neg (by simp)];show wpAny _ _ (setNext a sl i ep >>= _) _ _ _;refine wpAny_bind (nx ?_);refine wpAny_bind (wpAny_setField_rec si (by simp) fun h1 y1 s1=>wpAny_bind (wpAny_setField_rec y1 (by simp) fun h2 y2 s2=>wpAny_pure ⟨_,rfl,q h2 y2 (s1.trans s2)⟩))
theorem ZhN{Q:Fin->Shared->Prop}(hh:A.handled=none)(T:XSet prog w led s.heap a es ep t)(si:SI s.heap it (rawInt sl) i a es.size ep)(nx:∀ {Q':Option (Value×Nat)->Shared->Prop},Q' none s->wpAny (model prog w) A (setNext a sl i ep) Q' E s)
   (q:∀ h' e,(∀ b o,b≠it->s.heap.get? b=some o->h'.get? b=some o)->(∃ o,h'.get? e=some o/\o.cls=.type "StopIteration")->E (.ref e) {s with heap:=h'}):wpAny (model prog w) A (Builtin.«set_iterator.__next__» ⟨[.ref it],[]⟩) Q E s:=by
 unfold Builtin.«set_iterator.__next__»;refine wpAny_bind (m:=slotArgs "__next__" 0 ⟨[.ref it],[]⟩) (wpAny_pure ?_);refine wpAny_bind (m:=fieldsOf (.ref it)) (wpAny_bind (wpAny_load si (wpAny_pure ?_)));show wpAny _ _ (setEntries a >>= _) _ _ _;refine wpAny_bind (wpAny_bind (m:=setState a) (T.state (wpAny_pure ?_)));rw [if_neg (by simp)];show wpAny _ _ (setNext a sl i ep >>= _) _ _ _;refine wpAny_bind (nx (wpAny_bind (wpAny_setField_rec si (by simp) fun h1 y1 s1=>?_)));exact ZfI hh fun h' e kp he=>q h' e (fun b o nb eb=>kp b o (s1.extBut _ _ nb eb)) he
theorem SI.ty (si:SI s.heap it first i a n ep):s.TypeIs (.ref it) "set_iterator" := ⟨_,si,rfl⟩
theorem ZeS {R:Value->Shared->Prop}{Q:Option Value->Shared->Prop} (ty:s.TypeIs (.ref it) "set_iterator") (b:∀ {Q':Value->Shared->Prop}{E':Value->Shared->Prop},(∀ v s',R v s'->Q' v s')->wpAny (model prog w) A.in1 (Builtin.«set_iterator.__next__» ⟨[.ref it],[]⟩) (fun f s'=>∃ v,f=.done (.ret v)/\Q' v s') E' s) (q:∀ v s',R v s'->Q (some v) s') :
   wpAny (model prog w) A (pyNext (.ref it)) Q E s:=by
 unfold pyNext;exact wpAny_bind (wpAny_attempt (wpAny_callSpecial?_slot (name:=O "__next__") ty ZH (wpAny_call_entry ZH ty Zbk (b fun v s' r=>wpAny_pure (q v s' r)) (Zcc _))))
theorem ZeR {R:Heap->Prop}{Q:Option Value->Shared->Prop} (ty:s.TypeIs (.ref it) "set_iterator") (b:∀ {Q':Fin->Shared->Prop}{E':Value->Shared->Prop},(∀ h' e,R h'->(∃ o,h'.get? e=some o/\o.cls=.type "StopIteration")->E' (.ref e) {s with heap:=h'})->wpAny (model prog w) A.in1 (Builtin.«set_iterator.__next__» ⟨[.ref it],[]⟩) Q' E' s) (q:∀ h',R h'->Q none {s with heap:=h'}) :
   wpAny (model prog w) A (pyNext (.ref it)) Q E s:=by
 unfold pyNext;refine wpAny_bind (wpAny_attempt (wpAny_callSpecial?_slot (name:=O "__next__") ty ZH (wpAny_call_entry ZH ty Zbk (b fun h' e r he=>?_) (Zcc _))));obtain ⟨o,h1,h2⟩:=he;exact wpAny_bind (wpAny_isInstance (T := "StopIteration") (b:=true) ⟨o,h1,h2⟩ isSubtype_stop (wpAny_pure (q _ r)))
end
end L2
end
section
namespace L2
open PySem PySem.Spec PyProof.Rows
theorem ZbT:Slot "set_iterator" "__iter__" "set_iterator.__iter__" :=
 .of (owner := "set_iterator") (n := "__iter__") (by rw [typeLookup_type,builtinLookup_eq_fast];kernel_rfl) (by decide +kernel) (by decide +kernel) (by decide +kernel)
   (by first|exact .inl (by decide +kernel)|exact .inr (by decide +kernel)) (by rw [isSubtype_type];kernel_rfl)
theorem Zeb:entryFor table "set_iterator.__iter__" = some Builtin.«dict_keyiterator.__iter__» :=
 entryFor_alias (id' := "dict_keyiterator.__iter__") (by kernel_rfl) (by first|rfl|decide +kernel|(unfold String.splitOn;simp +decide [String.splitOnAux])) (by decide +kernel) (by kernel_rfl)
theorem Zfz (a:Value):argsOk "set_iterator.__iter__" ⟨[a],[]⟩:=by
 unfold argsOk;rw [signature?_of (id := "set_iterator.__iter__") (n:=['_','_','r','e','t','i','_','_']) (o:=['r','o','t','a','r','e','t','i','_','t','e','s']) (by kernel_rfl) ZfV];kernel_rfl
section
variable {prog:Program}{w:World}{A:Around}{E:Value->Shared->Prop}{s:Shared}{a it tp:Addr}{es:Array (Int×Value)}{ep i pl sl:Nat}{ps:List Nat}{v:Value}{hx:Int}{t:SetTable}{led:Bool}
theorem XSet.keep{h h':Heap}(T:XSet prog w led h a es ep t)(e:∀ o,h.get? a=some o->h'.get? a=some o):XSet prog w led h' a es ep t:=by
 obtain ⟨o,ho,hx⟩:=T.at';exact ⟨⟨o,e o ho,hx⟩,T.el,T.sz,T.fit,T.ld,T.pl⟩
theorem SI.self{first:Value}{n:Nat}{Q:Value->Shared->Prop}(si:SI s.heap it first i a n ep)(h:Q (.ref it) s):wpAny (model prog w) A (pyIter (.ref it)) Q E s:=by
 refine wpAny_pyIter_slot si.ty ZbT (wpAny_call_entry ZbT si.ty Zeb ?_ (Zfz _));show wpAny _ _ (ret (.ref it)) _ _ s;exact wpAny_pure ⟨_,rfl, "set_iterator",_,si.ty,ZH.lookup,h⟩
noncomputable def Tx2(out:List Str)(i:Nat)(v:Value):Prop:=∃ x u,out[i]? = some x/\v=.str x u
noncomputable def tx1 (es:Array (Int×Value)) (p:Nat):Str:=((es[p]?).map fun e=>txt e.2).getD (O "")
theorem Zkq:(List.range es.size).map (tx1 es)=kst es:=by
 apply List.ext_getElem
 . simp [kst]
 . intro i h1 h2;simp at h1;simp [tx1,kst,h1]
theorem XSet.text{h:Heap}(T:XSet prog w led h a es ep t)(hp:pl<es.size):∃ x u,tx1 es pl=x/\es[pl].2=.str x u:=by
 obtain ⟨u,q⟩:=T.str es[pl] (by rw [<- Array.getElem_toList];exact List.getElem_mem _);exact ⟨_,u,by simp [tx1,hp],q⟩
theorem ZfC(hh:A.handled=none)(pm:ps.Perm (List.range es.size))(n1:tp≠it)(n2:a≠it) :
   Walks prog w A it [it,tp,a] [it] es.size (Tx2 (ps.map (tx1 es))) (fun i h=>SI h it (.ref tp) i a es.size ep/\h.get? tp=some {cls:=.type "tuple",data:=.seq (ps.map fun (i:Nat)=>rawInt i).toArray}/\XSet prog w (ZZ w) h a es ep t) where
 sub:=fun b hb=>by simp at hb ⊢;exact .inl hb
 frame:=fun i h h' ⟨si,ht,T⟩ k=>⟨k it (by simp) _ si,k tp (by simp) _ ht,T.keep fun o e=>k a (by simp) o e⟩
 item:=fun i s Q E hi ⟨si,ht,T⟩ q=>by
   have hl:ps.length=es.size:=by rw [pm.length_eq,List.length_range]
   have e1:ps[i]? = some ps[i]:=Og (by lia);have hp:ps[i]<es.size:=List.mem_range.mp (pm.mem_iff.mp (List.getElem_mem (by lia)));obtain ⟨x,u,q1,q2⟩:=T.text hp;refine ZeS (R:=fun v s'=>v=es[ps[i]].2/\∃ h',s'={s with heap:=h'}/\SI h' it (.ref tp) (i+1) a es.size ep/\Heap.SameBut it s.heap h') si.ty (fun r=>Zg2 T si ht e1 (Array.getElem?_eq_getElem hp) fun h' y sb=>r _ _ ⟨rfl,h',rfl,y,sb⟩) fun v s' ⟨e,h',e',y,sb⟩=>?_;subst e e';exact q _ h' s.toks ⟨x,u,by rw [On,e1,<- q1];rfl,q2⟩ ⟨y,sb.extBut _ _ n1 ht,T.keep fun o e=>sb.extBut _ _ n2 e⟩ fun b o hb e=>sb.extBut _ _ (by simpa using hb) e
 done:=fun s Q E ⟨si,ht,T⟩ q=>by
   have hl:ps.length=es.size:=by rw [pm.length_eq,List.length_range]
   exact ZeR (R:=fun h'=>∀ b o,b≠it->s.heap.get? b=some o->h'.get? b=some o) si.ty (fun r=>ZiF (by simp [hh]) T si ht (List.getElem?_eq_none (by lia)) fun h' e kp he=>r h' e kp he) fun h' kp=>q h' s.toks fun b o hb e=>kp b o (by simpa using hb) e
 self:=fun i s Q E ⟨si,_,_⟩ q=>si.self q
theorem Zgu (hh:A.handled=none) (b:w.params.followText "set-order" = true) (n2:a≠it) :
   Walks prog w A it [it,a] [it] es.size (Tx2 (kst (pickOrder (w.params.setOrder a ep) es))) (fun i h=>SI h it (rawInt (0:Nat)) i a es.size ep/\XSet prog w (ZZ w) h a es ep t) where
 sub:=fun b hb=>by simp at hb ⊢;exact .inl hb
 frame:=fun i h h' ⟨si,T⟩ k=>⟨k it (by simp) _ si,T.keep fun o e=>k a (by simp) o e⟩
 item:=fun i s Q E hi ⟨si,T⟩ q=>by
   have pm:=Zch (w.params.setOrder a ep) es;have hl:(pickOrder (w.params.setOrder a ep) es).size=es.size:=by have:=pm.length_eq;simpa using this
   have hp:i<(pickOrder (w.params.setOrder a ep) es).size:=by lia
   have nx:∀ {A':Around}{E':Value->Shared->Prop}{Q':Option (Value×Nat)->Shared->Prop},Q' (some (((pickOrder (w.params.setOrder a ep) es)[i]'hp).2,0)) s->wpAny (model prog w) A' (setNext a 0 i ep) Q' E' s:=fun h=>Zey T b (by rw [Array.getElem?_eq_getElem hp];exact h);have mem:(pickOrder (w.params.setOrder a ep) es)[i]'hp∈es.toList:=pm.mem_iff.mp (by rw [<- Array.getElem_toList];exact List.getElem_mem _);obtain ⟨u,q2⟩:=T.str _ mem;refine ZeS (R:=fun v s'=>v=((pickOrder (w.params.setOrder a ep) es)[i]'hp).2/\∃ h',s'={s with heap:=h'}/\SI h' it (rawInt (0:Nat)) (i+1) a es.size ep/\Heap.SameBut it s.heap h') si.ty (fun r=>Zgn T si nx fun h' y sb=>r _ _ ⟨rfl,h',rfl,y,sb⟩) fun v s' ⟨e,h',e',y,sb⟩=>?_;subst e e';exact q _ h' s.toks ⟨_,u,by simp [kst,hp],q2⟩ ⟨y,T.keep fun o e=>sb.extBut _ _ n2 e⟩ fun b o hb e=>sb.extBut _ _ (by simpa using hb) e
 done:=fun s Q E ⟨si,T⟩ q=>by
   have pm:=Zch (w.params.setOrder a ep) es;have hl:(pickOrder (w.params.setOrder a ep) es).size=es.size:=by have:=pm.length_eq;simpa using this
   exact ZeR (R:=fun h'=>∀ b o,b≠it->s.heap.get? b=some o->h'.get? b=some o) si.ty (fun r=>ZhN (by simp [hh]) T si (fun h=>Zey T b (by rw [Array.getElem?_eq_none (by lia)];exact h)) fun h' e kp he=>r h' e kp he) fun h' kp=>q h' s.toks fun b o hb e=>kp b o (by simpa using hb) e
 self:=fun i s Q E ⟨si,_⟩ q=>si.self q
end
end L2
end
section
namespace L2
open PySem PySem.Spec PyProof.Rows
theorem ZlY(p:Nat):SetTable.below #[p] 0=0:=by simp [SetTable.below,SetTable.below.go]
theorem ZlX(p:Nat):SetTable.below #[p] (p+1)=1:=by simp [SetTable.below,SetTable.below.go]
theorem ZgK{α:Type}{xs:Array α}(h:xs.size=1):∃ x,xs=#[x]:=by
 refine ⟨xs[0],?_⟩;apply Array.ext
 . simp [h]
 . intro i h1 h2;have:i=0:=by lia
   subst this;rfl
section
variable {prog:Program}{w:World}{A:Around}{E:Value->Shared->Prop}{s:Shared}{a it tp:Addr}{es:Array (Int×Value)}{ep i pl sl:Nat}{ps:List Nat}{v:Value}{hx:Int}{t:SetTable}{led:Bool}
theorem XSet.place{h:Heap}(T:XSet prog w led h a es ep t):t.place.size=es.size:=by
 have:=T.fit;unfold SetTable.fits at this;exact eq_of_beq (Bool.and_eq_true_iff.mp this).1
theorem Zgv (hh:A.handled=none) (b:w.params.followText "set-order" = false) (z:es.size<=1) (n2:a≠it) :
   Walks prog w A it [it,a] [it] es.size (Tx2 (kst es)) (fun i h=>(∃ sl:Nat,SI h it (rawInt sl) i a es.size ep/\(i=0->sl=0)/\∀ j,i=1->t.place=#[j]->sl=j+1)/\XSet prog w (ZZ w) h a es ep t) where
 sub:=fun b hb=>by simp at hb ⊢;exact .inl hb
 frame:=fun i h h' ⟨⟨sl,si,r⟩,T⟩ k=>⟨⟨sl,k it (by simp) _ si,r⟩,T.keep fun o e=>k a (by simp) o e⟩
 item:=fun i s Q E hi ⟨⟨sl,si,r,_⟩,T⟩ q=>by
   obtain rfl:i=0:=by lia
   obtain rfl:=r rfl;obtain ⟨e,he⟩:=ZgK (show es.size=1 by lia);obtain ⟨p,hp⟩:=ZgK (show t.place.size=1 by rw [T.place];lia);have nx:∀ {A':Around}{E':Value->Shared->Prop}{Q':Option (Value×Nat)->Shared->Prop},Q' (some (e.2,p+1)) s->wpAny (model prog w) A' (setNext a 0 0 ep) Q' E' s:=fun h=>Zez T b z (by rw [hp,ZlY,he];exact h);obtain ⟨u,q2⟩:=T.str e (by rw [he];simp);refine ZeS (R:=fun v s'=>v=e.2/\∃ h',s'={s with heap:=h'}/\SI h' it (rawInt (p+1:Nat)) (0+1) a es.size ep/\Heap.SameBut it s.heap h') si.ty (fun r=>Zgn T si nx fun h' y sb=>r _ _ ⟨rfl,h',rfl,y,sb⟩) fun v s' ⟨e1,h',e',y,sb⟩=>?_;subst e1 e';exact q _ h' s.toks ⟨_,u,by simp [kst,he],q2⟩ ⟨⟨p+1,y,fun z=>by lia,fun j _ hj=>by rw [hp] at hj;simp at hj;lia⟩,T.keep fun o e=>sb.extBut _ _ n2 e⟩ fun b o hb e=>sb.extBut _ _ (by simpa using hb) e
 done:=fun s Q E ⟨⟨sl,si,r0,r1⟩,T⟩ q=>by
   have nx:∀ {A':Around}{E':Value->Shared->Prop}{Q':Option (Value×Nat)->Shared->Prop},Q' none s->wpAny (model prog w) A' (setNext a sl es.size ep) Q' E' s:=fun h=>Zez T b z (by
     rcases (by lia:es.size=0\/es.size=1) with k|k
     . rw [Array.getElem?_eq_none (by lia)];exact h
     . obtain ⟨p,hp⟩:=ZgK (show t.place.size=1 by rw [T.place];exact k);rw [r1 p k hp,hp,ZlX,Array.getElem?_eq_none (by lia)];exact h)
   exact ZeR (R:=fun h'=>∀ b o,b≠it->s.heap.get? b=some o->h'.get? b=some o) si.ty (fun r=>ZhN (by simp [hh]) T si nx fun h' e kp he=>r h' e kp he) fun h' kp=>q h' s.toks fun b o hb e=>kp b o (by simpa using hb) e
 self:=fun i s Q E ⟨⟨sl,si,_⟩,_⟩ q=>si.self q
theorem ZiO{Q:Value->Shared->Prop}(hh:A.handled=none)(T:XSet prog w (ZZ w) s.heap a es ep t)
   (q:∀ h' d it fp out St,Walks prog w A it fp [it] es.size (Tx2 out) St->St 0 h'->out.Perm (kst es)->s.heap.objs.size<=it->(∀ b∈fp,b=a\/s.heap.objs.size<=b)->(∀ b o,s.heap.get? b=some o->h'.get? b=some o)->Q (.ref it) {s with heap:=h',drawn:=d}) :
   wpAny (model prog w) A (pyIter (.ref a)) Q E s:=by
 have la:a<s.heap.objs.size:=by obtain ⟨o,ho,_⟩:=T.at';exact Heap.lt_size ho
 refine ZjL T (fun k h' si kp=>?_) fun k b h' d ps pm ht si kp=>?_
 . have T':=T.keep fun o e=>kp a o e;have e0:({s with heap:=h'}:Shared)={s with heap:=h',drawn:=s.drawn}:=rfl;rw [e0];by_cases b:w.params.followText "set-order" = true
   . exact q h' s.drawn _ _ _ _ (Zgu hh b (Ou la)) ⟨si,T'⟩ ((Zch _ _).map _) (Oq _) (fun c hc=>by simp at hc;rcases hc with rfl|rfl;exact .inr (Oq _);exact .inl rfl) kp
   . exact q h' s.drawn _ _ _ _ (Zgv hh (by simpa using b) (k.resolve_right b) (Ou la)) ⟨⟨0,si,fun _=>rfl,fun j z=>by cases z⟩,T'⟩ (List.Perm.refl _) (Oq _) (fun c hc=>by simp at hc;rcases hc with rfl|rfl;exact .inr (Oq _);exact .inl rfl) kp
 . have T':=T.keep fun o e=>kp a o e;exact q h' d _ _ _ _ (ZfC hh pm (Ou (OH _)) (by lia)) ⟨si,ht,T'⟩ (by rw [<- Zkq];exact pm.map _) (Nat.le_succ _) (fun c hc=>by simp at hc;rcases hc with rfl|rfl|rfl;exact .inr (Nat.le_succ _);exact .inr (Oq _);exact .inl rfl) kp
end
end L2
end
section
namespace L2
open PySem PySem.Spec PyProof.Rows
section
variable {prog:Program}{w:World}{A:Around}{E:Value->Shared->Prop}{s:Shared}{a it tp:Addr}{es:Array (Int×Value)}{ep:Nat}{t:SetTable}{led:Bool}
theorem ZjR {Q:Bool->Shared->Prop} (hT:s.TypeIs (.ref a) "set") (h:Q false s):wpAny (model prog w) A (Builtin.List.listLengthHint (.ref a)) Q E s:=by
 unfold Builtin.List.listLengthHint;refine wpAny_bind (wpAny_specialOf hT PySem.F.slot_set_len.lookup ?_);generalize e:("set.__len__" : String)=k
 wp_delta
 rw [show splitId k=some ("set", "__len__") from by subst e;decide +kernel];subst e;refine wpAny_bind (wpAny_isInstance (T := "set") (b:=true) hT (by rw [isSubtype_type];kernel_rfl) (wpAny_ite_split (fun z=>absurd z (by decide)) fun _=>wpAny_ite_split (fun _=>?_) fun z=>absurd (by decide +kernel) z));exact wpAny_bind (wpAny_typeOf hT (wpAny_pure h))
theorem ZlD {R:Result->Shared->Prop} (hh:A.handled=none) (T:XSet prog w (ZZ w) s.heap a es ep t) {S_:Addr}{res:Value}{c0:Nat} (nS:S_≠a) (hS:s.heap.get? S_=some {cls:=.type "list",data:=.seq #[] c0})
   (q:∀ h' tk d acc c out,(∀ b o,b≠S_->s.heap.get? b=some o->h'.get? b=some o)->h'.get? S_=some {cls:=.type "list",dict:=none,data:=.seq acc c,slots:=#[]}->ItemsOf (Tx2 out) acc es.size->out.Perm (kst es)->R (.ok (.ret res)) {s with heap:=h',toks:=tk,drawn:=d}) :
   wpAny (model prog w) A.in1 (Builtin.List.listExtendWith (.ref S_) (.ref a) res)
     (fun fin s'=>match fin with|.done f=>R (.ok f) s'|.again c'=>c'.quiet=true/\codeAny (model prog w) A c' R s') (fun e s'=>R (.error e) s') s:=by
 have ty:∀ {h':Heap}{d:Drawn},(∀ b o,s.heap.get? b=some o->h'.get? b=some o)->Shared.TypeIs {s with heap:=h',drawn:=d} (.ref a) "set" := fun kp=>by
   obtain ⟨o,ho,hx,_⟩:=T.at';exact ⟨o,kp _ _ ho,hx.1⟩
 have lS:S_<s.heap.objs.size:=Heap.lt_size hS;unfold Builtin.List.listExtendWith;refine wpAny_bind (wpAny_typeOf (T := "set") (ty (h':=s.heap) (d:=s.drawn) fun _ _ e=>e) ?_);have h1:Builtin.List.listSameRef (.ref S_) (.ref a)=false:=by simp [Builtin.List.listSameRef,nS]
 simp only [h1,show (Value.type "set" == Value.type "list")=false by decide,show (Value.type "set" == Value.type "tuple")=false by decide,Bool.or_false,OG,if_false];refine wpAny_bind (ZiO (by simp [hh]) T fun h' d it fp out St W st pm li hf kp=>?_);have nf:S_ ∉ fp:=fun z=>by rcases hf S_ z with e|e;exact nS e;lia
 have key:∀ (h:Heap) (c:Nat),St 0 h->(∀ b o,b≠S_->s.heap.get? b=some o->h.get? b=some o)->h.get? S_=some {cls:=.type "list",data:=.seq #[] c}->codeAny (model prog w) A (.builtin "list.extend.loop" ⟨[.ref S_,.ref it,res],[]⟩) R {s with heap:=h,drawn:=d}:=fun h c st k hS=>by
   refine codeAny_extend_loopS W.toS (fits_of_scanBound T.sz) S_ nf res es.size 0 _ #[] c rfl (Nat.zero_le _) st hS (ItemsOf.nil _) fun s' acc c' m hS' ha=>?_;rw [Moved.eq_with m];refine q s'.heap s'.toks d acc c' out (fun b o nb e=>m.heap b o (fun z=>?_) (k b o nb e)) hS' ha pm;rcases O2.mp z with z|z
   . exact nb z
   . have:=Heap.lt_size e;rw [Ox.mp z] at this;lia
 have hS1:=kp _ _ hS;refine wpAny_bind (wpAny_holding (ZjR (ty kp) ?_));refine wpAny_ite_split (fun _=>?_) (fun _=>wpAny_pure ⟨plainId_quiet PySem.F.plain_extend_loop _,key _ c0 st (fun b o _ e=>kp b o e) hS1⟩);refine wpAny_bind (wpAny_rule (wpAny_bind ?_));show wpAny _ _ (updateSeq S_ (·.push .none) >>= fun _=>updateSeq S_ (·.pop)) _ _ _;refine wpAny_bind (wpAny_updateSeq hS1 rfl ?_);have hS2:=Heap.get?_update_self (Obj.mapSeq (·.push Value.none)) hS1 rfl;refine wpAny_updateSeq (hz:=by seq_fits) hS2 rfl ?_;have hS3:=Heap.get?_update_self (Obj.mapSeq (·.pop)) hS2 rfl;have up:∀ b o,b≠S_->h'.get? b=some o->((h'.update S_ (Obj.mapSeq (·.push Value.none))).update S_ (Obj.mapSeq (·.pop))).get? b=some o:=fun b o nb e=>(Heap.get?_update_other _ _ (Ne.symm nb)).trans ((Heap.get?_update_other _ _ (Ne.symm nb)).trans e);exact wpAny_pure ⟨plainId_quiet PySem.F.plain_extend_loop _,key _ _ (W.frame 0 _ _ st fun b hb o e=>up b o (fun z=>nf (z ▸ hb)) e) (fun b o nb e=>up b o nb (kp b o e)) hS3⟩
end
end L2
end
section
namespace L2
open PySem PySem.Spec PyProof.Rows
theorem Zhf:∀ (out:List Str) (vs:List Value),vs.length=out.length->(∀ (j:Nat) (v:Value),vs[j]? = some v->Tx2 out j v)->StrsAre vs out
 | [],[],_,_=>.nil
 | x::out,v::vs,hl,h=>by
   obtain ⟨y,u,e,rfl⟩:=h 0 v rfl;cases e;exact .cons _ u (Zhf out vs (by simpa using hl) fun j u hu=>h (j+1) u (by simpa using hu))
section
variable {prog:Program}{w:World}{A:Around}{E:Value->Shared->Prop}{s:Shared}{a it tp:Addr}{es:Array (Int×Value)}{ep:Nat}{t:SetTable}{led:Bool}
theorem Zgj{R:List Value->Shared->Prop}(hh:A.handled=none)(T:XSet prog w (ZZ w) s.heap a es ep t)
   (h:∀ (h':Heap) (tk:Nat) (d:Drawn) (vs:List Value) (out:List Str),s.heap.objs.size<=h'.objs.size->(∀ b o,s.heap.get? b=some o->h'.get? b=some o)->StrsAre vs out->out.Perm (kst es)->R vs {s with heap:=h',toks:=tk,drawn:=d}) :
   wpAny (model prog w) A (collect (.ref a)) R E s:=by
 have la:a<s.heap.objs.size:=by obtain ⟨o,ho,_⟩:=T.at';exact Heap.lt_size ho
 unfold collect;refine wpAny_bind (wpAny_runValue (codeAny_builtin entry_proto_collect' ?_));rw [Around.under_plainId PySem.F.plain_proto_collect _];show wpAny _ A.in1 (newList [] >>= fun x=>again (.builtin "list.__iadd__" ⟨[x,.ref a],[]⟩)) _ _ s;refine wpAny_bind (wpAny_newObj_type (wpAny_pure ⟨plainId_quiet PySem.F.plain_list_iadd _,codeAny_builtin entry_list_iadd' ?_⟩));rw [Around.under_plainId PySem.F.plain_list_iadd _];have e0:(s.heap.push {cls:=.type "list",data:=.seq ([]:List Value).toArray}).get? s.heap.objs.size=some {cls:=.type "list",data:=.seq #[]}:=Oj _ rfl;show wpAny _ A.in1 (Builtin.List.listExtendWith (.ref s.heap.objs.size) (.ref a) (.ref s.heap.objs.size)) _ _ _;have key:=ZlD (A:=A) (s:={s with heap:=s.heap.push {cls:=.type "list",data:=.seq ([]:List Value).toArray}})
   (R:=fun (q:Result) (s':Shared)=>∃ (h':Heap) (tk:Nat) (d:Drawn) (acc:Array Value) (c:Nat) (out:List Str),q=.ok (.ret (.ref s.heap.objs.size))/\s'={s with heap:=h',toks:=tk,drawn:=d}/\(∀ b o,s.heap.get? b=some o->h'.get? b=some o)/\h'.get? s.heap.objs.size=some {cls:=.type "list",dict:=none,data:=.seq acc c,slots:=#[]}/\ItemsOf (Tx2 out) acc es.size/\out.Perm (kst es))
   hh (T.keep fun o e=>Od _ e) (S_:=s.heap.objs.size) (res:=.ref s.heap.objs.size) (Nat.ne_of_gt la) e0 fun h' tk d acc c out hk hS ha pm=>⟨h',tk,d,acc,c,out,rfl,rfl,fun b o e=>hk b o (Ou (Heap.lt_size e)) (Od _ e),hS,ha,pm⟩
 have last:∀ (h':Heap) (tk:Nat) (d:Drawn) (acc:Array Value) (c:Nat) (out:List Str),(∀ b o,s.heap.get? b=some o->h'.get? b=some o)->h'.get? s.heap.objs.size=some {cls:=.type "list",dict:=none,data:=.seq acc c,slots:=#[]}->ItemsOf (Tx2 out) acc es.size->out.Perm (kst es)->R acc.toList {s with heap:=h',toks:=tk,drawn:=d}:=fun h' tk d acc c out hk hS ha pm=>by
   refine h h' tk d acc.toList out (Nat.le_of_lt (Heap.lt_size hS)) hk (Zhf _ _ ?_ fun j v hv=>ha.2 j v (by rw [<- Array.getElem?_toList];exact hv)) pm;rw [Array.length_toList,ha.1,pm.length_eq];simp [kst]
 refine wpAny_mono key (fun fin s' x=>?_) fun e s' x=>?_
 . cases fin with
   | done f =>
     obtain ⟨h',tk,d,acc,c,out,e,rfl,hk,hS,ha,pm⟩:=x;cases e;exact wpAny_bind (wpAny_load hS (wpAny_pure (last h' tk d acc c out hk hS ha pm)))
   | again c₁ =>
     refine ⟨x.1,codeAny_mono x.2 fun q s₂ y=>?_⟩;obtain ⟨h',tk,d,acc,c,out,rfl,rfl,hk,hS,ha,pm⟩:=y;exact wpAny_bind (wpAny_load hS (wpAny_pure (last h' tk d acc c out hk hS ha pm)))
 . obtain ⟨_,_,_,_,_,_,z,_⟩:=x;cases z
theorem Zgz{Q:Value->Shared->Prop}(hh:A.handled=none)(T:XSet prog w (ZZ w) s.heap a es ep t)(h64:es.size<64)
   (h:∀ (D:Addr) (h':Heap) (tk:Nat) (d:Drawn) (out:List Value) (ss':List Str) (n:Nat),(∀ b o,s.heap.get? b=some o->h'.get? b=some o)->s.heap.objs.size<=D->h'.get? D=some {cls:=.type "list",data:=.seq out.toArray n}->StrsAre out ss'->ss'.Perm (kst es)->sortedS ss'=true ->
     Q (.ref D) {s with heap:=h',toks:=tk,drawn:=d}):wpAny (model prog w) A (call (.builtin "sorted") [.ref a]) Q E s:=by
 refine Calls.call_function_entry kind_sorted plain_sorted entry_sorted (args_sorted1 _) ?_;unfold Builtin.«sorted»;refine wpAny_bind (m:=checkCount "sorted" 1 1 _) (wpAny_pure (wpAny_bind (Zgj (by simp [hh]) T fun h' tk d vs out hsz hk hS pm=>?_)));have hlen:vs.length=es.size:=by
   have:=(ZT hS).length;rw [List.length_map,pm.length_eq] at this;simpa [kst] using this.symm
 have hz:vs.length<=sizeLine:=by rw [sizeLine_eq];lia
 refine wpAny_bind (wpAny_newList ?_ hz);have hoL:(h'.push (seqObj "list" vs.toArray 0)).get? h'.objs.size=some (seqObj "list" vs.toArray 0):=Oj _ rfl;refine wpAny_bind (wpAny_holding (wpAny_call_entry slot_list_sort ⟨_,hoL,rfl⟩ entry_list_sort (list_sort_treeK strKind_oneLt hoL hS.keysOf (fun v₁ v₂ rest e=>keyKind_strs (by rw [<- e];exact hS)) (by lia) fun st' a1 a2=>⟨_,rfl,?_⟩) (args_list_sort _)));refine wpAny_pure ⟨_,rfl,?_⟩;obtain ⟨ss',h1,h2,h3⟩:=sorted_out_str hS a1 a2;obtain ⟨e,he⟩:=sortedHeap_at (out:=(arrOf st').map (·.2)) hoL;have e2:((arrOf st').map (·.2))=((arrOf st').map (·.2)).toList.toArray:=Array.toArray_toList.symm;refine h h'.objs.size _ tk d ((arrOf st').map (·.2)).toList ss' e (fun b o q=>?_) hsz (by rw [<- e2];exact he) h1 (h2.trans pm) h3;have q':=hk b o q;have hlt:=Heap.lt_size q';rw [sortedHeap_old (Ou hlt) (by rw [size_push'];exact Nat.lt_succ_of_lt hlt)];exact Od _ q'
end
end L2
end
section
namespace L2
open PySem PySem.Spec PyProof.Rows
section
variable {X:Cx}
theorem Inv.dr{pins:List (Addr×Obj)}{Z:St}{H:Hp}{s:Shared}(I:Inv X pins Z H s)(d:Drawn):Inv X pins Z H {s with drawn:=d} :=
 ⟨I.ok,I.os,I.bare,I.base,I.loc,I.cell,I.free,I.freeC,I.pin,I.hok,I.len⟩
noncomputable def ZmP(K:PySem.W.Frag)(te:TE):TE:=fun Z H Q=>te Z H fun x H1=>∃ (a:Addr) (ss:List Str),x=.ref a/\SqL K H1 a (ss.map V.str)/\ss.length+1<scanBound/\(∀ ks:List Str,ks.Nodup->(∀ x,x∈ks↔x∈ss)->ks.length<64) /\
 ∀ (p:Addr) (ss':List Str),H1 p=none->ss'.Nodup->(∀ x,x∈ss'↔x∈ss)->sortedS ss'=true->Q (.ref p) (upd H1 p (.lst (ss'.map V.str)))
theorem Zjr {e:Expr}{te:TE}{p p' q q':Pos} (hc:X.A.handled=none) (hg:Gl X "sorted") (hm:X.mg "sorted" = none) (hg':Gl X "set") (hm':X.mg "set" = none) (he:PE X e te) (hs:starEach [e] X.env=(false,eval e X.env)::starEach [] X.env) :
   PE X (.Call (.Name "sorted" p) [.Call (.Name "set" p') [e] [] q'] [] q) (ZmP X.K te):=by
 intro pins s Z H Q I h;refine wpAny_Call_Name_kw (ZaO I hg hm (by decide +kernel:bootBuiltins "sorted" = some (.builtin "sorted")) ?_);refine PyProof.Rows.callWith_builtin1 (rest:=[]) ?_;show wpAny _ _ (spliced ((false,eval (.Call (.Name "set" p') [e] [] q') X.env)::backTo q (starEach [] X.env))) _ _ s;refine Calls.spliced_cons ?_;refine wpAny_Call_Name_kw (ZaO I hg' hm' (by decide +kernel:bootBuiltins "set" = some (.type "set")) ?_);refine PyProof.Rows.callWith_type1 (rest:=[]) ?_ hs rfl;rw [hs];show wpAny _ _ (spliced ((false,eval e X.env)::backTo q' (starEach [] X.env))) _ _ s;refine Calls.spliced_cons (thn (he pins s Z H _ I h) fun u s1 ⟨x,H1,I1,r1,q1⟩=>Calls.spliced_nil ?_);obtain ⟨a,ss,e0,hq,hb,h64,q2⟩:=q1;subst e0;obtain rfl:u=Value.ref a:=r1;obtain ⟨its,rv,pl,hz⟩:=I1.list hq;refine Zkb hc pl.isList (Zeq rv) hb fun h' tk k kp=>Calls.spliced_nil ?_;obtain ⟨es,ep,t,T,nd,mm,sz⟩:=k;have z64:es.size<64:=by have:=h64 (kst es) nd mm;simpa [kst] using this
 refine Zgz (s:={s1 with heap:=h',toks:=tk}) hc T z64 fun D h'' tk' d out ss' n kp' lD hD st pm srt=>?_;have hlen:ss'.length<=sizeLine:=by rw [pm.length_eq];simp [kst];exact fits_of_scanBound T.sz
 have I2:=(I1.kept (t':=tk) kp).laid (a:=D) (o:=.lst (ss'.map V.str)) (t':=tk') kp' lD (show ZJ X.prog X.w _ h'' _ (.lst (ss'.map V.str)) from ⟨by simpa using hlen,out,n,ZT st,hD⟩);exact ⟨.ref D,_,I2.dr d,rfl,q2 D ss' ((I1.kept (t':=tk) kp).hok.fresh lD) (pm.nodup_iff.mpr nd) (fun x=>by rw [pm.mem_iff,mm]) srt⟩
end
end L2
end
section
set_option tactic.hygienic false
namespace IV
open PySem PySem.Spec PyProof.Rows L2
inductive D where
 | non|bl (b:Bool)|int (i:Int)|str (x:Str)|tup (xs:List D)|ref (i:Nat)|ty (n:String)
 | ro (xs:List D)|kd (x:Str)
inductive DO where
 | lst (xs:List D)|dic (kvs:List (Key×D))|ins (C:Str) (fs:List (Str×D))
 | fdic (kvs:List (Key×D))
noncomputable abbrev Hd:=List DO
inductive R(α:Type) where
 | bad|ok (a:α) (h:Hd)|exc (c:Str) (h:Hd)
noncomputable def R.bind(r:R α)(k:α->Hd->R β):R β:=match r with
 | .bad=>.bad
 | .ok a h=>k a h
 | .exc c h=>.exc c h
theorem R.bind_ok:(R.ok a h).bind k=k a h:=rfl
theorem R.bind_bad:(R.bad:R α).bind k=.bad:=rfl
noncomputable def R.ofO(o:Option α)(h:Hd):R α:=match o with
 | some a=>.ok a h
 | none=>.bad
theorem R.ofO_some:R.ofO (some a) h=.ok a h:=rfl
noncomputable abbrev Ev:=List (Option D)
inductive Bf where
 | len|isi|int|tup|lst|sum|all|srt|mx|sri|lnd|dct
 deriving DecidableEq
inductive Mf where
 | app|ext|pop|rev|clr
 deriving DecidableEq
mutual
inductive Ex where
 | var (i:Nat)|cst (d:D)|glo (x:Str)
 | bin (op:Operator) (a b:Ex)|cmp (op:CmpOp) (a b:Ex)|cmp2 (op op':CmpOp) (a b c:Ex)
 | neg (a:Ex)|nt (a:Ex)|ands (es:Exs)|ors (es:Exs)|ite (c:Tx) (a b:Ex)
 | tupl (es:Exs)|lstl (es:Exs)|ix (a i:Ex)|sl (a:Ex) (lo hi:Option Ex)
 | blt (f:Bf) (es:Exs)|call (f:Str) (es:Exs)|meth (m:Mf) (o:Ex) (es:Exs)
 | comp (NC:List Str) (js:List (Option Nat)) (it:Ix) (g:Tg) (c:Option Tx) (e:Ex)
 | sorts (e:Ex)|dictl (ps:Exs)|maxd (e d:Ex)
 | att (Cs:List Str) (o:Ex) (f:Str)|mk (C:Str) (es:Exs)|mcl (C m:Str) (o:Ex) (es:Exs)|any
 | trev (e:Ex)|tix (o e:Ex)|lrv (e:Ex)|lix (o e:Ex)|lin (a b:Ex)
 | rpn (a b:Ex)
inductive Exs where
 | nil|cons (e:Ex) (es:Exs)
inductive Ix where
 | pl (e:Ex)|rng (e:Ex)|rng2 (a b:Ex)|enu (e:Ex)|rev (e:Ex)
 | en1 (e:Ex)|en0 (e:Ex)|dk (e:Ex)
 | zp (a b:Ex)
 | zl (a b:Ex)
inductive Tg where
 | nm (i:Nat)|two (i j:Nat)|many (is:List Nat)
inductive Tx where
 | ex (e:Ex)|ands (ts:Txs)|ors (ts:Txs)|nt (a:Tx)
inductive Txs where
 | one (t:Tx)|cons (t:Tx) (ts:Txs)
end
mutual
inductive Sx where
 | ret (e:Ex)|set (g:Tg) (e:Ex)|put (o i e:Ex)|aug (i:Nat) (op:Operator) (e:Ex)|drp (e:Ex)
 | iff (c:Tx) (a b:Sxs)|whl (c:Tx) (b:Sxs)|forr (g:Tg) (it:Ix) (b:Sxs)|pas|brk|cnt
 | seta (Cs:List Str) (o:Ex) (f:Str) (e:Ex)|auga (Cs:List Str) (o:Ex) (f:Str) (e:Ex)|any
 | rai (C:Str) (e:Ex)|trs (i:Nat) (f:Str) (es:Exs) (C:Str)
 | unl (i j:Nat) (e:Ex)
 | trw (i n:Nat) (f:Str) (es:Exs) (C W w:Str)
inductive Sxs where
 | nil|cons (s:Sx) (r:Sxs)
end
noncomputable instance:DecidableEq D:=fun a b=>Classical.propDecidable (a=b)
noncomputable instance:DecidableEq DO:=fun a b=>Classical.propDecidable (a=b)
mutual
noncomputable def D.py(rd:Nat->Option PyData):D->Option PyData
 | .non=>some .none
 | .bl b=>some (.bool b)
 | .int i=>some (.int i)
 | .str x=>some (.str x)
 | .tup xs=>(D.pys rd xs).map .tuple
 | .ro xs=>(D.pys rd xs).map .list
 | .ref i=>rd i
 | _=>none
noncomputable def D.pys(rd:Nat->Option PyData):List D->Option (List PyData)
 | []=>some []
 | x::xs=>(D.py rd x).bind fun d=>(D.pys rd xs).map fun ds=>d::ds
end
noncomputable def ZfM(h:Hd):Nat->Nat->Option PyData
 | 0,_=>none
 | n+1,i=>match h[i]? with
   | some (.lst xs)=>(D.pys (ZfM h n) xs).map .list
   | _=>none
noncomputable def ZfP(h:Hd)(d:D):Option PyData:=D.py (ZfM h 4) d
noncomputable def Zao(o:DO)(h:Hd):R D:=.ok (.ref h.length) (h++[o])
noncomputable def lstOf(d:D)(h:Hd):Option (List D):=match d with
 | .ref i=>match h[i]? with
   | some (.lst xs)=>some xs
   | _=>none
 | .ro xs=>some xs
 | _=>none
noncomputable def dicOf(GD:Str->Option (List (Key×D)))(d:D)(h:Hd):Option (List (Key×D)):=match d with
 | .ref i=>match h[i]? with
   | some (.dic kvs)=>some kvs
   | some (.fdic kvs)=>some kvs
   | _=>none
 | .kd x=>GD x
 | _=>none
noncomputable def keyOf:D->Option Key
 | .int i=>some (.inl i)
 | .str x=>some (.inr x)
 | _=>none
noncomputable def Zaj(kvs:List (Key×D))(k:Key):Option D:=(kvs.find? fun p=>decide (p.1=k)).map (·.2)
noncomputable def putD(kvs:List (Key×D))(k:Key)(v:D):List (Key×D) :=
 if (kvs.any fun kv=>decide (kv.1=k))=true then kvs.map (fun kv=>if kv.1=k then (kv.1,v) else kv) else kvs++[(k,v)]
noncomputable def cutD(xs:List D)(lo hi:Option Int):List D:=(xs.drop (HT.sIx xs.length 0 lo)).take (HT.sIx xs.length xs.length hi - HT.sIx xs.length 0 lo)
noncomputable def D.flat:D->Bool
 | .int _|.str _|.bl _|.non=>true
 | _=>false
noncomputable def eqF:D->D->Bool
 | .int i,.int j=>i==j
 | .str i,.str j=>i==j
 | .non,.non=>true
 | .bl i,.bl j=>i==j
 | .int i,.bl j=>i==(if j then 1 else 0)
 | .bl i,.int j=>(if i then 1 else 0)==j
 | _,_=>false
noncomputable def ZbI(GD:Str->Option (List (Key×D)))(d:D)(h:Hd):Option Bool:=match d with
 | .non=>some false
 | .bl b=>some b
 | .int i=>some (i != 0)
 | .str x=>if x.length<=sizeLine then some (!(x.length==0)) else none
 | .tup xs=>some (!xs.isEmpty)
 | .ref i=>match h[i]? with
   | some (.lst xs)=>some (!xs.isEmpty)
   | some (.dic xs)=>some (!xs.isEmpty)
   | _=>none
 | .ro xs=>some (!xs.isEmpty)
 | _=>none
noncomputable def int2(x y:D)(k:Int->Int->R D):R D:=match x with
 | .int i=>match y with
   | .int j=>k i j
   | _=>.bad
 | _=>.bad
noncomputable def Zkh(x y:D)(h:Hd):R D:=match x with
 | .int i=>match y with
   | .int j=>.ok (.int (i+j)) h
   | _=>.bad
 | .str i=>match y with
   | .str j=>if i.length+j.length<=sizeLine then .ok (.str (i++j)) h else .bad
   | _=>.bad
 | .tup xs=>match y with
   | .tup ys=>if xs.length+ys.length<=sizeLine then .ok (.tup (xs++ys)) h else .bad
   | _=>.bad
 | .ref i=>match y with
   | .ref j=>match h[i]? with
     | some (.lst xs)=>match h[j]? with
       | some (.lst ys)=>if xs.length+ys.length<=sizeLine then Zao (.lst (xs++ys)) h else .bad
       | _=>.bad
     | _=>.bad
   | _=>.bad
 | _=>.bad
noncomputable def Zpf(x y:D)(h:Hd):R D:=match x with
 | .str z=>match y with
   | .int n=>if 0<=n/\n<=1000/\z.length<=1000 then .ok (.str (Zcg z n.toNat)) h else .bad
   | _=>.bad
 | x=>int2 x y fun i j=>if i.natAbs<2 ^ 2000/\j.natAbs<2 ^ 2000 then .ok (.int (i * j)) h else .bad
noncomputable def opB(op:Operator)(x y:D)(h:Hd):R D:=match op with
 | .Add=>Zkh x y h
 | .Sub=>int2 x y fun i j=>.ok (.int (i - j)) h
 | .Mult=>Zpf x y h
 | .Mod=>int2 x y fun i j=>if 0<j then .ok (.int (i % j)) h else .bad
 | .FloorDiv=>int2 x y fun i j=>if 0<j/\j<1073741824 then .ok (.int (i / j)) h else .bad
 | .Pow=>int2 x y fun i j=>if 0<=j/\j<=1000000/\i.natAbs<2 ^ 64 then .ok (.int (i ^ j.toNat)) h else .bad
 | _=>.bad
noncomputable def Zam(neg:Bool)(x y:D)(h:Hd):R D:=match ZfP h x,ZfP h y with
 | some a,some b=>if min a.depth b.depth<=1100 then .ok (.bl (if neg then !PyData.eqv a b else PyData.eqv a b)) h else .bad
 | _,_=>.bad
noncomputable def seqOf(d:D)(h:Hd):Option (List D):=match d with
 | .tup xs=>some xs
 | d=>lstOf d h
noncomputable def Zac(GD:Str->Option (List (Key×D)))(neg:Bool)(x y:D)(h:Hd):R D:=match seqOf y h with
 | some xs=>if x.flat&&xs.all D.flat then .ok (.bl (if neg then !xs.any (fun z=>eqF z x) else xs.any fun z=>eqF z x)) h else .bad
 | none=>match dicOf GD y h,keyOf x with
   | some kvs,some k=>.ok (.bl (if neg then !(Zaj kvs k).isSome else (Zaj kvs k).isSome)) h
   | _,_=>.bad
noncomputable def ZeV(f:Int->Int->Bool)(x y:D)(h:Hd):R D:=match x,y with
 | .int i,.int j=>.ok (.bl (f i j)) h
 | _,_=>.bad
noncomputable def opN(neg:Bool)(x y:D)(h:Hd):R D:=match y with
 | .non=>.ok (.bl (if neg then !decide (x=.non) else decide (x=.non))) h
 | _=>.bad
noncomputable def opC(GD:Str->Option (List (Key×D)))(op:CmpOp)(x y:D)(h:Hd):R D:=match op with
 | .Eq=>Zam false x y h
 | .NotEq=>Zam true x y h
 | .Lt=>ZeV (fun i j=>decide (i<j)) x y h
 | .LtE=>ZeV (fun i j=>decide (i<=j)) x y h
 | .Gt=>ZeV (fun i j=>decide (j<i)) x y h
 | .GtE=>ZeV (fun i j=>decide (j<=i)) x y h
 | .In=>Zac GD false x y h
 | .NotIn=>Zac GD true x y h
 | .Is=>opN false x y h
 | .IsNot=>opN true x y h
noncomputable def Zci(GD:Str->Option (List (Key×D)))(x y:D)(h:Hd):R D:=match y with
 | .int i=>match seqOf x h with
   | some xs=>R.ofO (atI xs i) h
   | none=>match x with
     | .str z=>if z.length<=sizeLine then R.ofO ((atI z.cps.toList i).map fun c=>.str ⟨#[c]⟩) h else .bad
     | _=>match dicOf GD x h with
       | some kvs=>R.ofO (Zaj kvs (.inl i)) h
       | none=>.bad
 | .str z=>match dicOf GD x h with
   | some kvs=>R.ofO (Zaj kvs (.inr z)) h
   | none=>.bad
 | _=>.bad
noncomputable def Zim(x:D)(l u:Option Int)(h:Hd):R D:=match x with
 | .tup xs=>.ok (.tup (cutD xs l u)) h
 | .str y=>if y.length<=sizeLine then .ok (.str (StrLaws.sliceText y l u)) h else .bad
 | d=>match lstOf d h with
   | some xs=>Zao (.lst (cutD xs l u)) h
   | none=>.bad
noncomputable def ZmL(d:D)(h:Hd):Option String:=match d with
 | .int _=>some "int"
 | .str _=>some "str"
 | .bl _=>some "bool"
 | .non=>some "NoneType"
 | .tup _=>some "tuple"
 | d=>(lstOf d h).map fun _ => "list"
noncomputable def ZgT (t T:String):Option Bool:=if T∈["int", "str", "bool", "tuple", "list"]/\t∈["int", "str", "bool", "tuple", "list", "NoneType"] then some (t==T || (t == "bool" && T == "int")) else none
noncomputable def intsOf:List D->Option (List Int)
 | []=>some []
 | .int i::r=>(intsOf r).map fun z=>i::z
 | _=>none
noncomputable def Zmx:List D->Option (List Bool)
 | []=>some []
 | .bl i::r=>(Zmx r).map fun z=>i::z
 | _=>none
noncomputable def strsOf:List D->Option (List Str)
 | []=>some []
 | .str i::r=>(strsOf r).map fun z=>i::z
 | _=>none
noncomputable def Za4:List (Key×D)->Option (List Str)
 | []=>some []
 | (.inr x,_)::r=>(Za4 r).map fun z=>x::z
 | _=>none
noncomputable def ZhD:List (Key×D)->Option (List Int)
 | []=>some []
 | (.inl x,_)::r=>(ZhD r).map fun z=>x::z
 | _=>none
noncomputable def ZoQ(x:Int):List Int->List Int
 | []=>[x]
 | y::r=>if y<x then y::ZoQ x r else x::y::r
noncomputable def Zmc:List Int->List Int
 | []=>[]
 | x::r=>ZoQ x (Zmc r)
noncomputable def Zie(x:Str):List Str->List Str
 | []=>[x]
 | y::r=>if ltCps y.cps.toList x.cps.toList then y::Zie x r else x::y::r
noncomputable def Z3:List Str->List Str
 | []=>[]
 | x::r=>Zie x (Z3 r)
noncomputable def ddS:List Str->List Str
 | []=>[]
 | x::r=>if x∈r then ddS r else x::ddS r
noncomputable def Zl1(xs:List D)(h:Hd):R D:=match xs with
 | [.str y]=>if y.length<=sizeLine then .ok (.int y.length) h else .bad
 | [d]=>R.ofO ((seqOf d h).map fun xs=>.int xs.length) h
 | _=>.bad
noncomputable def Zl2(xs:List D)(h:Hd):R D:=match xs with
 | [d,.ty T]=>R.ofO ((ZmL d h).bind fun t=>(ZgT t T).map .bl) h
 | _=>.bad
noncomputable def Zn4(xs:List D)(h:Hd):R D:=match xs with
 | [.int i]=>.ok (.int i) h
 | [.bl b]=>.ok (.int (if b then 1 else 0)) h
 | _=>.bad
noncomputable def Zl0(xs:List D)(h:Hd):R D:=match xs with
 | [.tup xs]=>.ok (.tup xs) h
 | [d]=>R.ofO ((lstOf d h).map .tup) h
 | _=>.bad
noncomputable def Zq6(xs:List D)(h:Hd):R D:=match xs with
 | [d]=>match seqOf d h with
   | some xs=>Zao (.lst xs) h
   | none=>.bad
 | _=>.bad
noncomputable def Zq4(xs:List D)(h:Hd):R D:=match xs with
 | [d]=>R.ofO (((lstOf d h).bind intsOf).map fun ns=>.int ns.sum) h
 | _=>.bad
noncomputable def Zrc(xs:List D)(h:Hd):R D:=match xs with
 | [d]=>R.ofO (((lstOf d h).bind Zmx).map fun bs=>.bl (bs.all id)) h
 | _=>.bad
noncomputable def Zcb(GD:Str->Option (List (Key×D)))(xs:List D)(h:Hd):R D:=match xs with
 | [d]=>match (dicOf GD d h).bind Za4 with
   | some ss=>if ss.length<64/\ss.all PyData.strOk=true then Zao (.lst ((Z3 ss).map .str)) h else .bad
   | none=>.bad
 | _=>.bad
noncomputable def Zq5(GD:Str->Option (List (Key×D)))(xs:List D)(h:Hd):R D:=match xs with
 | [d]=>match (dicOf GD d h).bind ZhD with
   | some ns=>if ns.length<64 then Zao (.lst ((Zmc ns).map .int)) h else .bad
   | none=>.bad
 | _=>.bad
noncomputable def Zq8(GD:Str->Option (List (Key×D)))(xs:List D)(h:Hd):R D:=match xs with
 | [d]=>R.ofO ((dicOf GD d h).map fun kvs=>.int kvs.length) h
 | _=>.bad
noncomputable def Zrb(xs:List D)(h:Hd):R D:=match xs with
 | [.ref i]=>match h[i]? with
   | some (.dic kvs)=>Zao (.dic kvs) h
   | _=>.bad
 | _=>.bad
noncomputable def ZmA(x d:D)(h:Hd):R D:=match d with
 | .int d=>R.ofO (((lstOf x h).bind intsOf).map fun ns=>.int (Zph ns d)) h
 | _=>.bad
noncomputable def bMx(xs:List D)(h:Hd):R D:=match xs with
 | [.int i,.int j]=>.ok (.int (if j > i then j else i)) h
 | [d]=>match (lstOf d h).bind intsOf with
   | some ns=>if ns≠[] then .ok (.int (Zph ns 0)) h else .bad
   | none=>.bad
 | _=>.bad
noncomputable def ZdT(GD:Str->Option (List (Key×D))):Bf->List D->Hd->R D
 | .len=>Zl1
 | .isi=>Zl2
 | .int=>Zn4
 | .tup=>Zl0
 | .lst=>Zq6
 | .sum=>Zq4
 | .all=>Zrc
 | .srt=>Zcb GD
 | .mx=>bMx
 | .sri=>Zq5 GD
 | .lnd=>Zq8 GD
 | .dct=>Zrb
noncomputable def Zmz(x:D)(h:Hd):R D:=match x with
 | .tup (y::ys)=>.ok (.tup (y::ys).reverse) h
 | _=>.bad
noncomputable def Zq7(x:D)(h:Hd):R D:=match x with
 | .tup ys=>Zao (.lst ys.reverse) h
 | _=>.bad
noncomputable def Zpt:D->Bool
 | .tup _=>true
 | _=>false
noncomputable def ZpL(x y:D)(h:Hd):R D:=match x,y with
 | .tup xs,.str z=>match strsOf xs with
   | some ss=>R.ofO ((Tx.place z ss).map fun (j:Nat)=>.int (j:Int)) h
   | none=>.bad
 | _,_=>.bad
noncomputable def Zq9(x y:D)(h:Hd):R D:=match lstOf x h,y with
 | some xs,.str z=>match strsOf xs with
   | some ss=>R.ofO ((Tx.place z ss).map fun (j:Nat)=>.int (j:Int)) h
   | none=>.bad
 | _,_=>.bad
noncomputable def Zra(x y:D)(h:Hd):R D:=match ZfP h x,ZfP h y with
 | some a,some (.list bs)=>if min (PyData.depthAll bs) a.depth<=1000 then .ok (.bl (bs.any fun b=>PyData.eqv b a)) h else .bad
 | _,_=>.bad
noncomputable def ZbK:List D->Option (List (Key×D))
 | []=>some []
 | k::v::r=>match keyOf k,ZbK r with
   | some k,some r=>some ((k,v)::r)
   | _,_=>none
 | _=>none
noncomputable def Zck(kvs more:List (Key×D)):List (Key×D):=more.foldl (fun acc kv=>putD acc kv.1 kv.2) kvs
noncomputable def ZjF(i:Nat)(ys xs:List D)(h:Hd):R D:=match xs with
 | [d]=>if ys.length<sizeLine then .ok .non (h.set i (.lst (ys++[d]))) else .bad
 | _=>.bad
noncomputable def ZnA(i:Nat)(ys xs:List D)(h:Hd):R D:=match xs with
 | [.ref j]=>match h[j]? with
   | some (.lst zs)=>if ys.length+zs.length<=sizeLine then .ok .non (h.set i (.lst (ys++zs))) else .bad
   | _=>.bad
 | [.tup zs]=>if ys.length+zs.length<=sizeLine then .ok .non (h.set i (.lst (ys++zs))) else .bad
 | _=>.bad
noncomputable def Znz(i:Nat)(ys xs:List D)(h:Hd):R D:=match xs with
 | []=>match ys[ys.length - 1]? with
   | some y=>.ok y (h.set i (.lst ys.dropLast))
   | none=>.bad
 | _=>.bad
noncomputable def Zpi(i:Nat)(ys xs:List D)(h:Hd):R D:=match xs with
 | []=>.ok .non (h.set i (.lst ys.reverse))
 | _=>.bad
noncomputable def Zpj(i:Nat)(ys xs:List D)(h:Hd):R D:=match xs with
 | []=>.ok .non (h.set i (.lst []))
 | _=>.bad
noncomputable def shD(x:D)(h:Hd):R Str:=match ZfP h x with
 | some d=>if L2.Zqn d=true then .ok d.shown h else .bad
 | none=>.bad
noncomputable def Zd2:Mf->Nat->List D->List D->Hd->R D
 | .app=>ZjF
 | .ext=>ZnA
 | .pop=>Znz
 | .rev=>Zpi
 | .clr=>Zpj
noncomputable def Zap(m:Mf)(o:D)(xs:List D)(h:Hd):R D:=match o with
 | .ref i=>match h[i]? with
   | some (.lst ys)=>Zd2 m i ys xs h
   | _=>.bad
 | _=>.bad
noncomputable def ZbW(o:D)(h:Hd):Bool:=match o with
 | .ref i=>match h[i]? with
   | some (.lst _)=>true
   | _=>false
 | _=>false
noncomputable def ZaK(o i v:D)(h:Hd):R Unit:=match o with
 | .ref a=>match h[a]? with
   | some (.lst xs)=>match i with
     | .int k=>match ixN xs.length k with
       | some j=>.ok () (h.set a (.lst (xs.set j v)))
       | none=>.bad
     | _=>.bad
   | some (.dic kvs)=>match keyOf i with
     | some k=>if kvs.length<sizeLine then .ok () (h.set a (.dic (putD kvs k v))) else .bad
     | none=>.bad
   | _=>.bad
 | _=>.bad
structure Wk where
 src:List (Nat×List D)
 xs:List D
noncomputable def Wk.stays:List (Nat×List D)->Hd->Bool
 | [],_=>true
 | (i,xs)::r,h=>decide (h[i]? = some (.lst xs))&&Wk.stays r h
noncomputable def Zdh(d:D)(h:Hd):Option Wk:=match d with
 | .tup xs=>some ⟨[],xs⟩
 | .ro xs=>some ⟨[],xs⟩
 | .ref i=>match h[i]? with
   | some (.lst xs)=>some ⟨[(i,xs)],xs⟩
   | _=>none
 | _=>none
noncomputable def ZfD(d:D)(h:Hd):Option Wk:=match d with
 | .ro xs=>some ⟨[],xs⟩
 | .ref i=>match h[i]? with
   | some (.lst xs)=>some ⟨[(i,xs)],xs⟩
   | _=>none
 | _=>none
noncomputable def ZiP(d:D)(h:Hd):Option Wk:=match d with
 | .tup xs=>some ⟨[],xs⟩
 | .ref i=>match h[i]? with
   | some (.lst xs)=>some ⟨[(i,xs)],xs⟩
   | _=>none
 | _=>none
noncomputable def ZR(lo:Int)(n:Nat):List D:=(List.range n).map fun (k:Nat)=>.int (lo+(k:Int))
noncomputable def ZaS(xs:List D):List D:=xs.mapIdx fun k x=>.tup [.int (k:Int),x]
noncomputable def ZnX(xs:List D):List D:=xs.mapIdx fun k x=>.tup [.int ((k+1:Nat):Int),x]
noncomputable def Zog(xs ys:List D):List D:=List.zipWith (fun x y=>.tup [x,y]) xs ys
noncomputable def Zpp:Key->D
 | .inl i=>.int i
 | .inr x=>.str x
noncomputable def zpD(x y:D)(h:Hd):R Wk:=match x with
 | .tup xs=>match y with
   | .tup ys=>if xs.length=ys.length then .ok ⟨[],Zog xs ys⟩ h else .bad
   | _=>.bad
 | _=>.bad
noncomputable def zlD(x y:D)(h:Hd):R Wk:=match x with
 | .ref i=>match y with
   | .ref j=>match h[i]? with
     | some (.lst xs)=>match h[j]? with
       | some (.lst ys)=>if xs.length=ys.length then .ok ⟨[(i,xs),(j,ys)],Zog xs ys⟩ h else .bad
       | _=>.bad
     | _=>.bad
   | _=>.bad
 | _=>.bad
noncomputable def ZqQ(x:D)(h:Hd):R Wk:=match x with
 | .ref i=>match h[i]? with
   | some (.dic kvs)=>.ok ⟨[],kvs.map fun p=>Zpp p.1⟩ (h.set i (.fdic kvs))
   | some (.fdic kvs)=>.ok ⟨[],kvs.map fun p=>Zpp p.1⟩ h
   | _=>.bad
 | _=>.bad
noncomputable def Zab(i:Int):Bool:=decide (-(2 ^ 62)<=i)&&decide (i<2 ^ 62)
noncomputable def ZgD:List Nat->List D->Ev->Ev
 | i::is,x::xs,S=>ZgD is xs (S.set i (some x))
 | _,_,S=>S
noncomputable def Zas(g:Tg)(d:D)(S:Ev):Option Ev:=match g with
 | .nm i=>some (S.set i (some d))
 | .two i j=>match d with
   | .tup [a,b]=>some ((S.set i (some a)).set j (some b))
   | _=>none
 | .many is=>match d with
   | .tup xs=>if xs.length=is.length then some (ZgD is xs S) else none
   | _=>none
noncomputable def ZcR(js:List (Option Nat))(S:Ev):Ev:=js.map fun o=>o.bind fun j=>(S[j]?).join
inductive Fl where
 | nx|bk|ct|rt (d:D)
noncomputable def ZL(src:List (Nat×List D))(g:Tg)(body:Ev->Hd->R (Fl×Ev)):List D->Ev->Hd->R (Fl×Ev)
 | [],S,h=>if Wk.stays src h then .ok (.nx,S) h else .bad
 | d::ds,S,h=>if Wk.stays src h then match Zas g d S with
     | none=>.bad
     | some ρ1=>(body ρ1 h).bind fun p h2=>match p with
       | (.nx,ρ2)=>ZL src g body ds ρ2 h2
       | (.ct,ρ2)=>ZL src g body ds ρ2 h2
       | (.bk,ρ2)=>.ok (.nx,ρ2) h2
       | (.rt d,ρ2)=>.ok (.rt d,ρ2) h2
   else .bad
noncomputable def ZO(test:Ev->Hd->R Bool)(body:Ev->Hd->R (Fl×Ev)):Nat->Ev->Hd->R (Fl×Ev)
 | 0,_,_=>.bad
 | n+1,S,h=>(test S h).bind fun b h1=>if b then (body S h1).bind fun p h2=>match p with
     | (.nx,ρ2)=>ZO test body n ρ2 h2
     | (.ct,ρ2)=>ZO test body n ρ2 h2
     | (.bk,ρ2)=>.ok (.nx,ρ2) h2
     | (.rt d,ρ2)=>.ok (.rt d,ρ2) h2
   else .ok (.nx,S) h1
@[reducible] def R.plain:R α->R α
 | .exc _ _=>.bad
 | r=>r
noncomputable def Zv(src:List (Nat×List D))(g:Tg)(test:Ev->Hd->R Bool)(elt:Ev->Hd->R D):List D->Ev->List D->Hd->R (List D)
 | [],_,acc,h=>if Wk.stays src h then .ok acc h else .bad
 | d::ds,S,acc,h=>if Wk.stays src h/\acc.length<sizeLine then match Zas g d S with
     | none=>.bad
     | some ρ1=>(test ρ1 h).plain.bind fun b h1=>if b then (elt ρ1 h1).plain.bind fun x h2=>Zv src g test elt ds S (acc++[x]) h2 else Zv src g test elt ds S acc h1
   else .bad
noncomputable def Zn1(C:Str)(i:Nat)(S:Ev)(r:R D):R (Fl×Ev):=match r with
 | .bad=>.bad
 | .ok v h=>.ok (.nx,S.set i (some v)) h
 | .exc c h=>if c=C then .ok (.nx,S.set i (some .non)) h else .bad
noncomputable def Zn0(W w:Str)(i n:Nat)(S:Ev)(r:R D):R (Fl×Ev):=match r with
 | .bad=>.bad
 | .ok v h=>.ok (.nx,S.set i (some v)) h
 | .exc c h=>if c=W then .ok (.nx,((S.set n none).set i (some (.ref h.length))).set n none) (h++[.lst [.str w,.bl true]]) else .bad
noncomputable def mnm (C m:Str):Str:=C++(O "." ++ m)
noncomputable def Zbh(d:D)(h:Hd):Option (Str×List (Str×D)):=match d with
 | .ref i=>match h[i]? with
   | some (.ins C fs)=>some (C,fs)
   | _=>none
 | _=>none
noncomputable def ZiB(Cs:List Str)(f:Str)(x:D)(h:Hd):R D:=match Zbh x h with
 | some (C,fs)=>if C∈Cs then R.ofO (fs.lookup f) h else .bad
 | none=>.bad
noncomputable def ZoR(f:Str)(v:D):List (Str×D)->List (Str×D)
 | []=>[(f,v)]
 | (g,x)::r=>if g=f then (g,v)::r else (g,x)::ZoR f v r
noncomputable def ZkA(Cs:List Str)(f:Str)(x d:D)(h:Hd):R D:=match x with
 | .ref i=>match h[i]? with
   | some (.ins C fs)=>if C∈Cs/\fs.length<1000 then .ok .non (h.set i (.ins C (ZoR f d fs))) else .bad
   | _=>.bad
 | _=>.bad
noncomputable def Zpd (Cf:Str->List D->Hd->R D) (C:Str) (xs:List D) (h:Hd):R D:=(Cf (mnm C (O "__init__")) (.ref h.length::xs) (h++[.ins C []])).bind fun d h2=>match d with
 | .non=>.ok (.ref h.length) h2
 | _=>.bad
structure Tb where
 G:Str->Option D
 GD:Str->Option (List (Key×D))
 C:Str->List D->Hd->R D
 L:Nat
mutual
noncomputable def ev(T:Tb):Ex->Ev->Hd->R D
 | .var i,S,h=>R.ofO (S[i]?).join h
 | .cst d,_,h=>.ok d h
 | .glo x,_,h=>R.ofO (T.G x) h
 | .bin op a b,S,h=>(ev T a S h).bind fun x h1=>(ev T b S h1).bind fun y h2=>opB op x y h2
 | .cmp op a b,S,h=>(ev T a S h).bind fun x h1=>(ev T b S h1).bind fun y h2=>opC T.GD op x y h2
 | .cmp2 op op' a b c,S,h=>(ev T a S h).bind fun x h1=>(ev T b S h1).bind fun y h2=>(opC T.GD op x y h2).bind fun r h3=>match r with
   | .bl true=>(ev T c S h3).bind fun z h4=>opC T.GD op' y z h4
   | .bl false=>.ok (.bl false) h3
   | _=>.bad
 | .neg a,S,h=>(ev T a S h).bind fun x h1=>match x with
   | .int i=>.ok (.int (-i)) h1
   | _=>.bad
 | .nt a,S,h=>(ev T a S h).bind fun x h1=>match x with
   | .bl b=>.ok (.bl (!b)) h1
   | _=>.bad
 | .ands es,S,h=>evAnd T es S h
 | .ors es,S,h=>evOr T es S h
 | .ite c a b,S,h=>(tst T c S h).bind fun c h1=>if c then ev T a S h1 else ev T b S h1
 | .tupl es,S,h=>(evs T es S h).bind fun xs h1=>if xs.length<=sizeLine then .ok (.tup xs) h1 else .bad
 | .lstl es,S,h=>(evs T es S h).bind fun xs h1=>if xs.length<=sizeLine then Zao (.lst xs) h1 else .bad
 | .ix a i,S,h=>(ev T a S h).bind fun x h1=>(ev T i S h1).bind fun y h2=>Zci T.GD x y h2
 | .sl a lo hi,S,h=>(ev T a S h).bind fun x h1=>(evo T lo S h1).bind fun l h2=>(evo T hi S h2).bind fun u h3=>Zim x l u h3
 | .blt f es,S,h=>(evs T es S h).bind fun xs h1=>ZdT T.GD f xs h1
 | .call f es,S,h=>(evs T es S h).bind fun xs h1=>T.C f xs h1
 | .meth m o es,S,h=>(ev T o S h).bind fun x h1=>if ZbW x h1 then (evs T es S h1).bind fun xs h2=>Zap m x xs h2 else .bad
 | .comp _ js it g c e,S,h=>(evi T it S h).bind fun w h1=>(Zv w.src g (tsto T c) (ev T e) w.xs (ZcR js S) [] h1).bind fun xs h2=>Zao (.lst xs) h2
 | .sorts e,S,h=>(ev T e S h).bind fun x h1=>match (lstOf x h1).bind strsOf with
   | some ss=>if ss.length<4000/\(ddS ss).length<64/\ss.all PyData.strOk=true then Zao (.lst ((Z3 (ddS ss)).map .str)) h1 else .bad
   | none=>.bad
 | .maxd e d,S,h=>(ev T e S h).bind fun x h1=>(ev T d S h1).bind fun y h2=>ZmA x y h2
 | .dictl ps,S,h=>(evs T ps S h).bind fun xs h1=>match ZbK xs with
   | some kvs=>if kvs.length<=15 then Zao (.dic (Zck [] kvs)) h1 else .bad
   | none=>.bad
 | .att Cs o f,S,h=>(ev T o S h).bind fun x h1=>ZiB Cs f x h1
 | .mk C es,S,h=>(evs T es S h).bind fun xs h1=>Zpd T.C C xs h1
 | .mcl C m o es,S,h=>(ev T o S h).bind fun x h1=>match Zbh x h1 with
   | some (C',fs)=>if C'=C/\fs.lookup m=none then (evs T es S h1).bind fun xs h2=>T.C (mnm C m) (x::xs) h2 else .bad
   | none=>.bad
 | .any,_,_=>.bad
 | .trev e,S,h=>(ev T e S h).bind fun x h1=>Zmz x h1
 | .lrv e,S,h=>(ev T e S h).bind fun x h1=>Zq7 x h1
 | .tix o e,S,h=>(ev T o S h).bind fun x h1=>if Zpt x then (ev T e S h1).bind fun y h2=>ZpL x y h2 else .bad
 | .lix o e,S,h=>(ev T o S h).bind fun x h1=>if ZbW x h1 then (ev T e S h1).bind fun y h2=>Zq9 x y h2 else .bad
 | .lin a b,S,h=>(ev T a S h).bind fun x h1=>(ev T b S h1).bind fun y h2=>Zra x y h2
 | .rpn a b,S,h=>(ev T a S h).bind fun x h1=>(shD x h1).bind fun p h1=>(ev T b S h1).bind fun y h2=>(shD y h2).bind fun q h3=>.ok (.bl (!decide (p=q))) h3
noncomputable def evs(T:Tb):Exs->Ev->Hd->R (List D)
 | .nil,_,h=>.ok [] h
 | .cons e es,S,h=>(ev T e S h).bind fun x h1=>(evs T es S h1).bind fun xs h2=>.ok (x::xs) h2
noncomputable def evAnd(T:Tb):Exs->Ev->Hd->R D
 | .nil,_,_=>.bad
 | .cons e es,S,h=>match es with
   | .nil=>ev T e S h
   | .cons _ _=>(ev T e S h).bind fun x h1=>match x with
     | .bl true=>evAnd T es S h1
     | .bl false=>.ok (.bl false) h1
     | _=>.bad
noncomputable def evOr(T:Tb):Exs->Ev->Hd->R D
 | .nil,_,_=>.bad
 | .cons e es,S,h=>match es with
   | .nil=>ev T e S h
   | .cons _ _=>(ev T e S h).bind fun x h1=>match x with
     | .bl true=>.ok (.bl true) h1
     | .bl false=>evOr T es S h1
     | _=>.bad
noncomputable def evo(T:Tb):Option Ex->Ev->Hd->R (Option Int)
 | none,_,h=>.ok none h
 | some e,S,h=>(ev T e S h).bind fun x h1=>match x with
   | .int i=>.ok (some i) h1
   | _=>.bad
noncomputable def tst(T:Tb):Tx->Ev->Hd->R Bool
 | .ex e,S,h=>(ev T e S h).bind fun x h1=>R.ofO (ZbI T.GD x h1) h1
 | .ands ts,S,h=>tstAnd T ts S h
 | .ors ts,S,h=>tstOr T ts S h
 | .nt a,S,h=>(tst T a S h).bind fun c h1=>.ok (!c) h1
noncomputable def tstAnd(T:Tb):Txs->Ev->Hd->R Bool
 | .one t,S,h=>tst T t S h
 | .cons t ts,S,h=>(tst T t S h).bind fun c h1=>if c then tstAnd T ts S h1 else .ok false h1
noncomputable def tstOr(T:Tb):Txs->Ev->Hd->R Bool
 | .one t,S,h=>tst T t S h
 | .cons t ts,S,h=>(tst T t S h).bind fun c h1=>if c then .ok true h1 else tstOr T ts S h1
noncomputable def tsto(T:Tb):Option Tx->Ev->Hd->R Bool
 | none,_,h=>.ok true h
 | some e,S,h=>tst T e S h
noncomputable def evi(T:Tb):Ix->Ev->Hd->R Wk
 | .pl e,S,h=>(ev T e S h).bind fun x h1=>R.ofO (Zdh x h1) h1
 | .rng e,S,h=>(ev T e S h).bind fun x h1=>match x with
   | .int j=>if Zab j then .ok ⟨[],ZR 0 j.toNat⟩ h1 else .bad
   | _=>.bad
 | .rng2 a b,S,h=>(ev T a S h).bind fun x h1=>(ev T b S h1).bind fun y h2=>match x,y with
   | .int i,.int j=>if Zab i&&Zab j then .ok ⟨[],ZR i (j - i).toNat⟩ h2 else .bad
   | _,_=>.bad
 | .enu e,S,h=>(ev T e S h).bind fun x h1=>R.ofO ((ZfD x h1).map fun w=>⟨w.src,ZaS w.xs⟩) h1
 | .rev e,S,h=>(ev T e S h).bind fun x h1=>R.ofO ((ZiP x h1).map fun w=>⟨w.src,w.xs.reverse⟩) h1
 | .en1 e,S,h=>(ev T e S h).bind fun x h1=>match x with
   | .tup xs=>.ok ⟨[],ZnX xs⟩ h1
   | _=>.bad
 | .en0 e,S,h=>(ev T e S h).bind fun x h1=>match x with
   | .tup xs=>.ok ⟨[],ZaS xs⟩ h1
   | _=>.bad
 | .dk e,S,h=>(ev T e S h).bind fun x h1=>ZqQ x h1
 | .zp a b,S,h=>(ev T a S h).bind fun x h1=>(ev T b S h1).bind fun y h2=>zpD x y h2
 | .zl a b,S,h=>(ev T a S h).bind fun x h1=>(ev T b S h1).bind fun y h2=>zlD x y h2
end
noncomputable def Zp7(i j:Nat)(S:Ev)(x:D)(h:Hd):R (Fl×Ev):=match lstOf x h with
 | some [a,b]=>.ok (.nx,(S.set i (some a)).set j (some b)) h
 | _=>.bad
mutual
noncomputable def xs1(T:Tb):Sx->Ev->Hd->R (Fl×Ev)
 | .ret e,S,h=>(ev T e S h).bind fun x h1=>.ok (.rt x,S) h1
 | .set g e,S,h=>(ev T e S h).bind fun x h1=>(R.ofO (Zas g x S) h1).bind fun ρ1 h2=>.ok (.nx,ρ1) h2
 | .put o i e,S,h=>(ev T e S h).bind fun x h1=>(ev T o S h1).bind fun y h2=>(ev T i S h2).bind fun z h3=>(ZaK y z x h3).bind fun _ h4=>.ok (.nx,S) h4
 | .aug i op e,S,h=>(R.ofO (S[i]?).join h).bind fun x h1=>(ev T e S h1).bind fun y h2=>match op,x,y with
   | .Add,.int a,.int b=>.ok (.nx,S.set i (some (.int (a+b)))) h2
   | _,_,_=>.bad
 | .drp e,S,h=>(ev T e S h).bind fun _ h1=>.ok (.nx,S) h1
 | .iff c a b,S,h=>(tst T c S h).bind fun t h1=>if t then xs2 T a S h1 else xs2 T b S h1
 | .whl c b,S,h=>ZO (tst T c) (xs2 T b) T.L S h
 | .forr g it b,S,h=>(evi T it S h).bind fun w h1=>ZL w.src g (xs2 T b) w.xs S h1
 | .pas,S,h=>.ok (.nx,S) h
 | .brk,S,h=>.ok (.bk,S) h
 | .cnt,S,h=>.ok (.ct,S) h
 | .seta Cs o f e,S,h=>(ev T e S h).bind fun d h1=>(ev T o S h1).bind fun x h2=>(ZkA Cs f x d h2).bind fun _ h3=>.ok (.nx,S) h3
 | .auga Cs o f e,S,h=>(ev T o S h).bind fun x h1=>(ZiB Cs f x h1).bind fun v h2=>(ev T e S h2).bind fun y h3=>match v,y with
   | .int a,.int b=>if (Zbh x h1).map (·.1)=(Zbh x h3).map (·.1) then (ZkA Cs f x (.int (a+b)) h3).bind fun _ h4=>.ok (.nx,S) h4 else .bad
   | _,_=>.bad
 | .any,_,_=>.bad
 | .rai C e,S,h=>(ev T e S h).bind fun _ h1=>.exc C h1
 | .trs i f es C,S,h=>(evs T es S h).plain.bind fun xs h1=>Zn1 C i S (T.C f xs h1)
 | .unl i j e,S,h=>(ev T e S h).bind fun x h1=>Zp7 i j S x h1
 | .trw i n f es _ W w,S,h=>(evs T es S h).plain.bind fun xs h1=>Zn0 W w i n S (T.C f xs h1)
noncomputable def xs2(T:Tb):Sxs->Ev->Hd->R (Fl×Ev)
 | .nil,S,h=>.ok (.nx,S) h
 | .cons s r,S,h=>(xs1 T s S h).bind fun p h1=>match p with
   | (.nx,ρ1)=>xs2 T r ρ1 h1
   | p=>.ok p h1
end
structure Fd where
 ps:List Str
 N:List Str
 body:Sxs
structure Pg where
 tb:List (Str×Fd)
 G:Str->Option D
 GD:Str->Option (List (Key×D))
 L:Nat
 ms:List (Str×Fd):=[]
noncomputable def Pg.look(P:Pg)(f:Str):Option Fd:=match P.tb.lookup f with
 | some fd=>some fd
 | none=>P.ms.lookup f
noncomputable def ZbJ(N:List Str)(ds:List D):Ev:=ds.map some++List.replicate (N.length - ds.length) none
noncomputable def Zm:R (Fl×Ev)->R D
 | .ok (.rt d,_) h=>.ok d h
 | .ok (.nx,_) h=>.ok .non h
 | .exc c h=>.exc c h
 | _=>.bad
noncomputable def run(P:Pg):Nat->Str->List D->Hd->R D
 | 0,_,_,_=>.bad
 | n+1,f,ds,h=>match P.look f with
   | none=>.bad
   | some fd=>if ds.length=fd.ps.length then Zm (xs2 ⟨P.G,P.GD,run P n,P.L⟩ fd.body (ZbJ fd.N ds) h) else .bad
noncomputable def Pg.tbl(P:Pg)(n:Nat):Tb:=⟨P.G,P.GD,run P n,P.L⟩
end IV
end
section
set_option tactic.hygienic false
namespace IV
open PySem PySem.Spec PyProof.Rows L2
noncomputable def FzL(K:PySem.W.Frag)(H:Hp)(a:Addr)(xs:List V):Prop :=
 (∃ o,H a=some (.frz o (.lst xs)))\/∃ (o:Obj) (its:Array Value) (n:Nat),K.lookup a=some o/\o.cls=.type "list" /\ o.dict=none/\o.data=.seq its n/\its.size<=sizeLine/\Zd xs its.toList
theorem FzL.sq{K:PySem.W.Frag}(h:FzL K H a xs):SqL K H a xs:=h.elim (fun ⟨o,h⟩=>.inl (.inr ⟨o,h⟩)) .inr
structure Yx where
 K:PySem.W.Frag
 mg:Str->Option Value
mutual
inductive RD(Y:Yx)(H:Hp)(B:List Addr):D->V->Prop
 | non:RD Y H B .non .non
 | bl (b:Bool):RD Y H B (.bl b) (.bl b)
 | int (i:Int):RD Y H B (.int i) (.int i)
 | str (x:Str) (ok:PyData.strOk x=true):RD Y H B (.str x) (.str x)
 | tup {a:Addr}{vs:List V}{ds:List D}:SqT Y.K H a vs->RDs Y H B ds vs->RD Y H B (.tup ds) (.ref a)
 | ref {i:Nat}{a:Addr}:B[i]? = some a->RD Y H B (.ref i) (.ref a)
 | ty (n:String):RD Y H B (.ty n) (.ty n)
 | ro {a:Addr}{vs:List V}{ds:List D}:FzL Y.K H a vs->RDs Y H B ds vs->RD Y H B (.ro ds) (.ref a)
 | kd {x:Str}{a:Addr}:Y.mg x=some (.ref a)->RD Y H B (.kd x) (.ref a)
inductive RDs(Y:Yx)(H:Hp)(B:List Addr):List D->List V->Prop
 | nil:RDs Y H B [] []
 | cons {d:D}{v:V}{ds:List D}{vs:List V}:RD Y H B d v->RDs Y H B ds vs->RDs Y H B (d::ds) (v::vs)
end
inductive RKs(Y:Yx)(H:Hp)(B:List Addr){κ:Type}:List (κ×D)->List (κ×V)->Prop
 | nil:RKs Y H B [] []
 | cons {k:κ}{d:D}{v:V}{ds:List (κ×D)}{vs:List (κ×V)}:RD Y H B d v->RKs Y H B ds vs->RKs Y H B ((k,d)::ds) ((k,v)::vs)
noncomputable def RO(Y:Yx)(H:Hp)(B:List Addr)(a:Addr):DO->Prop
 | .lst ds=>∃ vs,H a=some (.lst vs)/\RDs Y H B ds vs
 | .dic kvs=>∃ kvs',H a=some (.dK kvs')/\RKs Y H B kvs kvs'
 | .ins C fs=>∃ Ca dx fs',H a=some (.ins Ca dx fs')/\Y.mg C=some (.ref Ca)/\RKs Y H B fs fs'
 | .fdic kvs=>∃ o kvs',H a=some (.frz o (.dK kvs'))/\RKs Y H B kvs kvs'
noncomputable def ZaB(kvs:List (Key×D)):Prop:=∀ p∈kvs,∀ x,p.1=.inr x->PyData.strOk x=true
noncomputable def DOk:DO->Prop
 | .dic kvs=>ZaB kvs
 | .fdic kvs=>ZaB kvs
 | _=>True
structure RH(Y:Yx)(H:Hp)(B:List Addr)(h:Hd):Prop where
 len:h.length=B.length
 nd:B.Nodup
 ob:∀ (i:Nat) (o:DO) (a:Addr),h[i]? = some o->B[i]? = some a->RO Y H B a o
 ks:∀ (i:Nat) (o:DO),h[i]? = some o->DOk o
structure Gr(H:Hp)(B:List Addr)(H':Hp)(μ':List Addr):Prop where
 pre:∀ (i:Nat) (a:Addr),B[i]? = some a->μ'[i]? = some a
 new:∀ a∈μ',a∈B\/H a=none
 keep:∀ b o,b ∉ B->H b=some o->H' b=some o
 fz:∀ b o u,H b=some (.frz o u)->H' b=some (.frz o u)
theorem Gr.refl:Gr H B H B:=⟨fun _ _ h=>h,fun _ h=>.inl h,fun _ _ _ h=>h,fun _ _ _ h=>h⟩
theorem Gr.trans(a:Gr H B H1 μ1)(b:Gr H1 μ1 H2 μ2):Gr H B H2 μ2:=by
 refine ⟨fun i x h=>b.pre i x (a.pre i x h),fun x hx=>?_,fun x o hx h=>?_,fun x o u h=>b.fz x o u (a.fz x o u h)⟩
 . rcases b.new x hx with h|h
   . exact a.new x h
   . by_cases hm:x∈B
     . exact .inl hm
     . cases q:H x with
       | none=>exact .inr rfl
       | some o=>rw [a.keep x o hm q] at h;cases h
 . refine b.keep x o (fun hm=>?_) (a.keep x o hx h);rcases a.new x hm with z|z
   . exact hx z
   . rw [h] at z;cases z
noncomputable def Mu:Option HO->Prop
 | some (.lst _)|some (.dK _)|some (.ins _ _ _)|some (.frz _ (.dK _))=>True
 | _=>False
theorem RO.mut(h:RO Y H B a o):Mu (H a):=by
 cases o with
 | lst ds=>obtain ⟨vs,e,_⟩:=h;rw [e];trivial
 | dic ds=>obtain ⟨vs,e,_⟩:=h;rw [e];trivial
 | ins C ds=>obtain ⟨_,_,_,e,_⟩:=h;rw [e];trivial
 | fdic ds=>obtain ⟨_,_,e,_⟩:=h;rw [e];trivial
theorem RH.mem(r:RH Y H B h)(ha:a∈B):∃ (i:Nat) (o:DO),B[i]? = some a/\h[i]? = some o/\RO Y H B a o:=by
 obtain ⟨i,hi⟩:=List.mem_iff_getElem?.mp ha;have hl:i<h.length:=by
   rw [r.len];exact (Ob.mp hi).1
 exact ⟨i,h[i],hi,Og hl,r.ob i _ a (Og hl) hi⟩
theorem RH.mut(r:RH Y H B h)(ha:a∈B):Mu (H a):=let ⟨_,_,_,_,q⟩:=r.mem ha;q.mut
theorem Gr.rdT(r:RH Y H B h)(g:Gr H B H' μ')(t:SqT Y.K H a xs):SqT Y.K H' a xs:=by
 rcases t with t|t
 . rcases t with t|⟨o,t⟩
   . exact .inl (.inl (g.keep a _ (fun hm=>by have:=r.mut hm;rw [t] at this;exact this) t))
   . exact .inl (.inr ⟨o,g.fz a _ _ t⟩)
 . exact .inr t
theorem Gr.rdF(r:RH Y H B h)(g:Gr H B H' μ')(t:FzL Y.K H a xs):FzL Y.K H' a xs:=by
 rcases t with ⟨o,t⟩|t
 . exact .inl ⟨o,g.fz a _ _ t⟩
 . exact .inr t
section
variable {Y:Yx}{H H':Hp}{B μ':List Addr}{h:Hd}
structure Tr(Y:Yx)(H:Hp)(B:List Addr)(H':Hp)(μ':List Addr):Prop where
 t:∀ {a xs},SqT Y.K H a xs->SqT Y.K H' a xs
 f:∀ {a xs},FzL Y.K H a xs->FzL Y.K H' a xs
 m:∀ {i:Nat}{a},B[i]? = some a->μ'[i]? = some a
mutual
theorem RD.tr(T:Tr Y H B H' μ'):∀ {d:D}{v:V},RD Y H B d v->RD Y H' μ' d v
 | _,_,.non=>.non
 | _,_,.bl b=>.bl b
 | _,_,.int i=>.int i
 | _,_,.str x ok=>.str x ok
 | _,_,.tup t s=>.tup (T.t t) (RDs.tr T s)
 | _,_,.ref e=>.ref (T.m e)
 | _,_,.ty n=>.ty n
 | _,_,.ro t s=>.ro (T.f t) (RDs.tr T s)
 | _,_,.kd e=>.kd e
theorem RDs.tr(T:Tr Y H B H' μ'):∀ {d:List D}{v:List V},RDs Y H B d v->RDs Y H' μ' d v
 | _,_,.nil=>.nil
 | _,_,.cons a s=>.cons (RD.tr T a) (RDs.tr T s)
end
theorem RKs.tr(T:Tr Y H B H' μ'):∀ {d:List (κ×D)}{v:List (κ×V)},RKs Y H B d v->RKs Y H' μ' d v
 | _,_,.nil=>.nil
 | _,_,.cons a s=>.cons (a.tr T) (RKs.tr T s)
theorem RO.tr(T:Tr Y H B H' μ')(q:RO Y H B a o)(e:H' a=H a):RO Y H' μ' a o:=by
 cases o with
 | lst ds=>obtain ⟨vs,z,s⟩:=q;exact ⟨vs,e.trans z,s.tr T⟩
 | dic ds=>obtain ⟨vs,z,s⟩:=q;exact ⟨vs,e.trans z,s.tr T⟩
 | ins C ds=>obtain ⟨a1,a2,a3,z,m,s⟩:=q;exact ⟨a1,a2,a3,e.trans z,m,s.tr T⟩
 | fdic ds=>obtain ⟨o,vs,z,s⟩:=q;exact ⟨o,vs,e.trans z,s.tr T⟩
theorem Gr.tr(r:RH Y H B h)(g:Gr H B H' μ'):Tr Y H B H' μ':=⟨g.rdT r,g.rdF r,g.pre _ _⟩
theorem RD.mono(r:RH Y H B h)(g:Gr H B H' μ')(q:RD Y H B d v):RD Y H' μ' d v:=q.tr (g.tr r)
theorem RDs.mono(r:RH Y H B h)(g:Gr H B H' μ')(q:RDs Y H B d v):RDs Y H' μ' d v:=q.tr (g.tr r)
theorem RKs.mono{d:List (κ×D)}(r:RH Y H B h)(g:Gr H B H' μ')(q:RKs Y H B d v):RKs Y H' μ' d v:=q.tr (g.tr r)
theorem RDs.length:∀ {d:List D}{v:List V},RDs Y H B d v->d.length=v.length
 | _,_,.nil=>rfl
 | _,_,.cons a s=>by rw [Os,Os,s.length]
theorem RKs.length:∀ {d:List (κ×D)}{v:List (κ×V)},RKs Y H B d v->d.length=v.length
 | _,_,.nil=>rfl
 | _,_,.cons a s=>by rw [Os,Os,s.length]
theorem RDs.get:∀ {ds:List D}{vs:List V},RDs Y H B ds vs->∀ {i:Nat}{d:D},ds[i]? = some d->∃ v,vs[i]? = some v/\RD Y H B d v
 | _,_,.nil,i,d,e=>by simp at e
 | _,_,.cons a s,0,d,e=>by cases e;exact ⟨_,rfl,a⟩
 | _,_,.cons a s,i+1,d,e=>by
   obtain ⟨v,h1,h2⟩:=RDs.get s (i:=i) (d:=d) (by simpa using e);exact ⟨v,by simpa using h1,h2⟩
theorem RDs.append:∀ {ds es:List D}{vs ws:List V},RDs Y H B ds vs->RDs Y H B es ws->RDs Y H B (ds++es) (vs++ws)
 | _,_,_,_,.nil,s=>s
 | _,_,_,_,.cons a r,s=>.cons a (r.append s)
theorem RDs.take:∀ {ds:List D}{vs:List V} (n:Nat),RDs Y H B ds vs->RDs Y H B (ds.take n) (vs.take n)
 | _,_,0,_=>.nil
 | _,_,_+1,.nil=>.nil
 | _,_,n+1,.cons a s=>.cons a (s.take n)
theorem RDs.drop:∀ {ds:List D}{vs:List V} (n:Nat),RDs Y H B ds vs->RDs Y H B (ds.drop n) (vs.drop n)
 | _,_,0,s=>s
 | _,_,_+1,.nil=>.nil
 | _,_,n+1,.cons a s=>s.drop n
theorem RDs.reverse(s:RDs Y H B ds vs):RDs Y H B ds.reverse vs.reverse:=by
 have gen:∀ {ds es:List D}{vs ws:List V},RDs Y H B ds vs->RDs Y H B es ws->RDs Y H B (ds.reverseAux es) (vs.reverseAux ws):=by
   intro ds;induction ds with
   | nil=>intro es vs ws a b;cases a;exact b
   | cons d ds ih =>
     intro es vs ws a b;cases a with
     | cons a s =>
       have z:=ih s (RDs.cons a b);exact z
 exact gen s .nil
theorem RDs.dropLast(s:RDs Y H B ds vs):RDs Y H B ds.dropLast vs.dropLast:=by
 rw [List.dropLast_eq_take,List.dropLast_eq_take,s.length];exact s.take _
theorem RDs.set(r:RD Y H B d v):∀ {ds:List D}{vs:List V} (i:Nat),RDs Y H B ds vs->RDs Y H B (ds.set i d) (vs.set i v)
 | _,_,_,.nil=>.nil
 | _,_,0,.cons _ s=>.cons r s
 | _,_,i+1,.cons a s=>.cons a (RDs.set r i s)
theorem RDs.cut(s:RDs Y H B ds vs)(lo hi:Option Int):RDs Y H B (cutD ds lo hi) (Zge vs lo hi):=by
 unfold cutD Zge;rw [s.length];exact (s.drop _).take _
theorem RDs.isEmpty(s:RDs Y H B ds vs):ds.isEmpty=vs.isEmpty:=by cases s<;>rfl
theorem RDs.atI(s:RDs Y H B ds vs)(e:L2.atI ds i=some d):∃ v,L2.atI vs i=some v/\RD Y H B d v:=by
 unfold L2.atI at e ⊢;rw [s.length] at e;cases q:ixN vs.length i with
 | none=>rw [q] at e;cases e
 | some j =>
   rw [q] at e;exact s.get (i:=j) e
theorem RKs.val[DecidableEq κ]:∀ {ds:List (κ×D)}{vs:List (κ×V)},RKs Y H B ds vs->∀ (k:κ),((ds.find? fun p=>decide (p.1=k))=none/\(vs.find? fun p=>decide (p.1=k))=none)\/∃ d v,(ds.find? fun p=>decide (p.1=k))=some (k,d)/\(vs.find? fun p=>decide (p.1=k))=some (k,v)/\RD Y H B d v
 | _,_,.nil,k=>.inl ⟨rfl,rfl⟩
 | _,_,.cons (k:=k') (d:=d) (v:=v) a s,k=>by
   by_cases e:k'=k
   . subst e;exact .inr ⟨d,v,by simp,by simp,a⟩
   . rcases s.val k with ⟨h1,h2⟩|⟨d,v,h1,h2,h3⟩
     . exact .inl ⟨by simp [e,h1],by simp [e,h2]⟩
     . exact .inr ⟨d,v,by simp [e,h1],by simp [e,h2],h3⟩
end
theorem ZnO{α:Type}{l:List α}(hl:l.Nodup){i j:Nat}{x:α}(a:l[i]? = some x)(b:l[j]? = some x):i=j:=by
 obtain ⟨h1,e1⟩:=Ob.mp a;obtain ⟨h2,e2⟩:=Ob.mp b;exact (List.getElem_inj hl).mp (e1.trans e2.symm)
section
variable {Y:Yx}{H:Hp}{B:List Addr}{h:Hd}
theorem Gr.add(g:Gr H0 μ0 H B)(hp:H0 p=none):Gr H0 μ0 H (B++[p]) :=
 ⟨fun i a e=>by have e:=g.pre i a e;rw [Oe (Ob.mp e).1];exact e,fun a ha=>(OD.mp ha).elim (g.new a) fun z=>by rw [Ox.mp z];exact .inr hp,g.keep,g.fz⟩
theorem ZiT{H0 H:Hp}(hp:H0 p=none)(e:H0 b=some u):upd H p o b=H b:=Ze fun z=>by rw [z,hp] at e;cases e
theorem Gr.put(g:Gr H0 μ0 H B)(hp:H0 p=none):Gr H0 μ0 (upd H p o) B:=⟨g.pre,g.new,fun b u hb e=>(ZiT hp e).trans (g.keep b u hb e),fun b u v e=>(ZiT hp e).trans (g.fz b u v e)⟩
theorem Gr.lay0(hp:H p=none):Gr H B (upd H p o) B:=Gr.refl.put hp
theorem Gr.lay(hp:H p=none):Gr H B (upd H p o) (B++[p]):=(Gr.lay0 hp).add hp
noncomputable def NF:Option HO->Prop
 | some (.frz _ _)=>False
 | _=>True
theorem Gr.write(hp:p∈B)(nf:NF (H p)):Gr H B (upd H p o) B :=
 ⟨fun _ _ e=>e,fun a ha=>.inl ha,fun b u hb e=>by rw [Ze (show b≠p from fun z=>hb (by rw [z];exact hp))];exact e,fun b u v e=>by rw [Ze (fun z=>by rw [z] at e;rw [e] at nf;exact nf)];exact e⟩
theorem RO.mono(r:RH Y H B h)(g:Gr H B H' μ')(q:RO Y H B a o)(e:H' a=H a):RO Y H' μ' a o:=q.tr (g.tr r) e
theorem RH.tr(r:RH Y H B h)(T:Tr Y H B H' B)(k:∀ a∈B,H' a=H a):RH Y H' B h :=
 ⟨r.len,r.nd,fun i o a e1 e2=>(r.ob i o a e1 e2).tr T (k a (O1 e2)),r.ks⟩
theorem RH.keep(r:RH Y H B h)(g:Gr H B H' B)(k:∀ a∈B,H' a=H a):RH Y H' B h:=r.tr (g.tr r) k
theorem Tr.more:Tr Y H B H (B++[p]):=⟨id,id,fun e=>by rw [Oe (Ob.mp e).1];exact e⟩
theorem ZnG(k:∀ (i:Nat) (o:DO),h[i]? = some o->DOk o)(dk:DOk o):∀ (i:Nat) (o':DO),(h++[o])[i]? = some o'->DOk o':=by
 intro i o' e1;by_cases hi:i<h.length
 . rw [Oe hi] at e1;exact k i o' e1
 . have hi':i=h.length:=by
     have:=(Ob.mp e1).1;simp at this
     lia
   subst hi';rw [Om (Oq _)] at e1;simp at e1;subst e1;exact dk
theorem RH.add(r:RH Y H B h)(np:p ∉ B)(n:RO Y H (B++[p]) p o)(dk:DOk o:=by trivial):RH Y H (B++[p]) (h++[o]):=by
 refine ⟨by simp [r.len],?_,fun i o' a e1 e2=>?_,ZnG r.ks dk⟩
 . rw [List.nodup_append];refine ⟨r.nd,by simp,fun a ha b hb=>?_⟩;rw [Ox.mp hb];intro z;exact np (z ▸ ha)
 . by_cases hi:i<h.length
   . rw [Oe hi] at e1;rw [Oe (by rw [<- r.len];exact hi)] at e2;exact (r.ob i o' a e1 e2).tr .more rfl
   . have hi':i=h.length:=by
       have:=(Ob.mp e1).1;simp at this
       lia
     subst hi';rw [Om (Oq _)] at e1;rw [Om (by rw [r.len];exact Oq _)] at e2;simp [r.len] at e1 e2;subst e1;subst e2;exact n
theorem RH.fr(r:RH Y H B h)(hp:H p=none):p ∉ B:=fun z=>by have:=r.mut z;rw [hp] at this;exact this
theorem RH.lay0(r:RH Y H B h)(hp:H p=none):RH Y (upd H p u) B h:=r.keep (Gr.lay0 hp) fun a ha=>Ze fun z=>r.fr hp (z ▸ ha)
theorem RH.lay(r:RH Y H B h)(hp:H p=none)(n:RO Y (upd H p u) (B++[p]) p o)(dk:DOk o:=by trivial):RH Y (upd H p u) (B++[p]) (h++[o]):=(r.lay0 hp).add (r.fr hp) n dk
theorem RH.write{p:Addr}{i:Nat}{u:HO}{o:DO}(r:RH Y H B h)(hp:B[i]? = some p)(n:RO Y (upd H p u) B p o)(nf:NF (H p))(dk:DOk o:=by trivial):RH Y (upd H p u) B (h.set i o):=by
 have hm:p∈B:=O1 hp;refine ⟨by simp [r.len],r.nd,fun j o' a e1 e2=>?_,fun j o' e1=>?_⟩
 rotate_right
 . by_cases hj:j=i
   . subst hj;have hl:j<h.length:=by rw [r.len];exact (Ob.mp hp).1
     rw [Ol hl] at e1;cases e1;exact dk
   . rw [Oc (Ne.symm hj)] at e1;exact r.ks j o' e1
 by_cases hj:j=i
 . subst hj;rw [hp] at e2;cases e2;have hl:j<h.length:=by rw [r.len];exact (Ob.mp hp).1
   rw [Ol hl] at e1;cases e1;exact n
 . rw [Oc (Ne.symm hj)] at e1;refine (r.ob j o' a e1 e2).mono r (Gr.write hm nf) (Ze fun z=>hj ?_);subst z;exact ZnO r.nd e2 hp
end
end IV
end
section
set_option tactic.hygienic false
namespace IV
open PySem PySem.Spec PyProof.Rows L2
noncomputable def Fin(Y:Yx)(rel:Hp->List Addr->α->β->Prop)(H:Hp)(B:List Addr)(r:R α)(Q:β->Hp->Prop)(E:XK):Prop:=match r with
 | .bad=>False
 | .ok a h'=>∀ b H' μ',Gr H B H' μ'->RH Y H' μ' h'->rel H' μ' a b->Q b H'
 | .exc c h'=>∀ H' μ' C,Gr H B H' μ'->RH Y H' μ' h'->Y.mg c=some (.ref C)->E (.ref C) none H'
section
variable {Y:Yx}{α β α' β':Type}{rel:Hp->List Addr->α->β->Prop}{rel':Hp->List Addr->α'->β'->Prop}{H H1:Hp}{B μ1:List Addr}{E:XK}
theorem Fin.mono(g:Gr H B H1 μ1)(f:Fin Y rel H B r Q E):Fin Y rel H1 μ1 r Q E:=by
 cases r with
 | bad=>exact f
 | ok a h=>exact fun b H' μ' g'=>f b H' μ' (g.trans g')
 | exc c h=>exact fun H' μ' C g'=>f H' μ' C (g.trans g')
theorem Fin.bind(f:Fin Y rel' H B (r.bind k) Q E)
   (hk:∀ a h1 b H1 μ1,r=.ok a h1->Gr H B H1 μ1->RH Y H1 μ1 h1->rel H1 μ1 a b->Fin Y rel' H1 μ1 (k a h1) Q E->Q1 b H1):Fin Y rel H B r Q1 E:=by
 cases r with
 | bad=>exact f
 | ok a h=>exact fun b H' μ' g' rh rl=>hk a h b H' μ' rfl g' rh rl (Fin.mono g' f)
 | exc c h=>exact f
theorem Fin.ok(f:Fin Y rel H B (.ok a h) Q E)(rh:RH Y H B h)(r:rel H B a b):Q b H:=f b H B Gr.refl rh r
theorem Fin.at(f:Fin Y rel H B (.ok a h) Q E)(g:Gr H B H1 μ1)(rh:RH Y H1 μ1 h)(r:rel H1 μ1 a b):Q b H1:=f b H1 μ1 g rh r
theorem Fin.ofO(f:Fin Y rel H B (R.ofO o h) Q E):∃ a,o=some a/\Fin Y rel H B (.ok a h) Q E:=by
 cases o with
 | none=>exact f.elim
 | some a=>exact ⟨a,rfl,f⟩
theorem Fin.iff[Decidable c](f:Fin Y rel H B (if c then r else .bad) Q E):c/\Fin Y rel H B r Q E:=by
 by_cases h:c
 . rw [if_pos h] at f;exact ⟨h,f⟩
 . rw [if_neg h] at f;exact f.elim
theorem Fin.new(f:Fin Y (RD Y) H B (Zao o h) Q E)(rh:RH Y H B h)(hp:H p=none)(n:RO Y (upd H p u) (B++[p]) p o)(dk:DOk o:=by trivial):Q (.ref p) (upd H p u) :=
 f.at (Gr.lay hp) (rh.lay hp n dk) (.ref (by rw [rh.len];simp))
theorem Fin.tup(f:Fin Y (RD Y) H B (.ok (.tup ds) h) Q E)(rh:RH Y H B h)(hp:H p=none)(r:RDs Y H B ds vs):Q (.ref p) (upd H p (.tup vs)) :=
 f.at (Gr.lay0 hp) (rh.lay0 hp) (.tup (.inl (.inl Zf)) (r.mono rh (Gr.lay0 hp)))
theorem Fin.wrote(f:Fin Y rel H B (.ok a (h.set i o)) Q E)(rh:RH Y H B h)(hp:B[i]? = some p)(n:RO Y (upd H p u) B p o)(r:rel (upd H p u) B a b)(nf:NF (H p))(dk:DOk o:=by trivial):Q b (upd H p u) :=
 f.at (Gr.write (O1 hp) nf) (rh.write hp n nf dk) r
end
section
variable {Y:Yx}{H:Hp}{B:List Addr}{h:Hd}
theorem RD.lst(rh:RH Y H B h)(r:RD Y H B (.ref i) v)(e:h[i]? = some (.lst xs)):∃ a vs,v=.ref a/\B[i]? = some a/\H a=some (.lst vs)/\RDs Y H B xs vs:=by
 cases r with
 | ref q =>
   obtain ⟨vs,h1,h2⟩:=rh.ob i _ _ e q;exact ⟨_,vs,rfl,q,h1,h2⟩
theorem RD.dic(rh:RH Y H B h)(r:RD Y H B (.ref i) v)(e:h[i]? = some (.dic xs)):∃ a vs,v=.ref a/\B[i]? = some a/\H a=some (.dK vs)/\RKs Y H B xs vs:=by
 cases r with
 | ref q =>
   obtain ⟨vs,h1,h2⟩:=rh.ob i _ _ e q;exact ⟨_,vs,rfl,q,h1,h2⟩
theorem RD.lstOf(rh:RH Y H B h)(r:RD Y H B d v)(e:lstOf d h=some xs):∃ a vs,v=.ref a/\SqL Y.K H a vs/\RDs Y H B xs vs:=by
 cases d with
 | ref i =>
   unfold IV.lstOf at e;simp only at e;split at e
   . cases e;rename_i q;obtain ⟨a,vs,h1,h2,h3,h4⟩:=r.lst rh q;exact ⟨a,vs,h1,.of h3,h4⟩
   . cases e
 | ro ys =>
   cases e;cases r with
   | ro q s=>exact ⟨_,_,rfl,q.sq,s⟩
 | _=>cases e
theorem RD.seqOf(rh:RH Y H B h)(r:RD Y H B d v)(e:seqOf d h=some xs):∃ a vs,v=.ref a/\(SqL Y.K H a vs\/SqT Y.K H a vs)/\RDs Y H B xs vs:=by
 by_cases ht:∃ ys,d=.tup ys
 . obtain ⟨ys,rfl⟩:=ht;cases e;cases r with
   | tup q s=>exact ⟨_,_,rfl,.inr q,s⟩
 . have e':IV.lstOf d h=some xs:=by
     cases d with
     | tup ys=>exact absurd ⟨ys,rfl⟩ ht
     | _=>exact e
   obtain ⟨a,vs,h1,h2,h3⟩:=r.lstOf rh e';exact ⟨a,vs,h1,.inl h2,h3⟩
theorem RD.int_inv(r:RD Y H B (.int i) v):v=.int i:=by cases r;rfl
theorem RD.str_inv(r:RD Y H B (.str i) v):v=.str i/\PyData.strOk i=true:=by cases r with|str x ok=>exact ⟨rfl,ok⟩
theorem RD.tup_inv(r:RD Y H B (.tup ds) v):∃ a vs,v=.ref a/\SqT Y.K H a vs/\RDs Y H B ds vs:=by cases r with|tup q s=>exact ⟨_,_,rfl,q,s⟩
theorem Zex(hx:PyData.strOk x=true)(hy:PyData.strOk y=true):PyData.strOk (x++y)=true:=by
 show (x.cps++y.cps).all _=true;rw [Array.all_append];unfold PyData.strOk at hx hy;rw [hx,hy];rfl
theorem Zjz(hx:PyData.strOk x=true)(n:Nat):PyData.strOk (Zcg x n)=true:=by
 have gen:∀ (n:Nat) (a:Array Nat),a.all (·<0x110000)=true->((List.replicate n x.cps).foldl (·++·) a).all (·<0x110000)=true:=by
   intro n;induction n with
   | zero=>intro a h;exact h
   | succ n ih =>
     intro a h;rw [List.replicate_succ,List.foldl_cons];refine ih _ ?_;rw [Array.all_append,h];exact hx
 exact gen n #[] (by simp)
theorem ZjA(hx:PyData.strOk x=true)(h:c∈x.cps.toList):PyData.strOk ⟨#[c]⟩=true:=by
 unfold PyData.strOk at hx ⊢;rw [Array.all_eq_true'] at hx;have:=hx c (by simpa using h);simpa using this
theorem Zlq(h:atI xs i=some x):x∈xs:=by
 unfold atI at h;cases q:ixN xs.length i with
 | none=>rw [q] at h;cases h
 | some j =>
   rw [q] at h;exact O1 (i:=j) h
end
section
variable {X:Cx}{Y:Yx}{E:XK}
noncomputable def rB(Y:Yx)(E:XK)(f:D->D->Hd->R D):R2:=fun x y H Q=>∃ dx dy h B,RH Y H B h/\RD Y H B dx x/\RD Y H B dy y/\Fin Y (RD Y) H B (f dx dy h) Q E
theorem Fin.int2(f:Fin Y (RD Y) H B (int2 x y k) Q E):∃ i j,x=.int i/\y=.int j/\Fin Y (RD Y) H B (k i j) Q E:=by
 cases x with
 | int i =>
   cases y with
   | int j=>exact ⟨i,j,rfl,rfl,f⟩
   | _=>exact f.elim
 | _=>exact f.elim
theorem Znt(hY:Y.K=X.K)(op:Operator):OpR X (binaryOp op) (rB Y E (opB op)):=by
 intro pins s Z H x y v u Q I rx ry hh;obtain ⟨dx,dy,h,B,rh,r1,r2,f⟩:=hh;cases op with
 | Add =>
   have f:Fin Y (RD Y) H B (Zkh dx dy h) Q E:=f;cases dx with
   | int i =>
     cases dy with
     | int j =>
       cases r1;cases r2;exact Znq pins s Z H _ _ v u Q I rx ry ⟨_,_,rfl,rfl,f.ok rh (.int _)⟩
     | _=>exact f.elim
   | str i =>
     cases dy with
     | str j =>
       obtain ⟨hz,f⟩:=Fin.iff f;cases r1 with|str _ o1 =>
       cases r2 with|str _ o2 =>
       exact ZgI pins s Z H _ _ v u Q I rx ry ⟨_,_,rfl,rfl,hz,f.ok rh (.str _ (Zex o1 o2))⟩
     | _=>exact f.elim
   | tup xs =>
     cases dy with
     | tup ys =>
       obtain ⟨hz,f⟩:=Fin.iff f;obtain ⟨a,vs,rfl,t1,s1⟩:=r1.tup_inv;obtain ⟨b,ws,rfl,t2,s2⟩:=r2.tup_inv;rw [s1.length,s2.length] at hz;by_cases h0:vs=[]
       . subst h0;cases s1;exact Zla pins s Z H _ _ v u Q I rx ry ⟨a,b,ws,rfl,rfl,hY ▸ t1,hY ▸ t2,f.ok rh (.tup t2 s2)⟩
       . refine Zk9 pins s Z H _ _ v u Q I rx ry ⟨a,b,vs,ws,rfl,rfl,hY ▸ t1,hY ▸ t2,h0,hz,fun e=>?_,fun e p hp=>f.tup rh hp (s1.append s2)⟩;subst e;cases s2;rw [List.append_nil] at f;exact f.ok rh (.tup t1 s1)
     | _=>exact f.elim
   | ref i =>
     cases dy with
     | ref j =>
       unfold Zkh at f;simp only at f;split at f
       . rename_i e1;split at f
         . rename_i e2;obtain ⟨hz,f⟩:=f.iff;obtain ⟨a,vs,rfl,_,h1,s1⟩:=r1.lst rh e1;obtain ⟨b,ws,rfl,_,h2,s2⟩:=r2.lst rh e2;rw [s1.length,s2.length] at hz;exact Znp pins s Z H _ _ v u Q I rx ry ⟨a,b,vs,ws,rfl,rfl,h1,h2,hz,fun p hp=>f.new rh hp ⟨_,Zf,(s1.append s2).mono rh (Gr.lay hp)⟩⟩
         . exact f.elim
       . exact f.elim
     | _=>exact f.elim
   | _=>exact f.elim
 | Sub =>
   obtain ⟨i,j,rfl,rfl,f⟩:=Fin.int2 f;cases r1;cases r2;exact Znk pins s Z H _ _ v u Q I rx ry ⟨_,_,rfl,rfl,f.ok rh (.int _)⟩
 | Mult =>
   have f:Fin Y (RD Y) H B (Zpf dx dy h) Q E:=f;cases dx with
   | str z =>
     cases dy with
     | int n =>
       obtain ⟨hz,f⟩:=Fin.iff f;cases r1 with|str _ o1 =>
       cases r2;exact Zk7 pins s Z H _ _ v u Q I rx ry ⟨_,_,rfl,rfl,hz.1,hz.2.1,hz.2.2,f.ok rh (.str _ (Zjz o1 _))⟩
     | _=>exact f.elim
   | int i =>
     obtain ⟨i,j,e1,rfl,f⟩:=Fin.int2 (show Fin Y (RD Y) H B (IV.int2 (.int i) dy fun i j=>if i.natAbs<2 ^ 2000/\j.natAbs<2 ^ 2000 then .ok (.int (i * j)) h else .bad) Q E from f);cases e1;obtain ⟨hz,f⟩:=f.iff;cases r1;cases r2;exact Zik pins s Z H _ _ v u Q I rx ry ⟨_,_,rfl,rfl,hz,f.ok rh (.int _)⟩
   | _=>exact f.elim
 | Mod =>
   obtain ⟨i,j,rfl,rfl,f⟩:=Fin.int2 f;obtain ⟨hz,f⟩:=f.iff;cases r1;cases r2;exact Znm pins s Z H _ _ v u Q I rx ry ⟨_,_,rfl,rfl,hz,f.ok rh (.int _)⟩
 | FloorDiv =>
   obtain ⟨i,j,rfl,rfl,f⟩:=Fin.int2 f;obtain ⟨hz,f⟩:=f.iff;cases r1;cases r2;exact Zk8 pins s Z H _ _ v u Q I rx ry ⟨_,_,rfl,rfl,hz,f.ok rh (.int _)⟩
 | Pow =>
   obtain ⟨i,j,rfl,rfl,f⟩:=Fin.int2 f;obtain ⟨hz,f⟩:=f.iff;cases r1;cases r2;exact Znl pins s Z H _ _ v u Q I rx ry ⟨_,_,rfl,rfl,hz,f.ok rh (.int _)⟩
 | _=>exact f.elim
end
end IV
end
section
namespace IV
open PySem PySem.Spec PyProof.Rows L2
structure Gk(X:Cx)(Y:Yx)(T:Tb):Prop where
 K:Y.K=X.K
 mg:Y.mg=X.mg
 gd:∀ x kvs,T.GD x=some kvs->∃ a kvs',X.mg x=some (.ref a)/\DkK X.prog X.w X.K a kvs'/\∀ H B,RKs Y H B kvs kvs'
 g:∀ x d,T.G x=some d->∃ v u,X.mg x=some u/\RelV v u/\∀ H B,RD Y H B d v
 bare:Zdi X.K=true
section
variable {X:Cx}{Y:Yx}{E:XK}{T:Tb}{H:Hp}{B:List Addr}{h:Hd}
theorem RD.dicOf(G:Gk X Y T)(rh:RH Y H B h)(r:RD Y H B d v)(e:dicOf T.GD d h=some kvs):∃ a kvs',v=.ref a/\Dk X.prog X.w X.K H a kvs'/\RKs Y H B kvs kvs':=by
 cases d with
 | ref i =>
   unfold IV.dicOf at e;simp only at e;split at e
   . cases e;rename_i q;obtain ⟨a,vs,h1,_,h3,h4⟩:=r.dic rh q;exact ⟨a,vs,h1,.inl (.inl h3),h4⟩
   . cases e;rename_i q;cases r with
     | ref qm =>
       obtain ⟨o,vs,h1,h2⟩:=rh.ob i _ _ q qm;exact ⟨_,vs,rfl,.inl (.inr ⟨o,h1⟩),h2⟩
   . cases e
 | kd x =>
   obtain ⟨a,kvs',h1,h2,h3⟩:=G.gd x kvs e;cases r with
   | kd q =>
     rw [G.mg,h1] at q;cases q;exact ⟨a,kvs',rfl,.inr h2,h3 H B⟩
 | _=>cases e
theorem ZjK(r:RD Y H B d v)(e:keyOf d=some k):∀ x,k=.inr x->PyData.strOk x=true:=by
 cases d with
 | int i=>cases e;intro x z;cases z
 | str i =>
   cases e;intro x z;cases z;cases r with
   | str _ ok=>exact ok
 | _=>cases e
theorem ZdA(h:ZaB kvs)(hk:∀ x,k=.inr x->PyData.strOk x=true):ZaB (putD kvs k c):=by
 intro p hp x e;unfold putD at hp;split at hp
 . obtain ⟨q,hq,rfl⟩:=List.mem_map.mp hp;refine h q hq x ?_;split at e<;>exact e
 . rcases OD.mp hp with hp|hp
   . exact h p hp x e
   . rw [Ox.mp hp] at e;exact hk x e
theorem Za5(r:RD Y H B d v)(e:keyOf d=some k):v=kV k:=by
 cases d with
 | int i=>cases e;cases r;rfl
 | str i=>cases e;cases r;rfl
 | _=>cases e
theorem RKs.valV_rel(s:RKs Y H B ds vs)(k:Key):(Zaj ds k=none/\ZbR vs k=none)\/∃ d v,Zaj ds k=some d/\ZbR vs k=some v/\RD Y H B d v:=by
 unfold Zaj ZbR;rcases s.val k with ⟨h1,h2⟩|⟨d,v,h1,h2,h3⟩
 . exact .inl ⟨by rw [h1];rfl,by rw [h2];rfl⟩
 . exact .inr ⟨d,v,by rw [h1];rfl,by rw [h2];rfl,h3⟩
theorem RKs.any_rel(k:Key):∀ {ds:List (Key×D)}{vs:List (Key×V)},RKs Y H B ds vs->(ds.any fun kv=>decide (kv.1=k))=(vs.any fun kv=>decide (kv.1=k))
 | _,_,.nil=>rfl
 | _,_,.cons a s=>by rw [List.any_cons,List.any_cons,s.any_rel k]
theorem RKs.map_rel(k:Key)(r:RD Y H B d v):∀ {ds:List (Key×D)}{vs:List (Key×V)},RKs Y H B ds vs->RKs Y H B (ds.map fun kv=>if kv.1=k then (kv.1,d) else kv) (vs.map fun kv=>if kv.1=k then (kv.1,v) else kv)
 | _,_,.nil=>.nil
 | _,_,.cons (k:=k') a s=>by
   rw [Op,Op];by_cases e:k'=k
   . rw [if_pos e,if_pos e];exact .cons r (s.map_rel k r)
   . rw [if_neg e,if_neg e];exact .cons a (s.map_rel k r)
theorem RKs.append:∀ {ds es:List (κ×D)}{vs ws:List (κ×V)},RKs Y H B ds vs->RKs Y H B es ws->RKs Y H B (ds++es) (vs++ws)
 | _,_,_,_,.nil,s=>s
 | _,_,_,_,.cons a r,s=>.cons a (r.append s)
theorem RKs.put(s:RKs Y H B ds vs)(k:Key)(r:RD Y H B d v):RKs Y H B (putD ds k d) (putK vs k v):=by
 unfold putD putK;rw [s.any_rel k];split
 . exact s.map_rel k r
 . exact s.append (.cons r .nil)
mutual
theorem RD.dp(rh:RH Y H B h)(rd:Nat->Option PyData)(hr:∀ i p a,rd i=some p->B[i]? = some a->Dp Y.K H (.ref a) p):∀ {d:D}{v:V}{p:PyData},RD Y H B d v->D.py rd d=some p->Dp Y.K H v p
 | _,_,_,.non,e=>by cases e;exact .non
 | _,_,_,.bl b,e=>by cases e;exact .bl b
 | _,_,_,.int i,e=>by cases e;exact .int i
 | _,_,_,.str x ok,e=>by cases e;exact .str x ok
 | _,_,_,.tup t s,e=>by
   rw [D.py] at e;obtain ⟨ps,e1,rfl⟩:=Oo.mp e;exact .tup t (RDs.dps rh rd hr s e1)
 | _,_,_,.ref q,e=>hr _ _ _ e q
 | _,_,_,.ty n,e=>by cases e
 | _,_,_,.ro t s,e=>by
   rw [D.py] at e;obtain ⟨ps,e1,rfl⟩:=Oo.mp e;exact .lst t.sq (RDs.dps rh rd hr s e1)
 | _,_,_,.kd q,e=>by cases e
theorem RDs.dps(rh:RH Y H B h)(rd:Nat->Option PyData)(hr:∀ i p a,rd i=some p->B[i]? = some a->Dp Y.K H (.ref a) p):∀ {d:List D}{v:List V}{p:List PyData},RDs Y H B d v->D.pys rd d=some p->Dps Y.K H v p
 | _,_,_,.nil,e=>by cases e;exact .nil
 | _,_,_,.cons a s,e=>by
   rw [D.pys] at e;obtain ⟨q,e1,e2⟩:=Option.bind_eq_some_iff.mp e;obtain ⟨qs,e3,rfl⟩:=Oo.mp e2;exact .cons (RD.dp rh rd hr a e1) (RDs.dps rh rd hr s e3)
end
theorem Zhj(rh:RH Y H B h):∀ (n i:Nat) (p:PyData) (a:Addr),ZfM h n i=some p->B[i]? = some a->Dp Y.K H (.ref a) p
 | 0,i,p,a,e,q=>by cases e
 | n+1,i,p,a,e,q=>by
   rw [ZfM] at e;split at e
   . rename_i xs he;obtain ⟨ps,e1,rfl⟩:=Oo.mp e;obtain ⟨vs,z,s⟩:=rh.ob i _ a he q;exact .lst (.of z) (RDs.dps rh _ (Zhj rh n) s e1)
   . cases e
theorem Zdb(rh:RH Y H B h)(r:RD Y H B d v)(e:ZfP h d=some p):Dp Y.K H v p:=r.dp rh _ (Zhj rh 4) e
theorem ZdH(r:RD Y H B d v)(f:d.flat=true):Zbi v=true:=by cases r<;>first|rfl|cases f
theorem Zco:∀ {ds:List D}{vs:List V},RDs Y H B ds vs->ds.all D.flat=true->vs.all Zbi=true
 | _,_,.nil,_=>rfl
 | _,_,.cons a s,f=>by
   rw [List.all_cons,Oa] at f;rw [List.all_cons,ZdH a f.1,Zco s f.2];rfl
theorem ZnV(r:RD Y H B d v)(q:RD Y H B e w)(f:d.flat=true)(g:e.flat=true):eqF d e=eqV v w:=by
 cases r<;>cases q<;>first|rfl|exact absurd f (by simp [D.flat])|exact absurd g (by simp [D.flat])
theorem any_rel(q:RD Y H B e w)(g:e.flat=true):∀ {ds:List D}{vs:List V},RDs Y H B ds vs->ds.all D.flat=true->(ds.any fun z=>eqF z e)=vs.any fun y=>eqV y w
 | _,_,.nil,_=>rfl
 | _,_,.cons a s,f=>by
   rw [List.all_cons,Oa] at f;rw [List.any_cons,List.any_cons,ZnV a q f.1 g,any_rel q g s f.2]
theorem Zlh(hr:Room k X.A)(h60:60<=k)(hY:Y.K=X.K):OpR X (compareOp .Eq) (rB Y E (Zam false)):=by
 intro pins s Z H x y v u Q I rx ry hh;obtain ⟨dx,dy,h,B,rh,r1,r2,f⟩:=hh;unfold Zam at f;split at f
 . rename_i e1 e2;obtain ⟨hz,f⟩:=f.iff;have d1:=Zdb rh r1 e1;have d2:=Zdb rh r2 e2;rw [hY] at d1 d2;obtain ⟨as,q1⟩:=I.reads d1 rx;obtain ⟨bs,q2⟩:=I.reads d2 ry;have:=hr.un;exact SeqAt.compareEq_reads q1 q2 d1.lay d2.lay (by lia) ⟨.bl _,H,I,rfl,f.ok rh (.bl _)⟩
 . exact f.elim
theorem Zlc(hr:Room k X.A)(h60:60<=k)(hY:Y.K=X.K):OpR X (compareOp .NotEq) (rB Y E (Zam true)):=by
 intro pins s Z H x y v u Q I rx ry hh;obtain ⟨dx,dy,h,B,rh,r1,r2,f⟩:=hh;unfold Zam at f;split at f
 . rename_i e1 e2;obtain ⟨hz,f⟩:=f.iff;have d1:=Zdb rh r1 e1;have d2:=Zdb rh r2 e2;rw [hY] at d1 d2;obtain ⟨as,q1⟩:=I.reads d1 rx;obtain ⟨bs,q2⟩:=I.reads d2 ry;have:=hr.un;exact SeqAt.compareNe_reads q1 q2 d1.lay d2.lay (by lia) ⟨.bl _,H,I,rfl,f.ok rh (.bl _)⟩
 . exact f.elim
theorem Zdd(ho:OpR X (compareOp op) (rI0 fun i j=>.bl (g i j))):OpR X (compareOp op) (rB Y E (ZeV g)):=by
 intro pins s Z H x y v u Q I rx ry hh;obtain ⟨dx,dy,h,B,rh,r1,r2,f⟩:=hh;unfold ZeV at f;split at f
 . cases r1;cases r2;exact ho pins s Z H _ _ v u Q I rx ry ⟨_,_,rfl,rfl,f.ok rh (.bl _)⟩
 . exact f.elim
theorem Zhv(r:RD Y H B d v):decide (d=.non)=decide (v=.non):=by
 cases r<;>simp
theorem Zlf:OpR X (compareOp .Is) (rB Y E (opN false)):=by
 intro pins s Z H x y v u Q I rx ry hh;obtain ⟨dx,dy,h,B,rh,r1,r2,f⟩:=hh;unfold opN at f;split at f
 . cases r2;have z:=Zhv r1;simp only [OG,if_false,z] at f;exact Znn pins s Z H _ _ v u Q I rx ry ⟨rfl,f.ok rh (.bl _)⟩
 . exact f.elim
theorem Zin:OpR X (compareOp .IsNot) (rB Y E (opN true)):=by
 intro pins s Z H x y v u Q I rx ry hh;obtain ⟨dx,dy,h,B,rh,r1,r2,f⟩:=hh;unfold opN at f;split at f
 . cases r2;have z:=Zhv r1;simp only [if_true,z] at f;exact Zk6 pins s Z H _ _ v u Q I rx ry ⟨rfl,f.ok rh (.bl _)⟩
 . exact f.elim
theorem Zlg(G:Gk X Y T):OpR X (compareOp .In) (rB Y E (Zac T.GD false)):=by
 intro pins s Z H x y v u Q I rx ry hh;obtain ⟨dx,dy,h,B,rh,r1,r2,f⟩:=hh;unfold Zac at f;split at f
 . rename_i xs e1;obtain ⟨hz,f⟩:=f.iff;rw [Oa] at hz;obtain ⟨a,vs,rfl,hs,rs⟩:=r2.seqOf rh e1;have q:=f.ok rh (.bl _);simp only [OG,if_false,any_rel r1 hz.1 rs hz.2] at q;exact Zil pins s Z H _ _ v u Q I rx ry ⟨a,vs,rfl,G.K ▸ hs,ZdH r1 hz.1,Zco rs hz.2,q⟩
 . split at f
   . rename_i kvs k e1 e2;obtain ⟨a,kvs',rfl,hd,rk⟩:=r2.dicOf G rh e1;have q:=f.ok rh (.bl _);have z:(Zaj kvs k).isSome=(ZbR kvs' k).isSome:=by
       rcases rk.valV_rel k with ⟨h1,h2⟩|⟨d,v,h1,h2,_⟩<;>rw [h1,h2]<;>rfl
     rw [z] at q;exact Zno pins s Z H _ _ v u Q I rx ry ⟨a,kvs',k,rfl,Za5 r1 e2,hd,q⟩
   . exact f.elim
theorem ZgJ(G:Gk X Y T):OpR X (compareOp .NotIn) (rB Y E (Zac T.GD true)):=by
 intro pins s Z H x y v u Q I rx ry hh;obtain ⟨dx,dy,h,B,rh,r1,r2,f⟩:=hh;unfold Zac at f;split at f
 . rename_i xs e1;obtain ⟨hz,f⟩:=f.iff;rw [Oa] at hz;obtain ⟨a,vs,rfl,hs,rs⟩:=r2.seqOf rh e1;have q:=f.ok rh (.bl _);simp only [if_true,any_rel r1 hz.1 rs hz.2] at q;exact ZeU pins s Z H _ _ v u Q I rx ry ⟨a,vs,rfl,G.K ▸ hs,ZdH r1 hz.1,Zco rs hz.2,q⟩
 . split at f
   . rename_i kvs k e1 e2;obtain ⟨a,kvs',rfl,hd,rk⟩:=r2.dicOf G rh e1;have q:=f.ok rh (.bl _);have z:(Zaj kvs k).isSome=(ZbR kvs' k).isSome:=by
       rcases rk.valV_rel k with ⟨h1,h2⟩|⟨d,v,h1,h2,_⟩<;>rw [h1,h2]<;>rfl
     rw [z] at q;exact Zij pins s Z H _ _ v u Q I rx ry ⟨a,kvs',k,rfl,Za5 r1 e2,hd,q⟩
   . exact f.elim
theorem Zjy(hr:Room k X.A)(h60:60<=k)(G:Gk X Y T)(op:CmpOp):OpR X (compareOp op) (rB Y E (opC T.GD op)):=by
 cases op with
 | Eq=>exact Zlh hr h60 G.K
 | NotEq=>exact Zlc hr h60 G.K
 | Lt=>exact Zdd Zo1
 | LtE=>exact Zdd Zo2
 | Gt=>exact Zdd Zo3
 | GtE=>exact Zdd Zo4
 | Is=>exact Zlf
 | IsNot=>exact Zin
 | In=>exact Zlg G
 | NotIn=>exact ZgJ G
theorem Zld(G:Gk X Y T):IxR X (rB Y E (Zci T.GD)):=by
 intro value slice pins s Z H x y v u Q I rx ry hh hs;obtain ⟨dx,dy,h,B,rh,r1,r2,f⟩:=hh;have dict:∀ (kvs:List (Key×D)) (k:Key),dicOf T.GD dx h=some kvs->y=kV k->Fin Y (RD Y) H B (R.ofO (Zaj kvs k) h) Q E->wpAny (model X.prog X.w) X.A (subscriptTail value slice v u) (EP X pins Z Q) X.xe s:=by
   intro kvs k e1 ey f;obtain ⟨d,e2,f⟩:=f.ofO;obtain ⟨a,kvs',rfl,hd,rk⟩:=r1.dicOf G rh e1;rcases rk.valV_rel k with ⟨h1,h2⟩|⟨d',w,h1,h2,h3⟩
   . rw [h1] at e2;cases e2
   . rw [h1] at e2;cases e2;exact Zlv value slice pins s Z H _ _ v u Q I rx ry ⟨a,kvs',k,w,rfl,ey,hd,h2,f.ok rh h3⟩ hs
 unfold Zci at f;split at f
 . rename_i i;cases r2;split at f
   . rename_i xs e1;obtain ⟨d,e2,f⟩:=f.ofO;obtain ⟨a,vs,rfl,hq,rs⟩:=r1.seqOf rh e1;obtain ⟨w,e3,rw'⟩:=rs.atI e2;rcases hq with hq|hq
     . exact Zlu value slice pins s Z H _ _ v u Q I rx ry ⟨a,vs,i,w,rfl,rfl,G.K ▸ hq,e3,f.ok rh rw'⟩ hs
     . exact ZnM value slice pins s Z H _ _ v u Q I rx ry ⟨a,vs,i,w,rfl,rfl,G.K ▸ hq,e3,f.ok rh rw'⟩ hs
   . split at f
     . obtain ⟨hz,f⟩:=f.iff;obtain ⟨d,e2,f⟩:=f.ofO;obtain ⟨c,e3,rfl⟩:=Oo.mp e2;obtain ⟨rfl,ok⟩:=r1.str_inv;exact ZnN value slice pins s Z H _ _ v u Q I rx ry ⟨_,i,c,rfl,rfl,hz,e3,f.ok rh (.str _ (ZjA ok (Zlq e3)))⟩ hs
     . split at f
       . rename_i kvs e1;exact dict kvs (.inl i) e1 rfl f
       . exact f.elim
 . rename_i z;obtain ⟨rfl,ok⟩:=r2.str_inv;split at f
   . rename_i kvs e1;exact dict kvs (.inr z) e1 rfl f
   . exact f.elim
 . exact f.elim
theorem Znu(hx:PyData.strOk x=true)(h:∀ c∈y.cps.toList,c∈x.cps.toList):PyData.strOk y=true:=by
 unfold PyData.strOk at hx ⊢;rw [Array.all_eq_true'] at hx ⊢;intro c hc;exact hx c (by simpa using h c (by simpa using hc))
theorem Zks(hY:Y.K=X.K)(rh:RH Y H B h)(r:RD Y H B d v)(e:ZbI T.GD d h=some b):Zn8 X.K v H b:=by
 cases d with
 | non=>cases r;cases e;rfl
 | bl c=>cases r;cases e;rfl
 | int c=>cases r;cases e;rfl
 | str c =>
   cases r;unfold ZbI at e;simp only at e;split at e
   . rename_i hz;cases e;refine ⟨hz,?_⟩;by_cases h0:c.length=0
     . simp [h0]
     . have h1:((c.length:Int) != 0)=true:=by
         simp
         lia
       rw [h1];simp [h0]
   . cases e
 | tup xs =>
   obtain ⟨a,vs,rfl,t,s⟩:=r.tup_inv;cases e;exact .inr (.inl ⟨vs,hY ▸ t,by rw [s.isEmpty]⟩)
 | ref i =>
   unfold ZbI at e;simp only at e;split at e
   . rename_i q;cases e;obtain ⟨a,vs,rfl,_,h3,s⟩:=r.lst rh q;exact .inl ⟨vs,.of h3,by rw [s.isEmpty]⟩
   . rename_i q;cases e;obtain ⟨a,vs,rfl,_,h3,s⟩:=r.dic rh q;exact .inr (.inr ⟨vs,h3,by cases s<;>rfl⟩)
   . cases e
 | ro xs =>
   cases e;cases r with
   | ro q s=>exact .inl ⟨_,hY ▸ q.sq,by rw [s.isEmpty]⟩
 | ty n=>cases e
 | kd x=>cases e
end
end IV
end
section
namespace IV
open PySem PySem.Spec PyProof.Rows L2
section
variable {X:Cx}{Y:Yx}{E:XK}{T:Tb}{H:Hp}{B:List Addr}{h:Hd}
noncomputable def rS(Y:Yx)(E:XK):V->Option Int->Option Int->Hp->VK->Prop:=fun x l u H Q=>∃ d h B,RH Y H B h/\RD Y H B d x/\Fin Y (RD Y) H B (Zim d l u h) Q E
theorem ZgB(y:Str)(l u:Option Int):∀ c∈(StrLaws.sliceText y l u).cps.toList,c∈y.cps.toList:=by
 intro c hc;unfold StrLaws.sliceText at hc;split at hc
 . exact hc
 . simp only [List.mem_filterMap] at hc;obtain ⟨i,_,hi⟩:=hc;have:=Array.mem_of_getElem? hi;simpa using this
theorem ZiG{xs:List D}{lo hi:Option Int}(h:HT.sIx xs.length 0 lo=0/\HT.sIx xs.length xs.length hi=xs.length):cutD xs lo hi=xs:=by
 unfold cutD;rw [h.1,h.2];simp
theorem Zlb(hY:Y.K=X.K):SlR X (rS Y E):=by
 intro pins s Z H x v vl vu lo hi sl Q I rx hs pl pu hh;obtain ⟨d,h,B,rh,r,f⟩:=hh;unfold Zim at f;split at f
 . rename_i xs;obtain ⟨a,vs,rfl,t,rs⟩:=r.tup_inv;by_cases hw:HT.sIx vs.length 0 lo=0/\HT.sIx vs.length vs.length hi=vs.length
   . rw [ZiG (by rw [rs.length];exact hw)] at f;exact Zi6 pins s Z H _ v vl vu lo hi sl Q I rx hs pl pu ⟨a,vs,rfl,hY ▸ t,hw,f.ok rh (.tup t rs)⟩
   . exact ZmS pins s Z H _ v vl vu lo hi sl Q I rx hs pl pu ⟨a,vs,rfl,hY ▸ t,hw,fun p hp=>f.tup rh hp (rs.cut lo hi)⟩
 . obtain ⟨hz,f⟩:=f.iff;obtain ⟨rfl,ok⟩:=r.str_inv;exact ZmT pins s Z H _ v vl vu lo hi sl Q I rx hs pl pu ⟨_,rfl,hz,f.ok rh (.str _ (Znu ok (ZgB _ _ _)))⟩
 . split at f
   . rename_i xs e1;obtain ⟨a,vs,rfl,hl,rs⟩:=r.lstOf rh e1;exact Zkx pins s Z H _ v vl vu lo hi sl Q I rx hs pl pu ⟨a,vs,rfl,hY ▸ hl,fun p hp=>f.new rh hp ⟨_,Zf,(rs.cut lo hi).mono rh (Gr.lay hp)⟩⟩
   . exact f.elim
noncomputable def rF(Y:Yx)(E:XK)(f:List D->Hd->R D):List V->Hp->VK->Prop:=fun xs H Q=>∃ ds h B,RH Y H B h/\RDs Y H B ds xs/\Fin Y (RD Y) H B (f ds h) Q E
theorem RDs.one(r:RDs Y H B [d] xs):∃ x,xs=[x]/\RD Y H B d x:=by
 cases r with
 | cons a s=>cases s;exact ⟨_,rfl,a⟩
theorem RDs.two(r:RDs Y H B [d,e] xs):∃ x y,xs=[x,y]/\RD Y H B d x/\RD Y H B e y:=by
 cases r with
 | cons a s=>obtain ⟨y,rfl,b⟩:=s.one;exact ⟨_,_,rfl,a,b⟩
theorem ZlU (hY:Y.K=X.K):Zau X (.builtin "len") (rF Y E Zl1):=by
 intro pins s Z H xs us Q I r hh;obtain ⟨ds,h,B,rh,rs,f⟩:=hh;unfold Zl1 at f;split at f
 . obtain ⟨hz,f⟩:=f.iff;obtain ⟨x,rfl,rd⟩:=rs.one;obtain ⟨rfl,ok⟩:=rd.str_inv;exact Zfh pins s Z H _ us Q I r ⟨_,rfl,hz,f.ok rh (.int _)⟩
 . obtain ⟨e,e1,f⟩:=f.ofO;obtain ⟨zs,e2,rfl⟩:=Oo.mp e1;obtain ⟨x,rfl,rd⟩:=rs.one;obtain ⟨a,vs,rfl,hq,rv⟩:=rd.seqOf rh e2;refine Zfi pins s Z H _ us Q I r ⟨a,vs,rfl,hY ▸ hq,?_⟩;rw [<- rv.length];exact f.ok rh (.int _)
 . exact f.elim
theorem Zlt{K:PySem.W.Frag}{t T:String}{b:Bool}(e:ZgT t T=some b):PySem.W.kitOne K (.type t) (.type T)=some b:=by
 have all:(["int", "str", "bool", "tuple", "list"].all fun T=>["int", "str", "bool", "tuple", "list", "NoneType"].all fun t=>decide (PySem.W.kitOne [] (.type t) (.type T)=some (t==T || (t == "bool" && T == "int"))))=true:=by decide +kernel
 unfold ZgT at e;split at e
 . rename_i hm;cases e;rw [OC] at all;have h1:=all T hm.1;rw [OC] at h1;exact Ziv (of_decide_eq_true (h1 t hm.2))
 . cases e
theorem Zoo(hY:Y.K=X.K)(rh:RH Y H B h)(r:RD Y H B d v)(e:ZmL d h=some t):TyN X.K v H t:=by
 have lst:(IV.lstOf d h).map (fun _ => "list")=some t->TyN X.K v H t:=fun e=>by
   obtain ⟨xs,e1,rfl⟩:=Oo.mp e;obtain ⟨a,vs,rfl,hl,rs⟩:=r.lstOf rh e1;exact .inl ⟨rfl,vs,hY ▸ hl⟩
 cases d with
 | int i=>cases e;cases r;rfl
 | str i=>cases e;cases r;rfl
 | bl i=>cases e;cases r;rfl
 | non=>cases e;cases r;rfl
 | tup xs =>
   cases e;obtain ⟨a,vs,rfl,t,rs⟩:=r.tup_inv;exact .inr ⟨rfl,vs,hY ▸ t⟩
 | ref i=>exact lst e
 | ro xs=>exact lst e
 | ty n=>exact lst e
 | kd x=>exact lst e
theorem ZlV (hY:Y.K=X.K):Zau X (.builtin "isinstance") (rF Y E Zl2):=by
 intro pins s Z H xs us Q I r hh;obtain ⟨ds,h,B,rh,rs,f⟩:=hh;unfold Zl2 at f;split at f
 . obtain ⟨e,e1,f⟩:=f.ofO;obtain ⟨t,e2,e3⟩:=Option.bind_eq_some_iff.mp e1;obtain ⟨b,e4,rfl⟩:=Oo.mp e3;obtain ⟨x,y,rfl,r1,r2⟩:=rs.two;cases r2;exact Zkc pins s Z H _ us Q I r ⟨x,t,_,b,rfl,Zoo hY rh r1 e2,Zlt e4,f.ok rh (.bl _)⟩
 . exact f.elim
theorem ZlW:Zau X (.type "int") (rF Y E Zn4):=by
 intro pins s Z H xs us Q I r hh;obtain ⟨ds,h,B,rh,rs,f⟩:=hh;unfold Zn4 at f;split at f
 . obtain ⟨x,rfl,r1⟩:=rs.one;cases r1;exact ZeI pins s Z H _ us Q I r (.inl ⟨_,rfl,f.ok rh (.int _)⟩)
 . obtain ⟨x,rfl,r1⟩:=rs.one;cases r1;exact ZeI pins s Z H _ us Q I r (.inr ⟨_,rfl,f.ok rh (.int _)⟩)
 . exact f.elim
theorem ZlS (hY:Y.K=X.K):Zau X (.type "tuple") (rF Y E Zl0):=by
 intro pins s Z H xs us Q I r hh;obtain ⟨ds,h,B,rh,rs,f⟩:=hh;unfold Zl0 at f;split at f
 . obtain ⟨x,rfl,r1⟩:=rs.one;obtain ⟨a,vs,rfl,t,rv⟩:=r1.tup_inv;exact Zbl pins s Z H _ us Q I r ⟨a,vs,rfl,.inr ⟨hY ▸ t,f.ok rh (.tup t rv)⟩⟩
 . obtain ⟨e,e1,f⟩:=f.ofO;obtain ⟨zs,e2,rfl⟩:=Oo.mp e1;obtain ⟨x,rfl,r1⟩:=rs.one;obtain ⟨a,vs,rfl,hl,rv⟩:=r1.lstOf rh e2;exact Zbl pins s Z H _ us Q I r ⟨a,vs,rfl,.inl ⟨hY ▸ hl,fun p hp=>f.tup rh hp rv⟩⟩
 . exact f.elim
noncomputable def rM(Y:Yx)(E:XK)(m:Mf):V->List V->Hp->VK->Prop:=fun x xs H Q=>∃ d ds h B,RH Y H B h/\RD Y H B d x/\RDs Y H B ds xs/\Fin Y (RD Y) H B (Zap m d ds h) Q E
noncomputable def mid:Mf->String
 | .app => "list.append"
 | .ext => "list.extend"
 | .pop => "list.pop"
 | .rev => "list.reverse"
 | .clr => "list.clear"
theorem Zhw(hY:Y.K=X.K)(m:Mf):MtM X (mid m) (rM Y E m):=by
 intro pins s Z H x xs v us Q I rx rs hh;obtain ⟨d,ds,h,B,rh,r1,r2,f⟩:=hh;unfold Zap at f;split at f
 . split at f
   . rename_i i ys e;obtain ⟨a,vs,rfl,hi,hl,rv⟩:=r1.lst rh e;cases m with
     | app =>
       unfold Zd2 ZjF at f;simp only at f;split at f
       . obtain ⟨hz,f⟩:=f.iff;obtain ⟨y,rfl,ry⟩:=r2.one;have g:Gr H B (upd H a (.lst (vs++[y]))) B:=Gr.write (O1 hi) (by rw [hl];trivial);exact ZeA pins s Z H _ _ v us Q I rx rs ⟨a,vs,y,rfl,rfl,hl,by rw [<- rv.length];exact hz,f.wrote rh hi ⟨_,Zf,(rv.append (.cons ry .nil)).mono rh g⟩ .non (by rw [hl];trivial)⟩
       . exact f.elim
     | ext =>
       unfold Zd2 ZnA at f;simp only at f;split at f
       . split at f
         . rename_i zs e2;obtain ⟨hz,f⟩:=f.iff;obtain ⟨y,rfl,ry⟩:=r2.one;obtain ⟨b,ws,rfl,hj,hl2,rw'⟩:=ry.lst rh e2;have g:Gr H B (upd H a (.lst (vs++ws))) B:=Gr.write (O1 hi) (by rw [hl];trivial);exact Zir pins s Z H _ _ v us Q I rx rs ⟨a,b,vs,ws,rfl,rfl,hl,hl2,by rw [<- rv.length,<- rw'.length];exact hz,f.wrote rh hi ⟨_,Zf,(rv.append rw').mono rh g⟩ .non (by rw [hl];trivial)⟩
         . exact f.elim
       . obtain ⟨hz,f⟩:=f.iff;obtain ⟨y,rfl,ry⟩:=r2.one;obtain ⟨b,ws,rfl,t,rw'⟩:=ry.tup_inv;have g:Gr H B (upd H a (.lst (vs++ws))) B:=Gr.write (O1 hi) (by rw [hl];trivial);exact ZgN pins s Z H _ _ v us Q I rx rs ⟨a,b,vs,ws,rfl,rfl,hl,hY ▸ t,by rw [<- rv.length,<- rw'.length];exact hz,f.wrote rh hi ⟨_,Zf,(rv.append rw').mono rh g⟩ .non (by rw [hl];trivial)⟩
       . exact f.elim
     | pop =>
       unfold Zd2 Znz at f;simp only at f;split at f
       . split at f
         . rename_i y e2;cases r2;rw [rv.length] at e2;obtain ⟨w,e3,rw'⟩:=rv.get e2;have g:Gr H B (upd H a (.lst vs.dropLast)) B:=Gr.write (O1 hi) (by rw [hl];trivial);exact Znx pins s Z H _ _ v us Q I rx rs ⟨a,vs,w,rfl,rfl,hl,e3,f.wrote rh hi ⟨_,Zf,rv.dropLast.mono rh g⟩ (rw'.mono rh g) (by rw [hl];trivial)⟩
         . exact f.elim
       . exact f.elim
     | rev =>
       unfold Zd2 Zpi at f;simp only at f;split at f
       . cases r2;have g:Gr H B (upd H a (.lst vs.reverse)) B:=Gr.write (O1 hi) (by rw [hl];trivial);exact ZgM pins s Z H _ _ v us Q I rx rs ⟨a,vs,rfl,rfl,hl,f.wrote rh hi ⟨_,Zf,rv.reverse.mono rh g⟩ .non (by rw [hl];trivial)⟩
       . exact f.elim
     | clr =>
       unfold Zd2 Zpj at f;simp only at f;split at f
       . cases r2;exact ZjD pins s Z H _ _ v us Q I rx rs ⟨a,vs,rfl,rfl,hl,f.wrote rh hi ⟨_,Zf,.nil⟩ .non (by rw [hl];trivial)⟩
       . exact f.elim
   . exact f.elim
 . exact f.elim
noncomputable def rP(Y:Yx)(E:XK):Zl5:=fun o i v H Q=>∃ a b c h B,RH Y H B h/\RD Y H B a o/\RD Y H B b i/\RD Y H B c v/\Fin Y (fun _ _ (_:Unit) (_:Unit)=>True) H B (ZaK a b c h) (fun _ H'=>Q H') E
theorem Zm0:Zl6 X (rP Y E):=by
 intro pins s Z H o i v ov iv u Q I ro ri rv hh;obtain ⟨a,b,c,h,B,rh,ra,rb,rc,f⟩:=hh;unfold ZaK at f;split at f
 . split at f
   . rename_i j xs e;split at f
     . split at f
       . rename_i j' e2;obtain ⟨p,vs,rfl,hi,hl,rs⟩:=ra.lst rh e;have hb:=rb.int_inv;subst hb;rw [rs.length] at e2;have g:Gr H B (upd H p (.lst (vs.set j' v))) B:=Gr.write (O1 hi) (by rw [hl];trivial);exact set_list pins s Z H _ _ v ov iv u Q I ro ri rv ⟨p,vs,_,j',rfl,rfl,hl,e2,f.wrote (b:=()) rh hi ⟨_,Zf,(RDs.set rc j' rs).mono rh g⟩ trivial (by rw [hl];trivial)⟩
       . exact f.elim
     . exact f.elim
   . rename_i j kvs e;split at f
     . rename_i k e2;obtain ⟨hz,f⟩:=f.iff;obtain ⟨p,vs,rfl,hi,hl,rs⟩:=ra.dic rh e;have g:Gr H B (upd H p (.dK (putK vs k v))) B:=Gr.write (O1 hi) (by rw [hl];trivial);exact set_dict pins s Z H _ _ v ov iv u Q I ro ri rv ⟨p,vs,k,rfl,Za5 rb e2,hl,by rw [<- rs.length];exact hz,f.wrote (b:=()) rh hi ⟨_,Zf,(rs.put k rc).mono rh g⟩ trivial (by rw [hl];trivial) (ZdA (rh.ks _ _ e) (ZjK rb e2))⟩
     . exact f.elim
   . exact f.elim
 . exact f.elim
end
end IV
end
section
namespace IV
open PySem PySem.Spec PyProof.Rows L2
noncomputable def rW(K:PySem.W.Frag)(x:V)(H1:Hp)(R:It->Hp->Prop):Prop :=
 (∃ a,x=.ref a/\(∃ xs,SqL K H1 a xs)/\R (Itl K a) H1)\/(∃ a,x=.ref a/\(∃ xs,SqT K H1 a xs)/\R (Itt K a) H1)
theorem Zm6(hl:PE X l tl):PI X tg l (fun Z H R=>tl Z H fun x H1=>rW X.K x H1 R):=by
 intro pins s Z H R I h;refine thn (hl pins s Z H _ I h) fun v s1 ⟨x,H1,I1,r1,q1⟩=>?_;have fp1:∀ b∈[s1.heap.objs.size],ZaZ X pins H1 b:=fun b hb=>by
   have e:b=s1.heap.objs.size:=by simpa using hb
   subst e;exact I1.fpOk (Oq _) (I1.hok.fresh (Oq _))
 rcases q1 with ⟨a,rfl,⟨xs,hq⟩,q⟩|⟨a,rfl,⟨xs,hq⟩,q⟩
 . cases r1;obtain ⟨its,rv,p,hz⟩:=I1.list hq;exact wpAny_pyIter_list p.isList ⟨s1.heap.objs.size,[s1.heap.objs.size],_,_,H1,rfl,I1.kept (t':=s1.toks) fun b o e=>Od _ e,Zh7 a _,⟨_,Oj _ rfl,rfl,rfl⟩,fp1,q⟩
 . cases r1;obtain ⟨its,rv,p,hz⟩:=I1.tuple hq;exact wpAny_pyIter_tuple (show s1.heap.IsTuple a its.toArray from p) ⟨s1.heap.objs.size,[s1.heap.objs.size],_,_,H1,rfl,I1.kept (t':=s1.toks) fun b o e=>Od _ e,Zgw a _,⟨_,Oj _ rfl,rfl,rfl⟩,fp1,q⟩
noncomputable def WJ(Y:Yx)(H0:Hp)(μ0:List Addr)(w:Wk)(J:It):Prop:=∀ H B h,Gr H0 μ0 H B->RH Y H B h->Wk.stays w.src h=true ->
 (∀ i d,w.xs[i]? = some d->J.go i H/\∀ x H',J.yld i H x H'->Gr H B H' B/\RH Y H' B h/\RD Y H' B d x)/\J.stop w.xs.length H
section
variable {X:Cx}{Y:Yx}{E:XK}{T:Tb}{H:Hp}{B:List Addr}{h:Hd}
theorem ZmE(hY:Y.K=X.K)(rh:RH Y H B h)(t:SqT Y.K H a vs)(s:RDs Y H B xs vs):WJ Y H B ⟨[],xs⟩ (Itt X.K a):=by
 intro H1 μ1 h1 g rh1 st;have t1:=g.rdT rh t;have s1:=s.mono rh g;rw [hY] at t1;refine ⟨fun i d e=>?_,⟨vs,t1,by rw [s.length];exact Oq _⟩⟩;obtain ⟨v,e1,r1⟩:=s1.get e;refine ⟨⟨vs,v,t1,e1⟩,fun x H' ⟨eH,q⟩=>?_⟩;subst eH;have:=q vs t1;rw [e1] at this;cases this;exact ⟨Gr.refl,rh1,r1⟩
theorem Zl8(hY:Y.K=X.K)(rh:RH Y H B h)(t:FzL Y.K H a vs)(s:RDs Y H B xs vs):WJ Y H B ⟨[],xs⟩ (Itl X.K a):=by
 intro H1 μ1 h1 g rh1 st;have t1:=(g.rdF rh t).sq;have s1:=s.mono rh g;rw [hY] at t1;refine ⟨fun i d e=>?_,⟨vs,t1,by rw [s.length];exact Oq _⟩⟩;obtain ⟨v,e1,r1⟩:=s1.get e;refine ⟨⟨vs,v,t1,e1⟩,fun x H' ⟨eH,q⟩=>?_⟩;subst eH;have:=q vs t1;rw [e1] at this;cases this;exact ⟨Gr.refl,rh1,r1⟩
theorem Zdm(st:Wk.stays ((i,xs)::r) h=true):h[i]? = some (.lst xs):=of_decide_eq_true (Bool.and_eq_true_iff.mp st).1
theorem ZiM(hi:B[i]? = some a):WJ Y H B ⟨[(i,xs)],xs⟩ (Itl X.K a):=by
 intro H1 μ1 h1 g rh1 st;obtain ⟨vs,hl,s1⟩:=rh1.ob i _ a (Zdm st) (g.pre i a hi);have t1:SqL X.K H1 a vs:=.of hl;refine ⟨fun i d e=>?_,⟨vs,t1,by rw [s1.length];exact Oq _⟩⟩;obtain ⟨v,e1,r1⟩:=s1.get e;refine ⟨⟨vs,v,t1,e1⟩,fun x H' ⟨eH,q⟩=>?_⟩;subst eH;have:=q vs t1;rw [e1] at this;cases this;exact ⟨Gr.refl,rh1,r1⟩
theorem ZmF{lo:Int}:WJ Y H B ⟨[],ZR lo n⟩ (Itr lo n):=by
 intro H1 μ1 h1 g rh1 st;have hl:(ZR lo n).length=n:=by simp [ZR]
 refine ⟨fun i d e=>?_,by show n<=(ZR lo n).length;rw [hl];exact Oq _⟩;have hi:i<n:=by
   have:=(Ob.mp e).1;rw [hl] at this;exact this
 refine ⟨hi,fun x H' ⟨eH,q⟩=>?_⟩;subst eH q;have:d=.int (lo+i):=by
   unfold ZR at e;rw [On,List.getElem?_range hi] at e;exact (Option.some.inj e).symm
 subst this;exact ⟨Gr.refl,rh1,.int _⟩
theorem Zj5{xs:List D}{i:Nat}{d:D}(e:(ZaS xs)[i]? = some d):∃ x,xs[i]? = some x/\d=.tup [.int i,x]:=by
 unfold ZaS at e;rw [List.getElem?_mapIdx] at e;obtain ⟨x,e1,e2⟩:=Oo.mp e;exact ⟨x,e1,e2.symm⟩
theorem Zg6{a:Addr}{src:List (Nat×List D)}{xs:List D}(hw:WJ Y H B ⟨src,xs⟩ (Itl X.K a))(sq:∀ H1 μ1 h1,Gr H B H1 μ1->RH Y H1 μ1 h1->Wk.stays src h1=true->∃ vs,SqL X.K H1 a vs/\RDs Y H1 μ1 xs vs):WJ Y H B ⟨src,ZaS xs⟩ (Ite X.K a):=by
 intro H1 μ1 h1 g rh1 st;obtain ⟨vs,t1,s1⟩:=sq H1 μ1 h1 g rh1 st;have hl:(ZaS xs).length=xs.length:=by simp [ZaS]
 refine ⟨fun i d e=>?_,⟨vs,t1,by rw [hl,s1.length]⟩⟩;obtain ⟨x0,e0,rfl⟩:=Zj5 e;obtain ⟨v,e1,r1⟩:=s1.get e0;refine ⟨⟨vs,v,t1,e1⟩,fun x H' ⟨p,ex,hp,y,q,eH⟩=>?_⟩;subst ex eH;have:=q vs t1;rw [e1] at this;cases this;exact ⟨Gr.lay0 hp,rh1.lay0 hp,.tup (.inl (.inl Zf)) (.cons (.int _) (.cons (r1.mono rh1 (Gr.lay0 hp)) .nil))⟩
theorem ZmG(hY:Y.K=X.K)(rh:RH Y H B h)(t:SqT Y.K H a vs)(s:RDs Y H B xs vs):WJ Y H B ⟨[],xs.reverse⟩ (Itv X.K a vs.length):=by
 intro H1 μ1 h1 g rh1 st;have t1:=g.rdT rh t;have s1:=(s.mono rh g).reverse;rw [hY] at t1;refine ⟨fun i d e=>?_,⟨vs,t1,rfl,by simp [s.length]⟩⟩;obtain ⟨v,e1,r1⟩:=s1.get e;refine ⟨⟨vs,v,t1,rfl,e1⟩,fun x H' ⟨eH,q⟩=>?_⟩;subst eH;have:=q vs t1;rw [e1] at this;cases this;exact ⟨Gr.refl,rh1,r1⟩
theorem Zkm(hi:B[i]? = some a):WJ Y H B ⟨[(i,xs)],xs.reverse⟩ (Zn9 X.K a xs.length):=by
 intro H1 μ1 h1 g rh1 st;obtain ⟨vs,hl,s0⟩:=rh1.ob i _ a (Zdm st) (g.pre i a hi);have t1:SqL X.K H1 a vs:=.of hl;have s1:=s0.reverse;refine ⟨fun i d e=>?_,⟨vs,t1,s0.length.symm,by simp⟩⟩;obtain ⟨v,e1,r1⟩:=s1.get e;refine ⟨⟨vs,v,t1,s0.length.symm,e1⟩,fun x H' ⟨eH,q⟩=>?_⟩;subst eH;have:=q vs t1;rw [e1] at this;cases this;exact ⟨Gr.refl,rh1,r1⟩
theorem Zkn{d:D}{R:It->Hp->Prop}(hY:Y.K=X.K)(rh:RH Y H B h)(r:RD Y H B d x)(e:Zdh d h=some w)(q:∀ J,WJ Y H B w J->R J H):rW X.K x H R:=by
 cases d with
 | tup xs =>
   cases e;obtain ⟨a,vs,rfl,t,s⟩:=r.tup_inv;exact .inr ⟨a,rfl,⟨vs,hY ▸ t⟩,q _ (ZmE hY rh t s)⟩
 | ro xs =>
   cases e;cases r with
   | ro t s=>exact .inl ⟨_,rfl,⟨_,hY ▸ t.sq⟩,q _ (Zl8 hY rh t s)⟩
 | ref i =>
   unfold Zdh at e;simp only at e;split at e
   . rename_i xs he;cases e;obtain ⟨a,vs,rfl,hi,hl,s⟩:=r.lst rh he;exact .inl ⟨a,rfl,⟨vs,.of hl⟩,q _ (ZiM hi)⟩
   . cases e
 | _=>cases e
end
end IV
end
section
namespace IV
open PySem PySem.Spec PyProof.Rows L2
structure Kl where
 cs:List Str
 ats:List Str
 ms:List (Str×Str)
 is:List Str
 xs:List Str:=[]
 xa:List (Str×Str):=[]
structure Gm where
 N:List Str
 sc:Scope
 fs:List Str
 top:Bool
 kl:Kl
noncomputable def glb (Γ:Gm) (x:Str):Bool:=decide (Γ.sc.names.lookup x=some .globalImplicit)&&!(x==("__debug__" : Str))
noncomputable def Zkp(sc:Scope)(x:Str):Bool:=decide (sc.names.lookup x=some .local) || decide (sc.names.lookup x=some .cell) || decide (sc.names.lookup x=some .free)
noncomputable def ZhX:Bf->Str
 | .len => "len" | .isi => "isinstance" | .int => "int" | .tup => "tuple" | .lst => "list" | .sum => "sum" | .all => "all" | .srt => "sorted" | .mx => "max" | .sri => "sorted" | .lnd => "len" | .dct => "dict"
noncomputable def bok:Bf->Bool
 | .mx=>false
 | .all=>false
 | .sum=>false
 | .lst=>false
 | .sri=>false
 | .lnd=>false
 | .dct=>false
 | _=>true
noncomputable def ZjE:Mf->Str
 | .app => "append" | .ext => "extend" | .pop => "pop" | .rev => "reverse" | .clr => "clear"
noncomputable def ZhY:List Str:=["len", "isinstance", "int", "tuple", "list", "sum", "all", "sorted", "range", "enumerate", "reversed", "str", "bool", "max", "repr", "zip", "set", "dict", "any"]
noncomputable def Zhb:List String:=["int", "str", "bool", "tuple", "list"]
structure Pt where
 a:Expr:=default
 b:Expr:=default
 c:Expr:=default
 xs:List Expr:=[]
 s:Str:=⟨#[]⟩
 op:Operator:=.Add
 cs:List CmpOp:=[]
 u:UnaryOp:=.Not
 bo:BoolOp:=.And
 p:Pos:=default
 kw:List Keyword:=[]
 l:Option Expr:=none
 h:Option Expr:=none
 st:Option Expr:=none
 ks:List (Option Expr):=[]
 gs:List Comprehension:=[]
 sc:Scope:=default
 k:Nat:=0
 v:Const:=.none
noncomputable def tgE:Expr->Nat
 | .Starred _ _=>0|.BoolOp _ _ _=>1|.UnaryOp _ _ _=>2|.IfExp _ _ _ _=>3|.Compare _ _ _ _=>4|.Slice _ _ _ _=>5|.Name _ _=>6|.BinOp _ _ _ _=>7|.Tuple _ _ _=>8|.List _ _=>9
 | .Subscript _ _ _=>10|.Call _ _ _ _=>11|.Attribute _ _ _=>12|.ListComp _ _ _ _=>13|.Dict _ _ _=>14|.Constant _ _ _=>15|.NamedExpr _ _ _=>17|.Set _ _ _=>18|.SetComp _ _ _ _=>19|.DictComp _ _ _ _ _=>19|_=>16
noncomputable def prt(e:Expr):Pt:=match e with
 | .BoolOp o xs p=>{bo:=o,xs:=xs,p:=p}
 | .UnaryOp o x p=>{a:=x,u:=o,p:=p}
 | .IfExp t x y p=>{a:=t,b:=x,c:=y,p:=p}
 | .Compare l os rs p=>{a:=l,cs:=os,xs:=rs,p:=p}
 | .Slice l u s p=>{l:=l,h:=u,st:=s,p:=p}
 | .Name x p=>{s:=x,p:=p}
 | .BinOp l o r p=>{a:=l,b:=r,op:=o,p:=p}
 | .Tuple xs k p=>{xs:=xs,k:=k,p:=p}
 | .List xs p=>{xs:=xs,p:=p}
 | .Subscript x y p=>{a:=x,b:=y,p:=p}
 | .Call f xs kw p=>{a:=f,xs:=xs,kw:=kw,p:=p}
 | .Attribute x n p=>{a:=x,s:=n,p:=p}
 | .ListComp x gs sc p=>{a:=x,gs:=gs,p:=p,sc:=sc}
 | .Dict ks vs p=>{ks:=ks,xs:=vs,p:=p}
 | .Constant c k p=>{v:=c,k:=k,p:=p}
 | _=>{a:=e}
noncomputable def mkE(n:Nat)(p:Pt):Expr:=match n with
 | 1=>.BoolOp p.bo p.xs p.p|2=>.UnaryOp p.u p.a p.p|3=>.IfExp p.a p.b p.c p.p|4=>.Compare p.a p.cs p.xs p.p|5=>.Slice p.l p.h p.st p.p|6=>.Name p.s p.p|7=>.BinOp p.a p.op p.b p.p
 | 8=>.Tuple p.xs p.k p.p|9=>.List p.xs p.p|10=>.Subscript p.a p.b p.p|11=>.Call p.a p.xs p.kw p.p|12=>.Attribute p.a p.s p.p
 | 13=>.ListComp p.a p.gs p.sc p.p|14=>.Dict p.ks p.xs p.p|15=>.Constant p.v p.k p.p|_=>p.a
theorem rb(e:Expr):mkE (tgE e) (prt e)=e:=by cases e<;>rfl
theorem bL{a b:Bool}(h:(a&&b)=true):a=true:=by cases a with|true=>rfl|false=>cases h
theorem bR{a b:Bool}(h:(a&&b)=true):b=true:=by cases a with|true=>exact h|false=>cases h
theorem bO{a b:Bool}{P:Prop}(h:(a || b)=true)(l:a=true->P)(r:b=true->P):P:=by cases a with|true=>exact l rfl|false=>exact r h
theorem ff{P:Prop}(h:false=true):P:=by cases h
theorem dS{α:Type}{P:α->Prop}{a b:α}[Decidable (a=b)](h:decide (a=b)=true)(k:P b):P a:=of_decide_eq_true h ▸ k
noncomputable def an(n:Nat)(e:Expr)(f:Pt->Bool):Bool:=decide (tgE e=n)&&f (prt e)
section
variable {P:Expr->Prop}{e:Expr}
theorem Z1(h:an n e f=true)(k:∀ p,f p=true->P (mkE n p)):P e:=rb e ▸ dS (P:=fun m=>P (mkE m (prt e))) (bL h) (k _ (bR h))
noncomputable def l1{α:Type}(xs:List α)(f:α->Bool):Bool:=match xs with
 | [y]=>f y
 | _=>false
@[elab_as_elim] theorem ZaR{α:Type}{P:List α->Prop}{xs:List α}{f:α->Bool}(h:l1 xs f=true)(k:∀ y,f y=true->P [y]):P xs:=by
 cases xs with
 | nil=>cases h
 | cons y r =>
   cases r with
   | nil=>exact k y h
   | cons _ _=>cases h
noncomputable def l2{α:Type}(xs:List α)(f:α->α->Bool):Bool:=match xs with
 | [x,y]=>f x y
 | _=>false
@[elab_as_elim] theorem Zpo{α:Type}{P:List α->Prop}{xs:List α}{f:α->α->Bool}(h:l2 xs f=true)(k:∀ x y,f x y=true->P [x,y]):P xs:=by
 cases xs with
 | nil=>cases h
 | cons x r =>
   cases r with
   | nil=>cases h
   | cons y r =>
     cases r with
     | nil=>exact k x y h
     | cons _ _=>cases h
noncomputable def l0{α:Type}(xs:List α)(b:Bool):Bool:=xs.isEmpty&&b
theorem ZhB{α:Type}{P:List α->Prop}{xs:List α}(h:l0 xs b=true)(k:b=true->P []):P xs:=by
 cases xs with
 | nil=>exact k h
 | cons _ _=>cases h
@[irreducible] noncomputable def aN(e:Expr)(f:Str->Bool):Bool:=an 6 e fun p=>f p.s
@[elab_as_elim] theorem Zpe(h:aN e f=true)(k:∀ x q,f x=true->P (.Name x q)):P e:=by
 unfold aN at h;exact Z1 h fun _ h=>k _ _ h
@[irreducible] noncomputable def aX(x:Str)(e:Expr)(b:Bool):Bool:=an 6 e fun p=>decide (p.s=x)&&b
@[elab_as_elim] theorem ZmD(h:aX x e b=true)(k:∀ q,b=true->P (.Name x q)):P e:=by
 unfold aX at h;exact Z1 h fun p h=>dS (P:=fun s=>P (.Name s p.p)) (bL h) (k _ (bR h))
@[irreducible] noncomputable def aB2(o:Operator)(e:Expr)(f:Expr->Expr->Bool):Bool:=an 7 e fun p=>decide (p.op=o)&&f p.a p.b
@[elab_as_elim] theorem ZpM(h:aB2 o e f=true)(k:∀ l r q,f l r=true->P (.BinOp l o r q)):P e:=by
 unfold aB2 at h;exact Z1 h fun p h=>dS (P:=fun s=>P (.BinOp p.a s p.b p.p)) (bL h) (k _ _ _ (bR h))
@[irreducible] noncomputable def aC1(o:CmpOp)(e:Expr)(f:Expr->Expr->Bool):Bool:=an 4 e fun p=>decide (p.cs=[o])&&l1 p.xs fun r=>f p.a r
@[elab_as_elim] theorem Zmv(h:aC1 o e f=true)(k:∀ l r q,f l r=true->P (.Compare l [o] [r] q)):P e:=by
 unfold aC1 at h;exact Z1 h fun p h=>dS (P:=fun s=>P (.Compare p.a s p.xs p.p)) (bL h) (ZaR (P:=fun s=>P (.Compare p.a [o] s p.p)) (bR h) fun _ h=>k _ _ _ h)
@[irreducible] noncomputable def aU(u:UnaryOp)(e:Expr)(f:Expr->Bool):Bool:=an 2 e fun p=>decide (p.u=u)&&f p.a
@[elab_as_elim] theorem ZmK(h:aU u e f=true)(k:∀ x q,f x=true->P (.UnaryOp u x q)):P e:=by
 unfold aU at h;exact Z1 h fun p h=>dS (P:=fun s=>P (.UnaryOp s p.a p.p)) (bL h) (k _ _ (bR h))
@[irreducible] noncomputable def aO(o:BoolOp)(e:Expr)(f:List Expr->Bool):Bool:=an 1 e fun p=>decide (p.bo=o)&&f p.xs
@[elab_as_elim] theorem Zll(h:aO o e f=true)(k:∀ xs q,f xs=true->P (.BoolOp o xs q)):P e:=by
 unfold aO at h;exact Z1 h fun p h=>dS (P:=fun s=>P (.BoolOp s p.xs p.p)) (bL h) (k _ _ (bR h))
@[irreducible] noncomputable def aI(e:Expr)(f:Expr->Expr->Expr->Bool):Bool:=an 3 e fun p=>f p.a p.b p.c
@[elab_as_elim] theorem ZqM(h:aI e f=true)(k:∀ t x y q,f t x y=true->P (.IfExp t x y q)):P e:=by
 unfold aI at h;exact Z1 h fun _ h=>k _ _ _ _ h
@[irreducible] noncomputable def aT(e:Expr)(f:List Expr->Bool):Bool:=an 8 e fun p=>f p.xs
@[elab_as_elim] theorem ZfG(h:aT e f=true)(k:∀ xs j q,f xs=true->P (.Tuple xs j q)):P e:=by
 unfold aT at h;exact Z1 h fun _ h=>k _ _ _ h
@[irreducible] noncomputable def aLs(e:Expr)(f:List Expr->Bool):Bool:=an 9 e fun p=>f p.xs
@[elab_as_elim] theorem Zpl(h:aLs e f=true)(k:∀ xs q,f xs=true->P (.List xs q)):P e:=by
 unfold aLs at h;exact Z1 h fun _ h=>k _ _ h
@[irreducible] noncomputable def aS(e:Expr)(f:Expr->Expr->Bool):Bool:=an 10 e fun p=>f p.a p.b
@[elab_as_elim] theorem ZmU(h:aS e f=true)(k:∀ x y q,f x y=true->P (.Subscript x y q)):P e:=by
 unfold aS at h;exact Z1 h fun _ h=>k _ _ _ h
@[irreducible] noncomputable def aSl(e:Expr)(f:Expr->Option Expr->Option Expr->Bool):Bool:=aS e fun x y=>an 5 y fun p=>p.st.isNone&&f x p.l p.h
@[elab_as_elim] theorem ZoF(h:aSl e f=true)(k:∀ x l u q r,f x l u=true->P (.Subscript x (.Slice l u none q) r)):P e:=by
 unfold aSl at h;exact ZmU h fun x _ r h=>Z1 (P:=fun y=>P (.Subscript x y r)) h fun p h=>by
   show P (.Subscript x (.Slice p.l p.h p.st p.p) r);rw [Option.isNone_iff_eq_none.mp (bL h)];exact k _ _ _ _ _ (bR h)
@[irreducible] noncomputable def aCN(n:Str)(e:Expr)(f:List Expr->Bool):Bool:=an 11 e fun p=>aX n p.a (l0 p.kw (f p.xs))
@[elab_as_elim] theorem ZdO(h:aCN n e f=true)(k:∀ p ys q,f ys=true->P (.Call (.Name n p) ys [] q)):P e:=by
 unfold aCN at h;exact Z1 h fun p h=>ZmD (P:=fun a=>P (.Call a p.xs p.kw p.p)) h fun q h=>ZhB (P:=fun w=>P (.Call (.Name n q) p.xs w p.p)) h fun h=>k _ _ _ h
@[irreducible] noncomputable def aA(n:Str)(e:Expr)(f:Expr->Pos->Bool):Bool:=an 12 e fun p=>decide (p.s=n)&&f p.a p.p
@[elab_as_elim] theorem ZpP(h:aA n e f=true)(k:∀ x q,f x q=true->P (.Attribute x n q)):P e:=by
 unfold aA at h;exact Z1 h fun p h=>dS (P:=fun s=>P (.Attribute p.a s p.p)) (bL h) (k _ _ (bR h))
@[irreducible] noncomputable def aCA(n:Str)(e:Expr)(f:Expr->Pos->List Expr->Pos->Bool):Bool:=an 11 e fun p=>aA n p.a fun x ap=>l0 p.kw (f x ap p.xs p.p)
@[elab_as_elim] theorem Zmt(h:aCA n e f=true)(k:∀ x ap ys cp,f x ap ys cp=true->P (.Call (.Attribute x n ap) ys [] cp)):P e:=by
 unfold aCA at h;exact Z1 h fun p h=>ZpP (P:=fun a=>P (.Call a p.xs p.kw p.p)) h fun x q h=>ZhB (P:=fun w=>P (.Call (.Attribute x n q) p.xs w p.p)) h fun h=>k _ _ _ _ h
@[irreducible] noncomputable def aLC(e:Expr)(f:Expr->Expr->Expr->List Expr->Scope->Bool):Bool:=an 13 e fun p=>l1 p.gs fun g=>match g with|⟨t,i,c,n⟩=>decide (n=0)&&f p.a t i c p.sc
@[elab_as_elim] theorem Zmg(h:aLC e f=true)(k:∀ x t i c sc q,f x t i c sc=true->P (.ListComp x [⟨t,i,c,0⟩] sc q)):P e:=by
 unfold aLC at h;exact Z1 h fun p h=>ZaR (P:=fun g=>P (.ListComp p.a g p.sc p.p)) h fun g h=>match g,h with
   | ⟨t,i,c,_⟩,h=>dS (P:=fun s=>P (.ListComp p.a [⟨t,i,c,s⟩] p.sc p.p)) (bL h) (k _ _ _ _ _ _ (bR h))
@[irreducible] noncomputable def aD(e:Expr)(f:List (Option Expr)->List Expr->Bool):Bool:=an 14 e fun p=>f p.ks p.xs
@[elab_as_elim] theorem Zq1(h:aD e f=true)(k:∀ ks vs q,f ks vs=true->P (.Dict ks vs q)):P e:=by
 unfold aD at h;exact Z1 h fun _ h=>k _ _ _ h
@[irreducible] noncomputable def aK(e:Expr)(f:Const->Bool):Bool:=an 15 e fun p=>f p.v
@[elab_as_elim] theorem ZqL(h:aK e f=true)(k:∀ c j q,f c=true->P (.Constant c j q)):P e:=by
 unfold aK at h;exact Z1 h fun _ h=>k _ _ _ h
end
noncomputable def Zq3:D->Const->Bool
 | .int i,.int j=>decide (i=j)
 | .str x,.str y=>decide (x=y)&&PyData.strOk y
 | .bl b,.bool c=>decide (b=c)
 | .non,.none=>true
 | _,_=>false
noncomputable def ZpJ(Γ:Gm)(d:D)(e:Expr):Bool:=(aK e fun c=>Zq3 d c) || match d with
 | .ty n=>aX (Str.ofString n) e (decide (n∈Zhb)&&glb Γ (Str.ofString n))
 | _=>false
noncomputable def Zj9(NC N:List Str)(js:List (Option Nat))(sc scope:Scope):Bool :=
 decide (scope.kind=.function)&&decide (sc.kind=.function)&&(scope.names.all fun y=>decide (y.2≠.cell))&&(scope.names.all fun y=>!decide (y.2=.local) || decide (scope.names.lookup y.1=some .local)) &&
   (scope.names.all fun y=>!decide (y.2=.free) || decide (sc.names.lookup y.1=some .cell))&&decide NC.Nodup&&decide (js.length=NC.length) &&
   ((NC.zip js).all fun p=>p.2.all fun j=>decide (N[j]? = some p.1)&&decide (scope.names.lookup p.1=some .free))
theorem Zgf(h:Zj9 NC N js sc scope=true):CompSc NC N js sc scope:=by
 unfold Zj9 at h;rw [Oa,Oa,Oa,Oa,Oa,Oa,Oa] at h;obtain ⟨⟨⟨⟨⟨⟨⟨a,b⟩,c⟩,d⟩,e⟩,f⟩,g⟩,i⟩:=h;rw [OC] at c d e;refine ⟨of_decide_eq_true a,of_decide_eq_true b,fun y hy=>of_decide_eq_true (c y hy),fun y hy e1=>?_,fun y hy e1=>?_,of_decide_eq_true f,of_decide_eq_true g,i⟩
 . have:=d y hy;rw [decide_eq_true e1] at this;simpa using this
 . have:=e y hy;rw [decide_eq_true e1] at this;simpa using this
noncomputable def Ziq(N:List Str)(own:Str->Bool)(i:Nat)(e:Expr):Bool:=aN e fun x=>decide (N[i]? = some x)&&own x
noncomputable def ZhU(N:List Str)(own:Str->Bool):List Nat->List Expr->Bool
 | [],es=>es.isEmpty
 | i::is,es=>match es with
   | e::es=>Ziq N own i e&&ZhU N own is es
   | []=>false
noncomputable def ZhW(N:List Str)(own:Str->Bool)(i j:Nat)(e:Expr):Bool:=aT e fun es=>l2 es fun a b=>Ziq N own i a&&Ziq N own j b
noncomputable def ZhV(N:List Str)(own:Str->Bool)(is:List Nat)(e:Expr):Bool:=aT e fun es=>ZhU N own is es
noncomputable def ZlO(N:List Str)(own:Str->Bool)(g:Tg)(e:Expr):Bool:=match g with
 | .nm i=>Ziq N own i e
 | .two i j=>ZhW N own i j e
 | .many is=>ZhV N own is e
@[elab_as_elim] theorem Zad{P:Expr->Prop}(h:Ziq N own i e=true)(k:∀ x p,N[i]? = some x->own x=true->P (.Name x p)):P e:=Zpe h fun _ _ h=>k _ _ (of_decide_eq_true (bL h)) (bR h)
noncomputable def isTup(e:Expr):Bool:=decide (tgE e=8)
@[elab_as_elim] theorem Zmj{P:Expr->Prop}(h:isTup e=true)(k:∀ xs j q,P (.Tuple xs j q)):P e:=ZfG (P:=P) (f:=fun _=>true) (by unfold aT an;rw [show decide (tgE e=8)=true from h];rfl) fun _ _ _ _=>k _ _ _
noncomputable def tgk:Tg->Nat
 | .nm i=>i+1
 | .two i j=>max i j+1
 | .many is=>is.foldr max 0+1
noncomputable def ZoZ(sc:Scope)(x:Str):Bool:=decide (sc.names.lookup x=some .local)
noncomputable def ownD(sc:Scope)(x:Str):Bool:=decide (sc.names.lookup x=some .local) || decide (sc.names.lookup x=some .cell)
noncomputable def ZbL(e:Expr):Bool:=decide (tgE e≠18)
noncomputable def Zdx(e:Expr):Bool:=decide (tgE e≠5)
noncomputable def Za3(e:Expr):Bool:=decide (tgE e≠0)
noncomputable def Zan(e:Expr):Bool:=!(decide (tgE e=11)&&(prt e).xs.isEmpty)
noncomputable def ZgG(e:Expr):Bool:=decide (6<=tgE e)&&decide (tgE e<=16)
mutual
noncomputable def chk(Γ:Gm):Ex->Expr->Bool
 | .var i,e=>aN e fun x=>decide (Γ.N[i]? = some x)&&(Zkp Γ.sc x&&(!(x==("__debug__" : Str))&&!(x==("__classdict__" : Str))))
 | .cst d,e=>ZpJ Γ d e
 | .glo x,e=>aX x e (glb Γ x)
 | .bin op a b,e=>aB2 op e fun l r=>chk Γ a l&&chk Γ b r
 | .cmp op a b,e=>aC1 op e fun l r=>chk Γ a l&&(chk Γ b r&&ZbL r)
 | .cmp2 _ _ _ _ _,_=>false
 | .neg a,e=>aU .USub e fun x=>chk Γ a x
 | .nt a,e=>aU .Not e fun x=>chk Γ a x
 | .ands es,e=>aO .And e fun xs=>chks Γ es xs
 | .ors es,e=>aO .Or e fun xs=>chks Γ es xs
 | .ite c a b,e=>aI e fun t x y=>chkt Γ c t&&(chk Γ a x&&chk Γ b y)
 | .tupl es,e=>aT e fun xs=>chks Γ es xs
 | .lstl es,e=>aLs e fun xs=>chks Γ es xs
 | .ix a i,e=>aS e fun x y=>chk Γ a x&&(chk Γ i y&&Zdx y)
 | .sl a lo hi,e=>aSl e fun x l u=>chk Γ a x&&(chko Γ lo l&&chko Γ hi u)
 | .blt f es,e=>aCN (ZhX f) e fun ys=>(bok f&&glb Γ (ZhX f))&&(chks Γ es ys&&!ys.isEmpty)
 | .call f es,e=>aCN f e fun ys=>decide (f∈Γ.fs)&&(glb Γ f&&(chks Γ es ys&&!ys.isEmpty))
 | .meth m o es,e=>aCA (ZjE m) e fun x ap ys cp=>chk Γ o x&&(Zan x&&(chks Γ es ys&&(decide (ys.length<29)&&(ap.endLine==cp.line))))
 | .trev _,_=>false
 | .lrv _,_=>false
 | .tix _ _,_=>false
 | .lix _ _,_=>false
 | .lin _ _,_=>false
 | .rpn _ _,_=>false
 | .comp NC js it g c e,x=>aLC x fun elt tg iter ifs scope=>Γ.top&&(Zj9 NC Γ.N js Γ.sc scope&&(chki Γ it tg iter&&(ZbL iter&&(ZlO NC (ZoZ scope) g tg&&(((List.range (tgk g)).all fun j=>decide (js[j]? = some none)) &&
       (chkf ⟨NC,scope,Γ.fs,false,Γ.kl⟩ c ifs&&chk ⟨NC,scope,Γ.fs,false,Γ.kl⟩ e elt))))))
 | .sorts e,x=>aCN "sorted" x fun ys=>l1 ys fun z=>aCN "set" z fun ys=>l1 ys fun y=>glb Γ "sorted" && (glb Γ "set" && (chk Γ e y&&Za3 y))
 | .maxd _ _,_=>false
 | .dictl ps,e=>aD e fun keys values=>decide (keys.length<=15)&&chkp Γ ps keys values
 | .att Cs o f,e=>aA f e fun x _=>chk Γ o x&&(Zan x&&((Cs.all fun C=>decide (C∈Γ.kl.cs))&&decide (f∈Γ.kl.ats)))
 | .mk _ _,_=>false
 | .mcl C m o es,e=>aCA m e fun x ap ys cp=>chk Γ o x&&(Zan x&&(chks Γ es ys&&(decide ((C,m)∈Γ.kl.ms)&&(decide (ys.length<29)&&(ap.endLine==cp.line)))))
 | .any,_=>true
noncomputable def chks(Γ:Gm):Exs->List Expr->Bool
 | .nil,es=>es.isEmpty
 | .cons e r,es=>match es with
   | x::xs=>chk Γ e x&&(Za3 x&&chks Γ r xs)
   | []=>false
noncomputable def chkp(Γ:Gm):Exs->List (Option Expr)->List Expr->Bool
 | .nil,ks,vs=>ks.isEmpty&&vs.isEmpty
 | .cons k r,ks,vs=>match r with
   | .cons v r'=>match ks,vs with
     | some kx::ks,vx::vs=>chk Γ k kx&&(chk Γ v vx&&chkp Γ r' ks vs)
     | _,_=>false
   | .nil=>false
noncomputable def chko(Γ:Gm):Option Ex->Option Expr->Bool
 | none,x=>x.isNone
 | some a,x=>match x with
   | some x=>chk Γ a x
   | none=>false
noncomputable def chkf(Γ:Gm):Option Tx->List Expr->Bool
 | none,x=>x.isEmpty
 | some a,x=>l1 x fun x=>chkt Γ a x
noncomputable def Zq2(Γ:Gm):Ex->Expr->Bool
 | .cmp op a b,e=>aC1 op e fun l r=>chk Γ a l&&(chk Γ b r&&ZbL r)
 | _,_=>false
noncomputable def chkt(Γ:Gm):Tx->Expr->Bool
 | .ex e,x=>(ZgG x&&chk Γ e x) || Zq2 Γ e x
 | .ands ts,x=>aO .And x fun xs=>chkts Γ ts xs
 | .ors ts,x=>aO .Or x fun xs=>chkts Γ ts xs
 | .nt t,x=>aU .Not x fun y=>chkt Γ t y
noncomputable def chkts(Γ:Gm):Txs->List Expr->Bool
 | .one t,xs=>l1 xs fun x=>chkt Γ t x
 | .cons t ts,xs=>match xs with
   | x::r=>chkt Γ t x&&(!r.isEmpty&&chkts Γ ts r)
   | _=>false
noncomputable def chki(Γ:Gm):Ix->Expr->Expr->Bool
 | .pl e,_,x=>chk Γ e x
 | .rng e,_,x=>aCN "range" x fun ys=>l1 ys fun y=>glb Γ "range" && (chk Γ e y&&Za3 y)
 | .rng2 _ _,_,_=>false
 | .enu e,tg,x=>aCN "enumerate" x fun ys=>l1 ys fun y=>glb Γ "enumerate" && (chk Γ e y&&(Za3 y&&isTup tg))
 | .rev e,_,x=>aCN "reversed" x fun ys=>l1 ys fun y=>glb Γ "reversed" && (chk Γ e y&&Za3 y)
 | .en1 _,_,_=>false
 | .zl _ _,_,_=>false
 | .zp _ _,_,_=>false
 | .en0 _,_,_=>false
 | .dk _,_,_=>false
end
end IV
end
section
namespace IV
open PySem PySem.Spec PyProof.Rows L2
noncomputable def leS(a b:Str):Prop:=¬ b.cps.toList<a.cps.toList
theorem ZeC(h:leS a b)(q:leS b c):leS a c:=by
 unfold leS at *;rw [List.not_lt] at *;exact List.le_trans h q
theorem Zf4(h:leS a b)(q:leS b a):a=b:=by
 unfold leS at *;rw [List.not_lt] at *;have e:=List.le_antisymm h q;obtain ⟨⟨a⟩⟩:=a;obtain ⟨⟨b⟩⟩:=b;simp at e;subst e;rfl
theorem ZfJ:∀ {ss:List Str},sortedS ss=true->ss.Pairwise leS:=by
 have gen:∀ (r:List Str) (p:Str),risingS p r=true->(∀ x∈r,leS p x)/\r.Pairwise leS:=by
   intro r;induction r with
   | nil=>intro p _;exact ⟨by simp,.nil⟩
   | cons x r ih =>
     intro p h;rw [risingS,Oa] at h;obtain ⟨h1,h2⟩:=ih x h.2;have hx:leS p x:=by
       have:=h.1;rw [ltCps_eq] at this;unfold leS;simpa using this
     refine ⟨fun y hy=>?_,.cons h1 h2⟩;rcases O2.mp hy with rfl|hy
     . exact hx
     . exact ZeC hx (h1 y hy)
 intro ss h;cases ss with
 | nil=>exact .nil
 | cons x r=>obtain ⟨h1,h2⟩:=gen r x h;exact .cons h1 h2
theorem Zdq(x:Str):∀ r:List Str,(Zie x r).Perm (x::r)
 | []=>.refl _
 | y::r=>by
   unfold Zie;split
   . exact ((Zdq x r).cons y).trans (.swap x y r)
   . exact .refl _
theorem ZU:∀ r:List Str,(Z3 r).Perm r
 | []=>.refl _
 | x::r=>(Zdq x _).trans ((ZU r).cons x)
theorem ZfQ(x:Str):∀ r:List Str,r.Pairwise leS->(Zie x r).Pairwise leS
 | [],_=>.cons (by simp) .nil
 | y::r,h=>by
   cases h with
   | cons h1 h2 =>
     unfold Zie;split
     . rename_i hlt;rw [ltCps_eq] at hlt;have hlt:=of_decide_eq_true hlt;refine .cons (fun z hz=>?_) (ZfQ x r h2);rcases O2.mp ((Zdq x r).mem_iff.mp hz) with rfl|hz
       . unfold leS;rw [List.not_lt];exact List.le_of_lt hlt
       . exact h1 z hz
     . rename_i hlt;have hxy:leS x y:=by
         unfold leS;rw [ltCps_eq] at hlt;simpa using hlt
       refine .cons (fun z hz=>?_) (.cons h1 h2);rcases O2.mp hz with rfl|hz
       . exact hxy
       . exact ZeC hxy (h1 z hz)
theorem Za0:∀ r:List Str,(Z3 r).Pairwise leS
 | []=>.nil
 | x::r=>ZfQ x _ (Za0 r)
theorem Zet(hp:ss'.Perm ss)(hs:sortedS ss'=true):ss'=Z3 ss :=
 (hp.trans (ZU ss).symm).eq_of_pairwise (fun _ _ _ _ h q=>Zf4 h q) (ZfJ hs) (Za0 ss)
section
variable {X:Cx}{Y:Yx}{E:XK}{T:Tb}{H:Hp}{B:List Addr}{h:Hd}
theorem ZcJ:∀ {ds:List (Key×D)}{vs:List (Key×V)}{ss:List Str},RKs Y H B ds vs->Za4 ds=some ss->vs.map (·.1)=ss.map Sum.inr
 | _,_,_,.nil,e=>by cases e;rfl
 | _,_,_,.cons (k:=k) a s,e=>by
   cases k with
   | inl i=>cases e
   | inr x =>
     rw [Za4] at e;obtain ⟨z,e1,rfl⟩:=Oo.mp e;rw [Op,Op,ZcJ s e1]
theorem ZeO:∀ (ss:List Str),(∀ x∈ss,PyData.strOk x=true)->RDs Y H B (ss.map D.str) (ss.map V.str)
 | [],_=>.nil
 | x::r,h=>.cons (.str x (h x (by simp))) (ZeO r fun y hy=>h y (by simp [hy]))
theorem ZlT (hc:X.A.handled=none) (G:Gk X Y T):Zau X (.builtin "sorted") (rF Y E (Zcb T.GD)):=by
 intro pins s Z H xs us Q I r hh;obtain ⟨ds,h,B,rh,rs,f⟩:=hh;unfold Zcb at f;split at f
 . split at f
   . rename_i ss e2;obtain ⟨hz,f⟩:=f.iff;obtain ⟨kvs,e3,e4⟩:=Option.bind_eq_some_iff.mp e2;obtain ⟨x,rfl,r1⟩:=rs.one;obtain ⟨a,kvs',rfl,hd,rk⟩:=r1.dicOf G rh e3;obtain ⟨hz,hok⟩:=hz;refine Zfg hc pins s Z H _ us Q I r ⟨a,kvs',ss,rfl,hd,ZcJ rk e4,hz,fun p ss' hp h1 h2=>?_⟩;rw [Zet h1 h2];refine f.new rh hp ⟨_,Zf,ZeO _ fun y hy=>?_⟩;rw [OC] at hok;exact hok y ((ZU ss).mem_iff.mp hy)
   . exact f.elim
 . exact f.elim
theorem Zcq(x:Str):∀ ss:List Str,x∈ddS ss↔x∈ss
 | []=>Iff.rfl
 | y::r=>by
   rw [ddS];split
   . rename_i h;rw [Zcq x r,O2];exact ⟨.inr,fun z=>z.elim (fun z=>z ▸ h) id⟩
   . rw [O2,O2,Zcq x r]
theorem ZhQ:∀ ss:List Str,(ddS ss).Nodup
 | []=>List.nodup_nil
 | y::r=>by
   rw [ddS];split
   . exact ZhQ r
   . rename_i h;exact List.nodup_cons.mpr ⟨fun z=>h ((Zcq y r).mp z),ZhQ r⟩
theorem Zff{ks ss:List Str}(nd:ks.Nodup)(mm:∀ x,x∈ks↔x∈ss):ks.Perm (ddS ss):=(List.perm_ext_iff_of_nodup nd (ZhQ ss)).mpr fun x=>(mm x).trans (Zcq x ss).symm
theorem ZfH:∀ {ds:List D}{vs:List V}{ss:List Str},RDs Y H B ds vs->strsOf ds=some ss->vs=ss.map V.str
 | _,_,_,.nil,e=>by cases e;rfl
 | _,_,_,.cons (d:=d) a s,e=>by
   cases d with
   | str i =>
     rw [strsOf] at e;obtain ⟨z,e1,rfl⟩:=Oo.mp e;cases a;rw [ZfH s e1];rfl
   | _=>cases e
end
end IV
end
section
set_option tactic.hygienic false
namespace IV
open PySem PySem.Spec PyProof.Rows L2
noncomputable def RS(Y:Yx)(H:Hp)(B:List Addr)(S:Ev)(Z:L2.St):Prop:=Z.length=S.length/\∀ (i:Nat) (d:D),S[i]? = some (some d)->∃ v,Z[i]? = some (some v)/\RD Y H B d v
section
variable {Y:Yx}{H H':Hp}{B μ':List Addr}{h:Hd}{S:Ev}{Z:L2.St}
theorem RS.mono(rh:RH Y H B h)(g:Gr H B H' μ')(r:RS Y H B S Z):RS Y H' μ' S Z:=⟨r.1,fun i d e=>let ⟨v,h1,h2⟩:=r.2 i d e;⟨v,h1,h2.mono rh g⟩⟩
theorem RS.var(r:RS Y H B S Z){i:Nat}{d:D}(e:(S[i]?).join=some d):∃ v,Z[i]? = some (some v)/\RD Y H B d v:=by
 refine r.2 i d ?_;cases q:S[i]? with
 | none=>rw [q] at e;cases e
 | some o=>rw [q] at e;cases o with
   | none=>cases e
   | some d'=>cases e;rfl
theorem RS.set(r:RS Y H B S Z){i:Nat}{d:D}{v:V}(q:RD Y H B d v):RS Y H B (S.set i (some d)) (Z.set i (some v)):=by
 refine ⟨by simp [r.1],fun j e he=>?_⟩;by_cases hj:i=j
 . subst hj;have hl:i<S.length:=by
     have:=(Ob.mp he).1;simpa using this
   rw [Ol hl] at he;cases he;exact ⟨v,by rw [Ol (by rw [r.1];exact hl)],q⟩
 . rw [Oc hj] at he;obtain ⟨w,h1,h2⟩:=r.2 j e he;exact ⟨w,by rw [Oc hj];exact h1,h2⟩
theorem RS.capt(r:RS Y H B S Z)(js:List (Option Nat)):RS Y H B (ZcR js S) (capt js Z):=by
 refine ⟨by simp [ZcR,L2.capt],fun i d e=>?_⟩;unfold ZcR at e;unfold L2.capt;rw [On] at e ⊢;cases q:js[i]? with
 | none=>rw [q] at e;cases e
 | some o =>
   rw [q] at e;cases o with
   | none=>cases e
   | some j =>
     have e':(S[j]?).join=some d:=by simpa using e
     obtain ⟨v,h1,h2⟩:=r.var e';exact ⟨v,by simp [h1],h2⟩
end
inductive Sm(Y:Yx)(E:XK){α β:Type}(rel:Hp->List Addr->α->β->Prop)(m:Ev->Hd->R α)(Z:L2.St)(H:Hp)(Q:β->Hp->Prop):Prop
 | mk (S:Ev) (h:Hd) (B:List Addr) (rh:RH Y H B h) (rs:RS Y H B S Z) (f:Fin Y rel H B (m S h) Q E):Sm Y E rel m Z H Q
noncomputable def eqR{α:Type}:Hp->List Addr->α->α->Prop:=fun _ _ a b=>a=b
theorem Sm.bind{α β γ δ:Type}{Q:β->Hp->Prop}{rel:Hp->List Addr->γ->δ->Prop}{rel':Hp->List Addr->α->β->Prop}{m:Ev->Hd->R γ}{k:Ev->γ->Hd->R α}(s:Sm Y E rel' (fun S h=>(m S h).bind (k S)) Z H Q)
   {Q1:δ->Hp->Prop}
   (hk:∀ S d h1 v H1 μ1,RH Y H1 μ1 h1->RS Y H1 μ1 S Z->rel H1 μ1 d v->Fin Y rel' H1 μ1 (k S d h1) Q E->Q1 v H1):Sm Y E rel m Z H Q1:=by
 cases s with
 | mk S h B rh rs f=>exact ⟨S,h,B,rh,rs,f.bind fun d h1 x H1 μ1 _ g rh1 rd f1=>hk S d h1 x H1 μ1 rh1 (rs.mono rh g) rd f1⟩
section
variable (T:Tb) (Y:Yx) (E:XK)
noncomputable def ZV(e:Ex):TE:=Sm Y E (RD Y) (ev T e)
noncomputable def ZkC(e:Exs):TA:=Sm Y E (RDs Y) (evs T e)
noncomputable def Zib(e:Tx):TT:=Sm Y E eqR (tst T e)
noncomputable def Zqo(e:Option Ex):TO:=Sm Y E eqR (evo T e)
noncomputable def Zqp(e:Ix):TI:=Sm Y E (WJ Y) (evi T e)
noncomputable def Zdn(f:Str):Sp:=fun vs H Q E=>∃ ds h B,RH Y H B h/\RDs Y H B ds vs/\Fin Y (RD Y) H B (T.C f ds h) Q E
end
structure Gd(T:Tb)(Γ:Gm)(X:Cx)(Y:Yx)(E:XK)(k:Nat):Prop where
 gk:Gk X Y T
 N:X.N=Γ.N
 sc:Γ.top=true->X.env.scope=Γ.sc
 vis:∀ x,Zkp Γ.sc x=true->Vis X.env.scope x
 glo:∀ x,Γ.sc.names.lookup x=some .globalImplicit->Gl X x
 nd:X.N.Nodup
 calm:X.calm=true
 room:Room k X.A
 h60:60<=k
 pass:ZaY (CXF X.prog X.w) X E
 defs:∀ f∈Γ.fs,∃ ps,Def X.prog X.w X.K X.mg X.base k f ps (Zdn T Y f)
 blt:∀ x∈ZhY,X.mg x=none
 room1:Room (k+1) X.A
 cls:∀ C∈Γ.kl.cs,∃ a,X.mg C=some (.ref a)/\Cls X.K a/\∀ f∈Γ.kl.ats,ZcF X.K a f
 mts:∀ p∈Γ.kl.ms,∃ a f fd ps,X.mg p.1=some (.ref a)/\Cls X.K a/\Meth X.K a p.2 f/\FnOk X.prog X.w X.K X.mg X.base (CXF X.prog X.w) k f fd ps (Zdn T Y (mnm p.1 p.2))/\Binds X.K fd ps []
 mks:∀ C∈Γ.kl.is,∃ a f fd ps,X.mg C=some (.ref a)/\Mk X.K a f/\FnOk X.prog X.w X.K X.mg X.base (CXF X.prog X.w) k f fd ps (Zdn T Y (mnm C (O "__init__")))/\Binds X.K fd ps []
theorem _root_.L2.PE.imp(h:PE X e t)(i:∀ Z H Q,t' Z H Q->t Z H Q):PE X e t':=fun pins s Z H Q I q=>h pins s Z H Q I (i Z H Q q)
theorem _root_.L2.PT.imp(h:PT X e t)(i:∀ Z H Q,t' Z H Q->t Z H Q):PT X e t':=fun pins s Z H Q I q=>h pins s Z H Q I (i Z H Q q)
theorem _root_.L2.PW.imp(h:PW X e t)(i:∀ Z H Q,t' Z H Q->t Z H Q):PW X e t':=fun w pins s Z H Q I q=>h w pins s Z H Q I (i Z H Q q)
theorem _root_.L2.PA.imp(h:PA X e t)(i:∀ Z H Q,t' Z H Q->t Z H Q):PA X e t':=fun p pins s Z H Q I q=>h p pins s Z H Q I (i Z H Q q)
theorem _root_.L2.PO.imp(h:PO X e t)(i:∀ Z H Q,t' Z H Q->t Z H Q):PO X e t':=fun pins s Z H Q I q=>h pins s Z H Q I (i Z H Q q)
theorem _root_.L2.PI.imp(h:PI X tg e t)(i:∀ Z H Q,t' Z H Q->t Z H Q):PI X tg e t':=fun pins s Z H Q I q=>h pins s Z H Q I (i Z H Q q)
structure Kd(x:Expr):Prop where
 star:tgE x≠0->∀ xs env,starEach (x::xs) env=(false,eval x env)::starEach xs env
 set:tgE x≠18->∀ env v,foldedSetIterable x env v=pure v
 mark:tgE x≠18->∀ op,behindInMarks op x=false
 ix:tgE x≠5->ZfA x
 put:tgE x≠5->∀ o pos env v,assign (.Subscript o x pos) env v=(do
     let ov <- holding [v] (eval o env);let iv <- holding [v,ov] (eval x env)
     standAt pos
     holding [v,ov,iv] (setItem ov iv v)
     release [v,ov,iv] [])
 tr:ZgG x=true->∀ env whole,isTrue x env whole=(do let v <- whole;standAt x.pos;holding [v] (truthy v))
 sw:tgE x≠13->tgE x≠19->∀ t n env,swapsWith x t n env=pure false
 st:tgE x≠8->∀ es j q env,swappedStores [.Tuple es j q] x env=pure none
theorem kdE(x:Expr):Kd x:=by
 cases x<;>exact ⟨by first|exact fun _ _ _=>rfl|exact fun h=>absurd rfl h,by first|exact fun _ _ _=>rfl|exact fun h=>absurd rfl h,by first|exact fun _ _=>rfl|exact fun h=>absurd rfl h,by first|exact fun _ _ _=>rfl|exact fun h=>absurd rfl h,
   by first|exact fun _ _ _ _ _=>rfl|exact fun h=>absurd rfl h,
   by first|exact fun _ _ _=>rfl|exact fun h=>ff h,by first|exact fun _ _ _ _ _=>rfl|exact fun h=>absurd rfl h|exact fun _ h=>absurd rfl h,by first|exact fun _ _ _ _ _=>rfl|exact fun h=>absurd rfl h⟩
theorem ZB(env:Env)(h:Za3 x=true):starEach (x::xs) env=(false,eval x env)::starEach xs env:=(kdE x).star (of_decide_eq_true h) _ _
theorem ZgC(env:Env)(h:ZbL x=true):∀ v,foldedSetIterable x env v=pure v:=(kdE x).set (of_decide_eq_true h) _
theorem Zhx(h:ZbL x=true):behindInMarks op x=false:=(kdE x).mark (of_decide_eq_true h) _
theorem Zi5(h:Zdx x=true):ZfA x:=(kdE x).ix (of_decide_eq_true h)
theorem Zdf(h:Zan x=true):attributeBase x n env (eval x env)=eval x env:=by
 cases x with
 | Call f as ks p =>
   cases as with
   | nil=>cases h
   | cons a as=>cases f<;>rfl
 | _=>rfl
theorem ZbS(Γ:Gm)(env:Env):∀ (es:Exs) (xs:List Expr),chks Γ es xs=true->∀ pos,(backTo pos (starEach xs env)).any (·.1)=false/\(backTo pos (starEach xs env)).all (fun x=>!x.1)=true
 | .nil,[],_,_=>⟨rfl,rfl⟩
 | .nil,_::_,h,_=>ff h
 | .cons _ _,[],h,_=>ff h
 | .cons _ r,x::xs,h,pos=>by
   rw [ZB env (bL (bR h))];exact ZbS Γ env r xs (bR (bR h)) pos
theorem ZcQ(env:Env)(h:chks Γ es (y::r)=true):starEach (y::r) env=(false,eval y env)::starEach r env/\∀ pos,(backTo pos (starEach r env)).any (·.1)=false:=by
 cases es with
 | nil=>exact ff h
 | cons e s=>exact ⟨ZB env (bL (bR h)),fun pos=>(ZbS Γ env s r (bR (bR h)) pos).1⟩
@[elab_as_elim] theorem Zms{P:List Expr->Prop}(h:chks Γ es ys=true)(h1:(!ys.isEmpty)=true)(k:∀ y r,chks Γ es (y::r)=true->P (y::r)):P ys:=by
 cases ys with
 | nil=>exact ff h1
 | cons y r=>exact k y r h
theorem Gd.gl {T:Tb}{Γ:Gm}{X:Cx}{Y:Yx}{E:XK}{k:Nat} (G:Gd T Γ X Y E k) {x:Str} (h:glb Γ x=true):Gl X x/\(x==("__debug__" : Str))=false:=by
 unfold glb at h;rw [Oa] at h;exact ⟨G.glo x (of_decide_eq_true h.1),by simpa using h.2⟩
theorem Zdy{f:Str->NameKind->NameKind}(x:Str):∀ names:List (Str×NameKind),(names.map fun p=>(p.1,f p.1 p.2)).lookup x=(names.lookup x).map (f x)
 | []=>rfl
 | (n,k)::r=>by
   rw [Op,OF,OF];by_cases e:x=n
   . subst e;simp
   . have:(x==n)=false:=by simpa using e
     simp only [this];exact Zdy x r
theorem Z4(scope:Scope)(env:Env)(x:Str):(relabel scope env).names.lookup x=(scope.names.lookup x).map fun k=>if (k==NameKind.free&&env.scope.kind==.function&&env.kindOf x==some .cell) then NameKind.cell else k:=by
 have e:(relabel scope env).names=scope.names.map fun p=>(p.1,(fun (n:Str) (k:NameKind)=>if (k==NameKind.free&&env.scope.kind==.function&&env.kindOf n==some .cell) then NameKind.cell else k) p.1 p.2):=by
   unfold relabel;simp only;refine List.map_congr_left fun p _=>?_;obtain ⟨n,k⟩:=p;simp only;split<;>rfl
 rw [e];exact Zdy (f:=fun (n:Str) (k:NameKind)=>if (k==NameKind.free&&env.scope.kind==.function&&env.kindOf n==some .cell) then NameKind.cell else k) x scope.names
theorem Gd.comp{T:Tb}{Γ:Gm}{X:Cx}{Y:Yx}{E:XK}{k:Nat}(G:Gd T Γ X Y E k)(NC:List Str)(scope:Scope)(C:Addr)(s3:Shared)(H3:Hp)(fp:List Addr)(nd:NC.Nodup):Gd T ⟨NC,scope,Γ.fs,false,Γ.kl⟩ (Zl X NC scope C s3 H3 fp) Y E0 k:=by
 refine ⟨⟨G.gk.K,G.gk.mg,G.gk.gd,G.gk.g,G.gk.bare⟩,rfl,(fun h=>by cases h),fun x hx=>?_,fun x hx=>?_,nd,rfl,G.room,G.h60,Zii,G.defs,G.blt,G.room1,G.cls,G.mts,G.mks⟩
 . show Vis (relabel scope X.env) x;unfold Vis;rw [Z4];unfold Zkp at hx;rw [Bool.or_eq_true,Bool.or_eq_true] at hx;rcases hx with (hx|hx)|hx
   . rw [of_decide_eq_true hx];exact .inl rfl
   . rw [of_decide_eq_true hx];exact .inr (.inl rfl)
   . rw [of_decide_eq_true hx];by_cases q:(X.env.scope.kind==.function&&X.env.kindOf x==some .cell)=true
     . refine .inr (.inl ?_);have:(NameKind.free==NameKind.free&&X.env.scope.kind==.function&&X.env.kindOf x==some .cell)=true:=by simpa using q
       simp only [Option.map_some,this,if_true]
     . refine .inr (.inr ?_);have:¬ ((NameKind.free==NameKind.free&&X.env.scope.kind==.function&&X.env.kindOf x==some .cell)=true):=by simpa using q
       simp only [Option.map_some,this,if_false];rfl
 . show (relabel scope X.env).names.lookup x=some .globalImplicit;rw [Z4,hx];rfl
section
variable {T:Tb}{Y:Yx}{E:XK}{Z:L2.St}{H:Hp}{Q:VK}
theorem ZkD{a b:Ex}{f:D->D->Hd->R D}(s:Sm Y E (RD Y) (fun S h=>(ev T a S h).bind fun x h1=>(ev T b S h1).bind fun y h2=>f x y h2) Z H Q):ZV T Y E a Z H fun x H1=>ZV T Y E b Z H1 fun y H2=>rB Y E f x y H2 Q :=
 s.bind fun S d h1 x H1 μ1 rh1 rs1 rd f1=>⟨S,h1,μ1,rh1,rs1,f1.bind fun e h2 y H2 μ2 _ g2 rh2 re f2=>⟨d,e,h2,μ2,rh2,rd.mono rh1 g2,re,f2⟩⟩
end
theorem Zn2{T:Tb}{Γ:Gm}{X:Cx}{Y:Yx}{E:XK}{k:Nat}(G:Gd T Γ X Y E k)(f:Bf)(hb:bok f=true){e:Expr}{es:List Expr}{t:TA}{p pos:Pos}(hg:Gl X (ZhX f))(ha:PA X (e::es) t)
   (he:starEach (e::es) X.env=(false,eval e X.env)::starEach es X.env) (hpl:(backTo pos (starEach es X.env)).any (·.1)=false):PE X (.Call (.Name (ZhX f) p) (e::es) [] pos) (tCB (rF Y E (ZdT T.GD f)) t):=by
 have hY:=G.gk.K;cases f with
 | len=>exact Zdu (ZlU hY) hg (G.blt _ (by decide)) (by decide +kernel) ha (by decide) (by decide) he hpl
 | isi=>exact Zdu (ZlV hY) hg (G.blt _ (by decide)) (by decide +kernel) ha (by decide) (by decide) he hpl
 | int=>exact Zev ZlW hg (G.blt _ (by decide)) (by decide +kernel) ha (by decide) (by decide) he hpl
 | tup=>exact Zev (ZlS hY) hg (G.blt _ (by decide)) (by decide +kernel) ha (by decide) (by decide) he hpl
 | lst=>cases hb
 | sum=>cases hb
 | all=>cases hb
 | mx=>cases hb
 | sri=>cases hb
 | dct=>cases hb
 | lnd=>cases hb
 | srt=>exact Zdu (ZlT G.room.hd G.gk) hg (G.blt _ (by decide)) (by decide +kernel) ha (by decide) (by decide) he hpl
end IV
end
section
namespace IV
open PySem PySem.Spec PyProof.Rows L2
theorem ZdM{v:V}(rd:∀ H B,RD Y H B d v)(p:PE X x (tC v)):PE X x (ZV T Y E (.cst d)):=PE.imp p fun Z H Q s=>by
 cases s with
 | mk S h B rh rs f=>exact Fin.ok (r:=rd H B) (show Fin Y (RD Y) H B (.ok d h) Q E from f) rh
theorem Zj8(G:Gd T Γ X Y E k)(h:ZpJ Γ d x=true):PE X x (ZV T Y E (.cst d)):=by
 refine bO h (fun h=>ZqL (P:=fun x=>PE X x _) h fun c j q h=>?_) fun h=>?_
 . cases d with
   | int i=>cases c with
     | int j=>exact dS (P:=fun i=>PE X _ (ZV T Y E (.cst (.int i)))) h (ZdM (fun _ _=>.int _) Zne)
     | _=>exact ff h
   | str i=>cases c with
     | str j=>exact dS (P:=fun i=>PE X _ (ZV T Y E (.cst (.str i)))) (bL h) (ZdM (fun _ _=>.str _ (bR h)) Zna)
     | _=>exact ff h
   | bl i=>cases c with
     | bool j=>exact dS (P:=fun i=>PE X _ (ZV T Y E (.cst (.bl i)))) h (ZdM (fun _ _=>.bl _) ZoY)
     | _=>exact ff h
   | non=>cases c with
     | none=>exact ZdM (fun _ _=>.non) Znc
     | _=>exact ff h
   | _=>exact ff h
 . cases d with
   | ty n =>
     refine ZmD (P:=fun x=>PE X x _) h fun p h=>?_;obtain ⟨g1,g2⟩:=G.gl (bR h);have all:(Zhb.all fun n=>decide (bootBuiltins (Str.ofString n)=some (.type n))&&(decide (Str.ofString n ≠ "__name__")&&decide (Str.ofString n∈ZhY)))=true:=by decide +kernel
     have a:=OC.mp all n (of_decide_eq_true (bL h));exact ZdM (fun _ _=>.ty _) (Zk4 g1 (G.blt _ (of_decide_eq_true (bR (bR a)))) (of_decide_eq_true (bL a)) rfl (of_decide_eq_true (bL (bR a))) g2)
   | _=>exact ff h
theorem R.bind_eq{α β:Type}{r:R α}{k:α->Hd->R β}{b:β}{h:Hd}(e:r.bind k=.ok b h):∃ a h1,r=.ok a h1/\k a h1=.ok b h:=by
 cases r with
 | bad=>cases e
 | ok a h1=>exact ⟨a,h1,rfl,e⟩
 | exc c h1=>cases e
theorem R.bind_assoc{α β γ:Type}{r:R α}{k:α->Hd->R β}{l:β->Hd->R γ}:(r.bind k).bind l=r.bind fun a h=>(k a h).bind l:=by cases r<;>rfl
theorem Zns(e:opC GD op x y h=.ok r h'):∃ b,r=.bl b:=by
 have i2:∀ {f:Int->Int->Bool},ZeV f x y h=.ok r h'->∃ b,r=.bl b:=fun e=>by
   unfold ZeV at e;split at e
   . cases e;exact ⟨_,rfl⟩
   . cases e
 have eq:∀ {n:Bool},Zam n x y h=.ok r h'->∃ b,r=.bl b:=fun e=>by
   unfold IV.Zam at e;split at e
   . split at e
     . cases e;exact ⟨_,rfl⟩
     . cases e
   . cases e
 have inn:∀ {n:Bool},Zac GD n x y h=.ok r h'->∃ b,r=.bl b:=fun e=>by
   unfold Zac at e;split at e
   . split at e
     . cases e;exact ⟨_,rfl⟩
     . cases e
   . split at e
     . cases e;exact ⟨_,rfl⟩
     . cases e
 have n1:∀ {n:Bool},opN n x y h=.ok r h'->∃ b,r=.bl b:=fun e=>by
   unfold opN at e;split at e
   . cases e;exact ⟨_,rfl⟩
   . cases e
 unfold opC at e;split at e
 . exact eq e
 . exact eq e
 . exact i2 e
 . exact i2 e
 . exact i2 e
 . exact i2 e
 . exact inn e
 . exact inn e
 . exact n1 e
 . exact n1 e
theorem Zpg (m:Mf):Slot "list" (ZjE m) (mid m)/\typeOf (.builtin (mid m))=pure (.type "method_descriptor"):=by
 cases m with
 | app=>exact ⟨PySem.F.slot_list_append,PySem.F.type_list_append⟩
 | ext=>exact ⟨PySem.F.slot_list_extend,PySem.F.type_list_extend⟩
 | pop=>exact ⟨PySem.F.slot_list_pop,PySem.F.type_list_pop⟩
 | rev=>exact ⟨PySem.F.slot_list_reverse,PySem.F.type_list_reverse⟩
 | clr=>exact ⟨PySem.F.slot_list_clear,PySem.F.type_list_clear⟩
section
variable {Y:Yx}{α β α' β':Type}{rel:Hp->List Addr->α->β->Prop}{rel':Hp->List Addr->α'->β'->Prop}{H0 H H1:Hp}{μ0 B μ1:List Addr}{E:XK}
theorem Fin.bindB(g0:Gr H0 μ0 H B)(f:Fin Y rel' H0 μ0 (r.bind k) Q E)
   (hk:∀ a h1 b H1 μ1,r=.ok a h1->Gr H B H1 μ1->RH Y H1 μ1 h1->rel H1 μ1 a b->Fin Y rel' H0 μ0 (k a h1) Q E->Q1 b H1):Fin Y rel H B r Q1 E:=by
 cases r with
 | bad=>exact f
 | ok a h=>exact fun b H' μ' g' rh rl=>hk a h b H' μ' rfl g' rh rl f
 | exc c h=>exact fun H' μ' C g'=>f H' μ' C (g0.trans g')
theorem Fin.plain(f:Fin Y rel' H0 μ0 (r.plain.bind k) Q E)
   (hk:∀ a h1 b H1 μ1,r=.ok a h1->Gr H B H1 μ1->RH Y H1 μ1 h1->rel H1 μ1 a b->Fin Y rel' H0 μ0 (k a h1) Q E->Q1 b H1):Fin Y rel H B r Q1 E0:=by
 cases r with
 | bad=>exact f
 | ok a h=>exact fun b H' μ' g' rh rl=>hk a h b H' μ' rfl g' rh rl f
 | exc c h=>exact f.elim
end
noncomputable def Zf9:List Nat->TGs
 | []=>Zlz
 | i::is=>Zga (ZaE i) (Zf9 is)
noncomputable def tgR(K:PySem.W.Frag):Tg->TG
 | .nm i=>ZaE i
 | .two i j=>Zly K 2 (Zga (ZaE i) (Zga (ZaE j) Zlz))
 | .many is=>Zly K is.length (Zf9 is)
theorem ZfF:∀ is:List Nat,is.foldr max 0<k->Zgt k (Zf9 is)
 | [],_=>Zhe
 | i::is,h=>by
   simp only [List.foldr_cons] at h;exact Zdj (by lia) (ZfF is (by lia))
theorem Zos(K:PySem.W.Frag)(g:Tg):Zg4 (tgk g) (tgR K g):=by
 cases g with
 | nm i=>exact Zkt (OH i)
 | two i j=>exact ZiY (Zdj (show i<max i j+1 by lia) (Zdj (show j<max i j+1 by lia) Zhe))
 | many is=>exact ZiY (ZfF is (OH _))
theorem Zcp:∀ (is:List Nat) (es:List Expr),ZhU N own is es=true->(assignEach es env).length=is.length/\List.findIdx? (fun x=>x.fst) (assignEach es env)=none
 | [],[],_=>⟨rfl,rfl⟩
 | i::is,e::es,h=>by
   obtain ⟨a,b⟩:=Zcp (env:=env) is _ (bR h);refine Zad (P:=fun e=>(assignEach (e::es) env).length=_/\List.findIdx? (fun x=>x.fst) (assignEach (e::es) env)=none) (bL h) fun x p _ _=>⟨congrArg (·+1) a,?_⟩
   simp only [assignEach,List.findIdx?_cons,b];rfl
 | [],_::_,h=>ff h
 | _::_,[],h=>ff h
theorem ZfT(hN:X.N=N)(nd:X.N.Nodup)(ho:∀ x,own x=true->Loc X.env.scope x/\(X.fn x=true\/X.env.scope.names.lookup x=some .local)):∀ (is:List Nat) (es:List Expr),ZhU N own is es=true->PGs X es (Zf9 is)
 | [],[],_=>Zhq
 | i::is,e::es,h=>Zad (P:=fun e=>PGs X (e::es) _) (bL h) fun x p e1 e2=>Zdt (Zhs nd (by rw [hN];exact e1) (ho _ e2).1 (ho _ e2).2) (ZfT hN nd ho is _ (bR h))
 | [],_::_,h=>ff h
 | _::_,[],h=>ff h
theorem Zhr(hN:X.N=N)(nd:X.N.Nodup)(hc:X.calm=true)(ho:∀ x,own x=true->Loc X.env.scope x/\(X.fn x=true\/X.env.scope.names.lookup x=some .local))(h:ZlO N own g tg=true):PG X tg (tgR X.K g):=by
 have nm:∀ {i x p},N[i]? = some x->own x=true->PG X (.Name x p) (ZaE i):=fun e1 e2=>Zhs nd (by rw [hN];exact e1) (ho _ e2).1 (ho _ e2).2;cases g with
 | nm i=>exact Zad (P:=fun t=>PG X t _) h fun x p e1 e2=>nm e1 e2
 | two i j=>exact ZfG (P:=fun t=>PG X t _) (show ZhW N own i j tg=true from h) fun xs k q h=>Zpo (P:=fun xs=>PG X (.Tuple xs k q) _) h fun a b h=>Zad (P:=fun a=>PG X (.Tuple [a,b] k q) _) (bL h) fun x p e1 e2=>Zad (P:=fun b=>PG X (.Tuple [_,b] k q) _) (bR h) fun y r e3 e4=>Zjq hc (Zdt (nm e1 e2) (Zdt (nm e3 e4) Zhq))
 | many is=>exact ZfG (P:=fun t=>PG X t _) (show ZhV N own is tg=true from h) fun xs k q h=>Zjq (hn:=(Zcp _ _ h).1) (hst:=(Zcp _ _ h).2) hc (ZfT hN nd ho _ _ h)
theorem Zhy:∀ (is:List Nat) {ds:List D}{vs:List V}{S:Ev}{Z:L2.St},RDs Y H B ds vs->RS Y H B S Z->ds.length=is.length->(∀ σ1,RS Y H B (ZgD is ds S) σ1->Q σ1 H)->Zf9 is vs Z H Q
 | [],ds,vs,S,Z,r,rs,hl,q=>by
   cases r with
   | nil=>exact ⟨rfl,q _ rs⟩
   | cons a s=>simp at hl
 | i::is,ds,vs,S,Z,r,rs,hl,q=>by
   cases r with
   | nil=>simp at hl
   | cons a s=>exact ⟨_,_,rfl,Zhy is s (rs.set a) (by simpa using hl) q⟩
theorem Zfo{Y:Yx}{K:PySem.W.Frag}{Q:L2.St->Hp->Prop}(hY:Y.K=K)(r:RD Y H B d v)(rs:RS Y H B S Z)(e:Zas g d S=some ρ1)(q:∀ σ1,RS Y H B ρ1 σ1->Q σ1 H):tgR K g v Z H Q:=by
 cases g with
 | nm i =>
   cases e;exact q _ (rs.set r)
 | two i j =>
   unfold Zas at e;simp only at e;split at e
   . cases e;obtain ⟨a,vs,rfl,t,s⟩:=r.tup_inv;obtain ⟨x,y,rfl,r1,r2⟩:=s.two;exact ⟨a,_,rfl,hY ▸ t,rfl,x,_,rfl,y,_,rfl,rfl,q _ ((rs.set r1).set r2)⟩
   . cases e
 | many is =>
   unfold Zas at e;simp only at e;split at e
   . split at e
     . rename_i hl;cases e;obtain ⟨a,vs,rfl,t,s⟩:=r.tup_inv;exact ⟨a,vs,rfl,hY ▸ t,by rw [<- s.length,hl],Zhy is s rs hl q⟩
     . cases e
   . cases e
section
variable {Y:Yx}{H:Hp}{B:List Addr}{h:Hd}{Dd:Addr}{ys zs:List V}
theorem Zi3{K:PySem.W.Frag}(hD:H Dd=some (.lst ys))(t:SqT K H a vs):SqT K (upd H Dd (.lst zs)) a vs:=by
 rcases t with t|t
 . rcases t with t|⟨o,t⟩
   . exact .inl (.inl (by rw [Ze (fun z=>by rw [z,hD] at t;cases t)];exact t))
   . exact .inl (.inr ⟨o,by rw [Ze (fun z=>by rw [z,hD] at t;cases t)];exact t⟩)
 . exact .inr t
theorem ZjU{K:PySem.W.Frag}(hD:H Dd=some (.lst ys))(t:FzL K H a vs):FzL K (upd H Dd (.lst zs)) a vs:=by
 rcases t with ⟨o,t⟩|t
 . exact .inl ⟨o,by rw [Ze (fun z=>by rw [z,hD] at t;cases t)];exact t⟩
 . exact .inr t
theorem Tr.swap(hD:H Dd=some (.lst ys)):Tr Y H B (upd H Dd (.lst zs)) B:=⟨Zi3 hD,ZjU hD,id⟩
theorem RH.swap(hD:H Dd=some (.lst ys))(hn:Dd ∉ B)(r:RH Y H B h):RH Y (upd H Dd (.lst zs)) B h :=
 r.tr (.swap hD) fun _ ha=>Ze fun z=>hn (z ▸ ha)
theorem Gr.out(g:Gr H B H' μ')(hD:H Dd=some o)(hn:Dd ∉ B):H' Dd=some o/\Dd ∉ μ' :=
 ⟨g.keep _ _ hn hD,fun hm=>(g.new _ hm).elim hn fun z=>by rw [hD] at z;cases z⟩
end
inductive CwS(Y:Yx)(H1:Hp)(μ1:List Addr)(xs:List D)(Dd:Addr)(F:List D->List D->Hd->Prop)(i m:Nat)(ys:List V)(H:Hp):Prop
 | mk (acc:List D) (h:Hd) (B:List Addr) (hi:i<=xs.length) (hm:m=xs.length - i) (g:Gr H1 μ1 H B) (rh:RH Y H B h) (ra:RDs Y H B acc ys) (nd:Dd ∉ B) (f:F (xs.drop i) acc h):CwS Y H1 μ1 xs Dd F i m ys H
theorem ZhS{T:Tb}{Y:Yx}{E:XK}{K:PySem.W.Frag}(hY:Y.K=K){js:List (Option Nat)}{g:Tg}{c:Option Tx}{e:Ex}{tc:TT}{J:It}{w:Wk}{H1:Hp}{μ1:List Addr}{h1:Hd}{S:Ev}{Z:L2.St}{Q:VK}{Dd:Addr}
   (htc:∀ Z H Q,Sm Y E0 eqR (tsto T c) Z H Q->tc Z H Q)
   (rh:RH Y H1 μ1 h1) (rs:RS Y H1 μ1 S Z) (wj:WJ Y H1 μ1 w J) (f:Fin Y (RD Y) H1 μ1 ((Zv w.src g (tsto T c) (ev T e) w.xs (ZcR js S) [] h1).bind fun xs h2=>Zao (.lst xs) h2) Q E) (hD:H1 Dd=none) :
   ∃ W:Nat->Nat->List V->Hp->Prop,(∃ m,W 0 m [] (upd H1 Dd (.lst []))) /\
     ∀ i m ys H,W i m ys H->H Dd=some (.lst ys)->(J.stop i H/\Q (.ref Dd) H) \/
       (J.go i H/\ys.length<sizeLine/\∀ x H',J.yld i H x H'->tgR K g x (capt js Z) H' fun σ2 H2=>tc σ2 H2 fun b H3 =>
         if b=true then ZV T Y E0 e σ2 H3 fun y H4=>H4 Dd=some (.lst ys)/\∃ m',m'<m/\W (i+1) m' (ys++[y]) (upd H4 Dd (.lst (ys++[y])))
         else H3 Dd=some (.lst ys)/\∃ m',m'<m/\W (i+1) m' ys H3):=by
 have n1:=rh.fr hD;refine ⟨CwS Y H1 μ1 w.xs Dd fun xs acc h=>Fin Y (RD Y) H1 μ1 ((Zv w.src g (tsto T c) (ev T e) xs (ZcR js S) acc h).bind fun xs h2=>Zao (.lst xs) h2) Q E,⟨w.xs.length,[],h1,μ1,Nat.zero_le _,(Nat.sub_zero _).symm,Gr.lay0 hD,rh.lay0 hD,.nil,n1,f⟩,?_⟩;rintro i m ys H ⟨acc,h,B,hi,rfl,g1,rh1,ra,nD,f1⟩ hl;by_cases hlt:i<w.xs.length
 . obtain ⟨d,hd⟩:∃ d,w.xs[i]? = some d:=⟨_,Og hlt⟩
   have hdrop:w.xs.drop i=d::w.xs.drop (i+1):=by
     rw [List.drop_eq_getElem_cons hlt];have:=Og hlt;rw [hd] at this;rw [<- Option.some.inj this]
   rw [hdrop,Zv] at f1;by_cases hs:Wk.stays w.src h=true/\acc.length<sizeLine
   . rw [if_pos hs] at f1;obtain ⟨go,yl⟩:=(wj H B h g1 rh1 hs.1).1 i d hd;refine .inr ⟨go,by rw [<- ra.length];exact hs.2,fun x H' hy=>?_⟩;obtain ⟨g2,rh2,rx⟩:=yl x H' hy;obtain ⟨hl2,nD2⟩:=g2.out hl nD;have g02:=g1.trans g2;split at f1
     . exact f1.elim
     . rename_i ρ1 hb;refine Zfo hY rx ((rs.mono rh g02).capt js) hb fun σ1 rs1=>htc σ1 H' _ ⟨ρ1,h,B,rh2,rs1,?_⟩;rw [R.bind_assoc] at f1;refine Fin.plain f1 fun b h3 b' H3 μ3 _ g3 rh3 eb f3=>?_;subst eb;obtain ⟨hl3,nD3⟩:=g3.out hl2 nD2;have g03:=g02.trans g3;cases b with
       | true =>
         rw [if_pos rfl] at f3 ⊢;rw [R.bind_assoc] at f3;refine ⟨ρ1,h3,μ3,rh3,rs1.mono rh2 g3,Fin.plain f3 fun y h4 y' H4 μ4 _ g4 rh4 ry f4=>?_⟩;obtain ⟨hl4,nD4⟩:=g4.out hl3 nD3;refine ⟨hl4,_,Nat.sub_lt_sub_left hlt (OH i),acc++[y],h4,μ4,hlt,rfl,(g03.trans g4).put hD,rh4.swap hl4 nD4,((((ra.mono rh1 g2).mono rh2 g3).mono rh3 g4).append (.cons ry .nil)).tr (.swap hl4),nD4,f4⟩
       | false =>
         rw [if_neg (by decide)] at f3 ⊢;exact ⟨hl3,_,Nat.sub_lt_sub_left hlt (OH i),acc,h3,μ3,hlt,rfl,g03,rh3,(ra.mono rh1 g2).mono rh2 g3,nD3,f3⟩
   . rw [if_neg hs] at f1;exact f1.elim
 . have he:i=w.xs.length:=by lia
   subst he;rw [List.drop_eq_nil_of_le (Oq _),Zv] at f1;by_cases hs:Wk.stays w.src h=true
   . rw [if_pos hs] at f1;refine .inl ⟨(wj H B h g1 rh1 hs).2,?_⟩;have f2:Fin Y (RD Y) H1 μ1 (.ok (.ref h.length) (h++[.lst acc])) Q E:=f1;exact f2.at (g1.add hD) (rh1.add nD ⟨ys,hl,ra.tr .more⟩) (.ref (by rw [rh1.len];simp))
   . rw [if_neg hs] at f1;exact f1.elim
end IV
end
section
namespace IV
open PySem PySem.Spec PyProof.Rows L2
section
variable {Y:Yx}{H:Hp}{B:List Addr}{h:Hd}
theorem RKs.look:∀ {fs:List (Str×D)}{gs:List (Str×V)},RKs Y H B fs gs->(∀ d,fs.lookup f=some d->∃ v,gs.lookup f=some v/\RD Y H B d v)/\(fs.lookup f=none->gs.lookup f=none)
 | _,_,.nil=>⟨fun d e=>by simp at e,fun _=>rfl⟩
 | _,_,.cons (k:=k) (d:=d0) (v:=v0) a s=>by
   by_cases e:f=k
   . subst e;exact ⟨fun d z=>by simp at z;subst z;exact ⟨_,by simp,a⟩,fun z=>by simp at z⟩
   . have b:(f==k)=false:=by simpa using e
     obtain ⟨q1,q2⟩:=RKs.look (f:=f) s;refine ⟨fun d z=>?_,fun z=>?_⟩
     . rw [OF,b] at z ⊢;exact q1 d z
     . rw [OF,b] at z ⊢;exact q2 z
theorem ZjQ(rh:RH Y H B h)(r:RD Y H B d v)(e:Zbh d h=some (C,fs)):∃ i a Ca dx gs,d=.ref i/\v=.ref a/\B[i]? = some a/\h[i]? = some (.ins C fs)/\H a=some (.ins Ca dx gs)/\Y.mg C=some (.ref Ca)/\RKs Y H B fs gs:=by
 unfold Zbh at e;split at e
 . rename_i i;split at e
   . rename_i C' fs' hi;cases e;cases r with
     | ref q =>
       rename_i a;obtain ⟨Ca,dx,gs,z,m,s⟩:=rh.ob i _ a hi q;exact ⟨i,a,Ca,dx,gs,rfl,rfl,q,hi,z,m,s⟩
   . cases e
 . cases e
end
theorem Zis(hbase:attributeBase o name env (eval o env)=eval o env)
   (hform:methodCallForm (args.length+([]:List Keyword).length) (backTo pos (starEach args env)) (backToKw pos (keywordEach [] env))=true) (hline:(apos.endLine==pos.line)=true) :
   eval (.Call (.Attribute o name apos) args [] pos) env=(do
     let ov <- eval o env
     standAt apos.atName
     let (f,first) <- holding [ov] (getMethod ov name (do return (<- importBound o env).getD true))
     callWith pos f first (backTo pos (starEach args env)) (backToKw pos (keywordEach [] env))):=by
 have hpos:methodCallPos true o env apos pos=pure pos:=by unfold methodCallPos;simp [hline]
 rw [arm_eval_Call,hbase];unfold methodCall;simp only [hform,hpos];rfl
section
variable {T:Tb}{Γ:Gm}{X:Cx}{Y:Yx}{E:XK}{k:Nat}
theorem Zn5(G:Gd T Γ X Y E k)(hc:(Cs.all fun C=>decide (C∈Γ.kl.cs))=true)(hf:f∈Γ.kl.ats)(rh:RH Y H B h)(rd:RD Y H B d x)(ff:Fin Y (RD Y) H B (ZiB Cs f d h) Q E) :
   ∃ a C dx fs v,x=.ref a/\H a=some (.ins C dx fs)/\Cls X.K C/\ZcF X.K C f/\fs.lookup f=some v/\Q v H:=by
 unfold ZiB at ff;split at ff
 . rename_i C fs e;obtain ⟨hC,ff⟩:=ff.iff;obtain ⟨i,a,Ca,dx,gs,rfl,rfl,q,hi,z,m,s⟩:=ZjQ rh rd e;obtain ⟨w,e1,ff⟩:=ff.ofO;obtain ⟨v,l,rv⟩:=(s.look (f:=f)).1 w e1;rw [OC] at hc;obtain ⟨Ca',m',cl,na⟩:=G.cls C (of_decide_eq_true (hc C hC));rw [G.gk.mg,m'] at m;cases m;exact ⟨a,Ca,dx,gs,v,rfl,z,cl,na f hf,l,ff.ok rh rv⟩
 . exact ff.elim
theorem Zny(G:Gd T Γ X Y E k)(h5:(C,n)∈Γ.kl.ms)(h3:Zan xo=true)(h4:chks Γ es ys=true)(h6:ys.length<29)(h7:(ap.endLine==cp.line)=true)(ho:PE X xo (ZV T Y E o))(ha:PA X ys (ZkC T Y E es)) :
   PE X (.Call (.Attribute xo n ap) ys [] cp) (ZV T Y E (.mcl C n o es)):=by
 obtain ⟨a,f,fd,ps,mm,c,hm,F,B_⟩:=G.mts _ h5;have hform:methodCallForm (ys.length+([]:List Keyword).length) (backTo cp (starEach ys X.env)) (backToKw cp (keywordEach [] X.env))=true:=by
   unfold methodCallForm;rw [(ZbS Γ X.env es ys h4 _).2];have h30:decide (ys.length+([]:List Keyword).length+(if (backToKw cp (keywordEach [] X.env)).isEmpty then 0 else 1)<30)=true:=by
     rw [decide_eq_true_eq];show ys.length+0+0<30
     lia
   rw [h30];rfl
 have ht:=Zis (o:=xo) (name:=n) (apos:=ap) (pos:=cp) (args:=ys) (env:=X.env) (Zdf h3) hform h7;have key:∀ (d:D) (h1:Hd) (x:V) (H1:Hp) (μ1:List Addr) (S:Ev) (Z:L2.St) (Q:VK),RH Y H1 μ1 h1->RS Y H1 μ1 S Z->RD Y H1 μ1 d x->Fin Y (RD Y) H1 μ1 (match Zbh d h1 with
       | some (C',fs)=>if C'=C/\fs.lookup n=none then (evs T es S h1).bind fun xs h2=>T.C (mnm C n) (d::xs) h2 else .bad
       | none=>.bad) Q E->∃ b dx fs,x=.ref b/\H1 b=some (.ins a dx fs)/\fs.lookup n=none/\ZkC T Y E es Z H1 fun vs H2=>Zdn T Y (mnm C n) (x::(vs++[])) H2 Q E:=by
   intro d h1 x H1 μ1 S Z Q rh1 rs1 rd f1;split at f1
   . rename_i C' fs e;obtain ⟨⟨e1,e2⟩,f1⟩:=f1.iff;subst e1;obtain ⟨i,b,Ca,dx,gs,rfl,rfl,q,hi,z,m',s⟩:=ZjQ rh1 rd e;rw [G.gk.mg,mm] at m';cases m';refine ⟨b,dx,gs,rfl,z,(s.look (f:=n)).2 e2,S,h1,μ1,rh1,rs1,f1.bind fun ds h2 vs H2 μ2 _ g2 rh2 rds f2=>⟨_,h2,μ2,rh2,.cons (rd.mono rh1 g2) (by rw [List.append_nil];exact rds),f2⟩⟩
   . exact f1.elim
 cases ys with
 | nil =>
   cases es with
   | nil =>
     exact (Zju ho c hm F G.room B_ .nil G.pass ht).imp fun Z H Q s=>Sm.bind s fun S d h1 x H1 μ1 rh1 rs1 rd f1=>by
       obtain ⟨b,dx,fs,e1,e2,e3,s⟩:=key d h1 x H1 μ1 S Z Q rh1 rs1 rd f1;cases s with
       | mk ρ' h' μ' rh' rs' f'=>exact ⟨b,dx,fs,e1,e2,e3,f'.ok rh' .nil⟩
   | cons e r=>exact ff h4
 | cons y ys=>exact (ZkY ho c hm F G.room B_ .nil G.pass ha (ZcQ X.env h4).1 ((ZcQ X.env h4).2 _) ht).imp fun Z H Q s=>Sm.bind s fun S d h1 x H1 μ1 rh1 rs1 rd f1=>key d h1 x H1 μ1 S Z Q rh1 rs1 rd f1
end
end IV
end
section
namespace IV
open PySem PySem.Spec PyProof.Rows L2
theorem Zhu{q:Prop}(X:Cx)(hx:ZoZ scope x=true):Loc (relabel scope X.env) x/\(q\/(relabel scope X.env).names.lookup x=some .local):=by
 have:(relabel scope X.env).names.lookup x=some .local:=by rw [Z4,of_decide_eq_true hx];rfl
 exact ⟨.inl this,.inr this⟩
theorem ZiL(e:ZfD (.ref i) h=some w):∃ xs,h[i]? = some (.lst xs)/\w=⟨[(i,xs)],xs⟩:=by
 unfold ZfD at e;simp only at e;split at e
 . cases e;exact ⟨_,by assumption,rfl⟩
 . cases e
theorem Zon {X:Cx}{h1:Hd} (K:Y.K=X.K) (rh:RH Y H1 μ1 h1) (r:RD Y H1 μ1 d v) (il:ZbW d h1=true):tyV X.K "list" v H1:=by
 cases r with
 | ref q =>
   rename_i i a;have:∃ xs,h1[i]? = some (.lst xs):=by
     unfold ZbW at il;simp only at il;split at il
     . exact ⟨_,by assumption⟩
     . cases il
   obtain ⟨xs,hx⟩:=this;obtain ⟨vs,hl,_⟩:=rh.ob i _ a hx q;exact .inl ⟨rfl,vs,.of hl⟩
 | _=>cases il
theorem Zlp(G:Gd T Γ X Y E k)(ho:PE X xo (ZV T Y E o))(h3:Zan xo=true)(h4:chks Γ es ys=true)(h5:ys.length<29)(h6:(ap.endLine==cp.line)=true)(ha:PA X ys (ZkC T Y E es)) :
   PE X (.Call (.Attribute xo (ZjE m) ap) ys [] cp) (ZV T Y E (.meth m o es)):=by
 obtain ⟨sl,ty⟩:=Zpg m;cases ys with
 | nil =>
   cases es with
   | nil=>exact (Znh PySem.F.plainAttrs_list sl ty (Zhw (Y:=Y) (E:=E) G.gk.K m) ho (Zdf h3) h6).imp fun Z H Q s=>Sm.bind s fun S d h1 x H1 μ1 rh1 rs1 rd f1=>⟨Zon G.gk.K rh1 rd f1.iff.1,d,[],h1,μ1,rh1,rd,.nil,f1.iff.2⟩
   | cons e r=>exact ff h4
 | cons y ys =>
   refine (ZoX PySem.F.plainAttrs_list sl ty (Zhw (Y:=Y) (E:=E) G.gk.K m) ho ha (Zdf h3) ?_ h6 (ZcQ X.env h4).1 ((ZcQ X.env h4).2 _)).imp fun Z H Q s=>Sm.bind s fun S d h1 x H1 μ1 rh1 rs1 rd f1=>⟨Zon G.gk.K rh1 rd f1.iff.1,S,h1,μ1,rh1,rs1,f1.iff.2.bind fun ds h2 xs H2 μ2 _ g2 rh2 rds f2=>⟨d,ds,h2,μ2,rh2,rd.mono rh1 g2,rds,f2⟩⟩
   rw [(ZbS Γ X.env es (y::ys) h4 _).2];have h30:decide ((y::ys).length+([]:List Keyword).length+(if ([]:List Keyword).isEmpty then 0 else 1)<30)=true:=by
     rw [decide_eq_true_eq];exact Nat.lt_succ_of_lt h5
   rw [h30];rfl
theorem Zrd(hb:∀ d h',e=.ok d h'->∃ c,d=.bl c)(f:Fin Y eqR H B (e.bind fun x h1=>R.ofO (ZbI GD x h1) h1) Q E):Fin Y (RD Y) H B e (fun v H'=>∃ c,v=.bl c/\Q c H') E :=
 f.bind fun d h1 x H1 μ1 er g rh1 rd f1=>by
   obtain ⟨c,rfl⟩:=hb d h1 er;cases rd;exact ⟨c,rfl,Fin.ok (show Fin Y eqR H1 μ1 (.ok c h1) Q E from f1) rh1 rfl⟩
theorem Zre{f:D->D->Hd->R D}(hf:∀ x y h d h',f x y h=.ok d h'->∃ c,d=.bl c)(s:Sm Y E eqR (fun S h=>((ev T a S h).bind fun x h1=>(ev T b S h1).bind fun y h2=>f x y h2).bind fun x h1=>R.ofO (ZbI T.GD x h1) h1) Z H Q) :
   ZV T Y E a Z H fun x H1=>ZV T Y E b Z H1 fun y H2=>rB Y E f x y H2 fun v H3=>∃ c,v=.bl c/\Q c H3:=by
 cases s with
 | mk S h B rh rs q =>
   refine ZkD ⟨S,h,B,rh,rs,Zrd (fun d h' er=>?_) q⟩;obtain ⟨_,_,_,er⟩:=R.bind_eq er;obtain ⟨_,_,_,er⟩:=R.bind_eq er;exact hf _ _ _ _ _ er
theorem ZlN(G:Gd T Γ X Y E k)(ha:PE X l (ZV T Y E a))(hb:PE X r (ZV T Y E b))(hm:ZbL r=true):PT X (.Compare l [op] [r] pos) (Zib T Y E (.ex (.cmp op a b))) :=
 (ZkL (Zjy (E:=E) G.room G.h60 G.gk op) ha hb (Zhx hm)).imp fun _ _ _ s=>Zre (f:=opC T.GD op) (fun _ _ _ _ _=>Zns) s
theorem Zig(G:Gd T Γ X Y E k)(he:PE X x (ZV T Y E e))(h1:ZgG x=true):PT X x (Zib T Y E (.ex e)) :=
 (Zjh he ((kdE x).tr h1 _)).imp fun Z H Q s=>Sm.bind s fun S d h1 x H1 μ1 rh1 rs1 rd f1=>by
   obtain ⟨b,eb,f1⟩:=f1.ofO;exact ⟨b,Zks G.gk.K rh1 rd eb,f1.ok rh1 rfl⟩
noncomputable def Zhc(T:Tb)(Y:Yx)(E:XK):Exs->List (TE×TE)
 | .nil=>[]
 | .cons k r=>match r with
   | .nil=>[]
   | .cons v r'=>(ZV T Y E k,ZV T Y E v)::Zhc T Y E r'
section
variable {Y:Yx}{H:Hp}{B:List Addr}{h:Hd}{Dd:Addr}{ys zs:List (Key×V)}
theorem Zh9{K:PySem.W.Frag}(hD:H Dd=some (.dK ys))(t:SqT K H a vs):SqT K (upd H Dd (.dK zs)) a vs:=by
 rcases t with t|t
 . rcases t with t|⟨o,t⟩
   . exact .inl (.inl (by rw [Ze (fun z=>by rw [z,hD] at t;cases t)];exact t))
   . exact .inl (.inr ⟨o,by rw [Ze (fun z=>by rw [z,hD] at t;cases t)];exact t⟩)
 . exact .inr t
theorem ZiC{K:PySem.W.Frag}(hD:H Dd=some (.dK ys))(t:FzL K H a vs):FzL K (upd H Dd (.dK zs)) a vs:=by
 rcases t with ⟨o,t⟩|t
 . exact .inl ⟨o,by rw [Ze (fun z=>by rw [z,hD] at t;cases t)];exact t⟩
 . exact .inr t
theorem Tr.swapD(hD:H Dd=some (.dK ys)):Tr Y H B (upd H Dd (.dK zs)) B:=⟨Zh9 hD,ZiC hD,id⟩
end
inductive RPs(Y:Yx)(H:Hp)(B:List Addr):List D->List (V×V)->Prop
 | nil:RPs Y H B [] []
 | cons {k v:D}{r:List D}{x y:V}{ps:List (V×V)}:RD Y H B k x->RD Y H B v y->RPs Y H B r ps->RPs Y H B (k::v::r) ((x,y)::ps)
theorem RPs.pairs:∀ {ds:List D}{ps:List (V×V)}{kvs:List (Key×D)},RPs Y H B ds ps->ZbK ds=some kvs->∃ kvs':List (Key×V),ps=kvs'.map (fun kv=>(kV kv.1,kv.2))/\RKs Y H B kvs kvs'
 | _,_,_,.nil,e=>by cases e;exact ⟨[],rfl,.nil⟩
 | _,_,_,.cons a b s,e=>by
   rw [ZbK] at e;split at e
   . rename_i k r e1 e2;cases e;obtain ⟨kvs',rfl,rk⟩:=s.pairs e2;have:=Za5 a e1;subst this;exact ⟨(k,_)::kvs',rfl,.cons b rk⟩
   . cases e
theorem RPs.keysOk:∀ {ds:List D}{ps:List (V×V)}{kvs:List (Key×D)},RPs Y H B ds ps->ZbK ds=some kvs->ZaB kvs
 | _,_,_,.nil,e=>by cases e;intro p hp;cases hp
 | _,_,_,.cons a b s,e=>by
   rw [ZbK] at e;split at e
   . rename_i k r e1 e2;cases e;intro p hp x z;rcases O2.mp hp with rfl|hp
     . exact ZjK a e1 x z
     . exact s.keysOk e2 p hp x z
   . cases e
theorem ZbV:∀ {more kvs:List (Key×D)},ZaB more->ZaB kvs->ZaB (Zck kvs more)
 | [],kvs,_,h=>h
 | (k,d)::r,kvs,hm,h=>ZbV (more:=r) (kvs:=putD kvs k d) (fun p hp=>hm p (Oh _ hp)) (ZdA h (fun x e=>hm (k,d) Oi x e))
theorem RKs.merge:∀ {more:List (Key×D)}{more':List (Key×V)}{kvs:List (Key×D)}{kvs':List (Key×V)},RKs Y H B more more'->RKs Y H B kvs kvs'->RKs Y H B (Zck kvs more) (Zcj kvs' more')
 | _,_,_,_,.nil,s=>s
 | _,_,_,_,.cons (k:=k) a r,s=>by
   have z:=RKs.merge r (s.put k a);exact z
theorem Zjx:∀ (n:Nat) (ps:Exs) {K:List D->Hd->R D}{H:Hp}{B:List Addr}{h:Hd}{Q1:List (V×V)->Hp->Prop}{Γ:Gm}{ks:List (Option Expr)}{vs:List Expr},ks.length<=n->chkp Γ ps ks vs=true ->
   Gr H0 μ0 H B->RH Y H B h->RS Y H B S Z->Fin Y (RD Y) H0 μ0 ((evs T ps S h).bind K) Q E ->
   (∀ ds h1 qs H1 μ1,Gr H B H1 μ1->RH Y H1 μ1 h1->RPs Y H1 μ1 ds qs->Fin Y (RD Y) H0 μ0 (K ds h1) Q E->Q1 qs H1)->ZeN (Zhc T Y E ps) Z H Q1:=by
 intro n;induction n with
 | zero =>
   intro ps K H B h Q1 Γ ks vs hl hc g0 rh rs f hq;cases ps with
   | nil=>exact hq [] h [] H B Gr.refl rh .nil f
   | cons k r =>
     cases r with
     | nil=>unfold chkp at hc;cases hc
     | cons v r' =>
       unfold chkp at hc;simp only at hc;split at hc
       . simp at hl
       . cases hc
 | succ n ih =>
   intro ps K H B h Q1 Γ ks vs hl hc g0 rh rs f hq;cases ps with
   | nil=>exact hq [] h [] H B Gr.refl rh .nil f
   | cons k r =>
     cases r with
     | nil=>unfold chkp at hc;cases hc
     | cons v r' =>
       unfold chkp at hc;simp only at hc;split at hc
       . rw [Oa] at hc;have f1:Fin Y (RD Y) H0 μ0 ((ev T k S h).bind fun x h1=>(ev T v S h1).bind fun y h2=>(evs T r' S h2).bind fun xs h3=>K (x::y::xs) h3) Q E:=by
           have e:(evs T (.cons k (.cons v r')) S h).bind K=(ev T k S h).bind fun x h1=>(ev T v S h1).bind fun y h2=>(evs T r' S h2).bind fun xs h3=>K (x::y::xs) h3:=by
             show ((ev T k S h).bind fun x h1=>((ev T v S h1).bind fun y h2=>(evs T r' S h2).bind fun xs h3=>R.ok (y::xs) h3).bind fun xs h2=>R.ok (x::xs) h2).bind K=_;simp only [R.bind_assoc,R.bind_ok]
           rw [<- e];exact f
         refine ⟨S,h,B,rh,rs,Fin.bindB g0 f1 fun d h1 x H1 μ1 _ g1 rh1 rd f2=>?_⟩;refine ⟨S,h1,μ1,rh1,rs.mono rh g1,Fin.bindB (g0.trans g1) f2 fun e h2 y H2 μ2 _ g2 rh2 re f3=>?_⟩;refine ih r' (by simpa using hl) (bR hc.2) ((g0.trans g1).trans g2) rh2 ((rs.mono rh g1).mono rh1 g2) f3 fun ds h3 qs H3 μ3 g3 rh3 rp f4=>?_;exact hq (d::e::ds) h3 ((x,y)::qs) H3 μ3 ((g1.trans g2).trans g3) rh3 (.cons ((rd.mono rh1 g2).mono rh2 g3) (re.mono rh2 g3) rp) f4
       . cases hc
theorem ZlL(ps:Exs)(G:Gd T Γ X Y E k)(h15:ks.length<=15)(hc:chkp Γ ps ks vs=true)(hp:PPs X pos ks vs (Zhc T Y E ps))(hall:ks.all (·.isSome)=true)(hl:ks.length=vs.length):PE X (.Dict ks vs pos) (ZV T Y E (.dictl ps)):=by
 by_cases h0:ks=[]
 . subst h0;cases vs with
   | cons a b=>cases hl
   | nil =>
     cases ps with
     | cons k r =>
       cases r with
       | nil=>unfold chkp at hc;cases hc
       | cons v r'=>unfold chkp at hc;cases hc
     | nil =>
       refine Zjw.imp fun Z H Q ⟨S,h,B,rh,rs,f⟩ p hp=>?_;have f:Fin Y (RD Y) H B (Zao (.dic []) h) Q E:=f;exact f.new rh hp ⟨[],Zf,.nil⟩ (fun p hp=>by cases hp)
 . refine (Zk0 hp hall hl h0 h15).imp fun Z H Q ⟨S,h,B,rh,rs,f⟩ p hp=>?_;have np:=rh.fr hp;refine Zjx ks.length ps (Oq _) hc (Gr.lay0 hp) (rh.lay0 hp) (rs.mono rh (Gr.lay0 hp)) f fun ds h1 qs H1 μ1 g1 rh1 rp f1=>?_;obtain ⟨hl1,nD⟩:=g1.out (Zf (H:=H)) np;have g01:Gr H B H1 μ1:=(Gr.lay0 hp).trans g1;split at f1
   . rename_i kvs ek;obtain ⟨hz,f1⟩:=f1.iff;obtain ⟨kvs',rfl,rk⟩:=rp.pairs ek;refine ⟨hl1,kvs',rfl,by rw [<- rk.length];exact hz,?_⟩;have f2:Fin Y (RD Y) H B (.ok (.ref h1.length) (h1++[.dic (Zck [] kvs)])) Q E:=f1;exact f2.at ((g01.put hp).add hp) ((rh1.tr (.swapD hl1) fun _ ha=>Ze fun z=>nD (z ▸ ha)).add nD ⟨_,Zf,((rk.merge .nil).tr (.swapD hl1)).tr .more⟩ (show ZaB (Zck [] kvs) from ZbV (rp.keysOk ek) (fun p hp=>by cases hp))) (.ref (by rw [rh1.len];simp))
   . exact f1.elim
mutual
theorem Zh(e:Ex){Γ:Gm}{X:Cx}{E:XK}{k:Nat}{x:Expr}(G:Gd T Γ X Y E k)(h:chk Γ e x=true):PE X x (ZV T Y E e):=match e,h with
 | .var i,h=>Zpe h fun x q h=>(Zm8 (by rw [G.N];exact of_decide_eq_true (bL h)) (G.vis _ (bL (bR h))) (by simpa using bL (bR (bR h))) (by simpa using bR (bR (bR h)))).imp fun Z H Q s=>by
   cases s with
   | mk S h B rh rs f =>
     obtain ⟨d,e,f⟩:=Fin.ofO (show Fin Y (RD Y) H B (R.ofO (S[i]?).join h) Q E from f);obtain ⟨v,e1,rd⟩:=rs.var e;exact ⟨v,e1,f.ok rh rd⟩
 | .cst d,h=>Zj8 G h
 | .glo y,h=>ZmD h fun q h pins s Z H Q I sm=>by
   cases sm with
   | mk S h' B rh rs f =>
     obtain ⟨d,e,f⟩:=Fin.ofO (show Fin Y (RD Y) H B (R.ofO (T.G y) h') Q E from f);obtain ⟨v,u,hm,rv,rd⟩:=G.gk.g y d e;exact ZkZ (G.gl h).1 hm rv (G.gl h).2 pins s Z H Q I (f.ok rh (rd H B))
 | .bin op a b,h=>ZpM h fun l r q h=>(ZoV (Znt G.gk.K op) (Zh a G (bL h)) (Zh b G (bR h))).imp fun _ _ _ s=>ZkD s
 | .cmp op a b,h=>Zmv h fun l r q h=>(Zk2 (Zjy G.room G.h60 G.gk op) (Zh a G (bL h)) (Zh b G (bL (bR h))) (Zhx (bR (bR h)))).imp fun _ _ _ s=>ZkD s
 | .cmp2 o1 o2 a b c,h=>ff h
 | .neg a,h=>ZmK h fun x q h=>(ZoT ZmJ (Zh a G h)).imp fun Z H Q s=>Sm.bind s fun S d h1 x H1 μ1 rh1 rs1 rd f1=>by
   cases rd with
   | int i=>exact ⟨i,rfl,Fin.ok f1 rh1 (.int _)⟩
   | _=>exact f1.elim
 | .nt a,h=>ZmK h fun x q h=>(Znb (Zh a G h)).imp fun Z H Q s=>Sm.bind s fun S d h1 x H1 μ1 rh1 rs1 rd f1=>by
   cases rd with
   | bl i=>exact ⟨i,rfl,Fin.ok f1 rh1 (.bl _)⟩
   | _=>exact f1.elim
 | .ands es,h=>Zll h fun xs q h=>and_ok es G h
 | .ors es,h=>Zll h fun xs q h=>or_ok es G h
 | .ite c a b,h=>ZqM h fun t x y q h=>(Zjv (tst_ok c G (bL h)) (Zh a G (bL (bR h))) (Zh b G (bR (bR h)))).imp fun Z H Q s=>Sm.bind s fun S d h1 v H1 μ1 rh1 rs1 rd f1=>by
   cases rd;cases d with
   | true=>exact ZgR ⟨S,h1,μ1,rh1,rs1,f1⟩
   | false=>exact ZgS ⟨S,h1,μ1,rh1,rs1,f1⟩
 | .tupl es,h=>ZfG h fun xs j q h=>(Zm9 (evs_ok es G h)).imp fun Z H Q s=>Sm.bind s fun S d h1 x H1 μ1 rh1 rs1 rd f1=>⟨by rw [<- rd.length];exact f1.iff.1,fun p hp=>f1.iff.2.tup rh1 hp rd⟩
 | .lstl es,h=>Zpl h fun xs q h=>(Znd (evs_ok es G h)).imp fun Z H Q s=>Sm.bind s fun S d h1 x H1 μ1 rh1 rs1 rd f1=>⟨by rw [<- rd.length];exact f1.iff.1,fun p hp=>f1.iff.2.new rh1 hp ⟨_,Zf,rd.mono rh1 (Gr.lay hp)⟩⟩
 | .ix a i,h=>ZmU h fun x y q h=>(ZoW (Zld G.gk) (Zh a G (bL h)) (Zh i G (bL (bR h))) (Zi5 (bR (bR h)))).imp fun _ _ _ s=>ZkD s
 | .sl a lo hi,h=>ZoF h fun x l u q r h=>(Zjs (Zlb (E:=E) G.gk.K) (Zh a G (bL h)) (evo_ok lo G (bL (bR h))) (evo_ok hi G (bR (bR h)))).imp fun Z H Q s=>Sm.bind s fun S d h1 x H1 μ1 rh1 rs1 rd f1 =>
   ⟨S,h1,μ1,rh1,rs1,Fin.bind f1 fun l h2 l' H2 μ2 _ g2 rh2 rl f2=>⟨S,h2,μ2,rh2,rs1.mono rh1 g2,Fin.bind f2 fun u h3 u' H3 μ3 _ g3 rh3 ru f3=>by
     cases rl;cases ru;exact ⟨d,h3,μ3,rh3,(rd.mono rh1 g2).mono rh2 g3,f3⟩⟩⟩
 | .blt f es,h=>ZdO h fun p ys q h=>Zms (bL (bR h)) (bR (bR h)) fun y r hs=>(Zn2 G f (bL (bL h)) (G.gl (bR (bL h))).1 (evs_ok es G hs) (ZcQ X.env hs).1 ((ZcQ X.env hs).2 _)).imp fun Z H Q s=>Sm.bind s fun S d h1 x H1 μ1 rh1 rs1 rd f1=>⟨d,h1,μ1,rh1,rd,f1⟩
 | .call f es,h=>ZdO h fun p ys q h=>Zms (bL (bR (bR h))) (bR (bR (bR h))) fun y r hs=>by
   obtain ⟨ps,hd⟩:=G.defs _ (of_decide_eq_true (bL h));exact (Zng hd G.room (G.gl (bL (bR h))).1 G.pass (evs_ok es G hs) (G.gl (bL (bR h))).2 (ZcQ X.env hs).1 ((ZcQ X.env hs).2 _)).imp fun Z H Q s=>Sm.bind s fun S d h1 x H1 μ1 rh1 rs1 rd f1=>⟨d,h1,μ1,rh1,rd,f1⟩
 | .meth m o es,h=>Zmt h fun xo ap ys cp h=>Zlp G (Zh o G (bL h)) (bL (bR h)) (bL (bR (bR h))) (of_decide_eq_true (bL (bR (bR (bR h))))) (bR (bR (bR (bR h)))) (evs_ok es G (bL (bR (bR h))))
 | .comp NC js it g c e,h=>Zmg h fun elt tg iter ifs scope q h=>by
   have S_:=Zgf (bL (bR h));rw [<- G.N,<- G.sc (bL h)] at S_;have h:=bR (bR h);have Gc:=fun C s3 H3 fp=>G.comp NC scope C s3 H3 fp S_.nd;refine (Zk1 (g:=tgR X.K g) (tc:=Sm Y E0 eqR (tsto T c)) (te:=ZV T Y E0 e) S_ rfl G.calm (evi_ok it G (bL h)) (fun C s3 H3 fp=>⟨Zhr rfl S_.nd rfl (fun x hx=>Zhu (scope:=scope) X hx) (bL (bR (bR h))),ifs_ok c (Gc C s3 H3 fp) (bL (bR (bR (bR (bR h))))),Zh e (Gc C s3 H3 fp) (bR (bR (bR (bR (bR h)))))⟩) (Zos X.K g) (fun j hj=>of_decide_eq_true (OC.mp (bL (bR (bR (bR h)))) j (List.mem_range.mpr hj))) (ZgC X.env (bL (bR h)))).imp
     fun Z H Q s=>Sm.bind s fun S w h1 J H1 μ1 rh1 rs1 wj f1 D hD=>ZhS G.gk.K (fun _ _ _ z=>z) rh1 rs1 wj f1 hD
 | .sorts e,h=>ZdO h fun p ys q h=>ZaR h fun z h=>ZdO h fun p' ys q' h=>ZaR h fun y h =>
   (Zjr G.room.hd (G.gl (bL h)).1 (G.blt _ (by decide)) (G.gl (bL (bR h))).1 (G.blt _ (by decide)) (Zh e G (bL (bR (bR h)))) (ZB X.env (bR (bR (bR h))))).imp fun Z H Q s=>Sm.bind s fun S d h1 x H1 μ1 rh1 rs1 rd f1=>by
     split at f1
     . rename_i ss e2;obtain ⟨⟨z1,z2,z3⟩,f1⟩:=Fin.iff f1;obtain ⟨xs,e3,e4⟩:=Option.bind_eq_some_iff.mp e2;obtain ⟨a,vs,rfl,hq,rv⟩:=rd.lstOf rh1 e3;have ev:=ZfH rv e4;subst ev;rw [OC] at z3;refine ⟨a,ss,rfl,G.gk.K ▸ hq,by show ss.length+1<4096;lia,fun ks nd mm=>by rw [(Zff nd mm).length_eq];exact z2,fun p ss' hp nd mm srt=>?_⟩;rw [Zet (Zff nd mm) srt];exact f1.new rh1 hp ⟨_,Zf,ZeO _ fun y hy=>z3 y ((Zcq y ss).mp ((ZU _).mem_iff.mp hy))⟩
     . exact f1.elim
 | .trev e,h=>ff h
 | .lrv e,h=>ff h
 | .tix o e,h=>ff h
 | .lix o e,h=>ff h
 | .lin a b,h=>ff h
 | .rpn a b,h=>ff h
 | .any,h=>fun pins s Z H Q I sm=>by
   cases sm with
   | mk S h B rh rs f=>exact f.elim
 | .att Cs o f,h=>ZpP h fun x q h=>(Znf (Zh o G (bL h)) (Zdf (bL (bR h)))).imp fun Z H Q s=>Sm.bind s fun S d h1 x H1 μ1 rh1 rs1 rd f1=>Zn5 G (bL (bR (bR h))) (of_decide_eq_true (bR (bR (bR h)))) rh1 rd f1
 | .mk C es,h=>ff h
 | .mcl C m o es,h=>Zmt h fun xo ap ys cp h=>Zny G (of_decide_eq_true (bL (bR (bR (bR h))))) (bL (bR h)) (bL (bR (bR h))) (of_decide_eq_true (bL (bR (bR (bR (bR h)))))) (bR (bR (bR (bR (bR h))))) (Zh o G (bL h)) (evs_ok es G (bL (bR (bR h))))
 | .maxd a d,h=>ff h
 | .dictl ps,h=>Zq1 h fun ks vs q h=>ZlL ps G (of_decide_eq_true (bL h)) (bR h) (pairs_ok ps G (bR h)).1 (pairs_ok (pos:=q) ps G (bR h)).2.1 (pairs_ok (pos:=q) ps G (bR h)).2.2
theorem evs_ok(e:Exs){Γ:Gm}{X:Cx}{E:XK}{k:Nat}{x:List Expr}(G:Gd T Γ X Y E k)(h:chks Γ e x=true):PA X x (ZkC T Y E e):=match e,x,h with
 | .nil,[],h=>ZeT.imp fun Z H Q s=>by
   cases s with
   | mk S h B rh rs f=>exact Fin.ok (show Fin Y (RDs Y) H B (.ok [] h) Q E from f) rh .nil
 | .nil,_::_,h=>ff h
 | .cons e r,[],h=>ff h
 | .cons e r,y::ys,h=>(Zdc (Zh e G (bL h)) (evs_ok r G (bR (bR h))) (ZB X.env (bL (bR h)))).imp fun Z H Q s=>Sm.bind s fun S d h1 x H1 μ1 rh1 rs1 rd f1 =>
   ⟨S,h1,μ1,rh1,rs1,f1.bind fun ds h2 xs H2 μ2 _ g2 rh2 rds f2=>f2.ok rh2 (.cons (rd.mono rh1 g2) rds)⟩
theorem and_ok(e:Exs){Γ:Gm}{X:Cx}{E:XK}{k:Nat}{x:List Expr}{pos:Pos}(G:Gd T Γ X Y E k)(h:chks Γ e x=true):PE X (.BoolOp .And x pos) (ZV T Y E (.ands e)):=match e,x,h with
 | .nil,x,h=>fun pins s Z H Q I sm=>by
   cases sm with
   | mk S h B rh rs f=>exact f.elim
 | .cons e r,[],h=>ff h
 | .cons e .nil,[y],h=>(Zjt (Zh e G (bL h))).imp fun Z H Q q=>q
 | .cons e .nil,y::z::zs,h=>ff (bR (bR h))
 | .cons e (.cons e' r'),[y],h=>ff (bR (bR h))
 | .cons e (.cons e' r'),y::z::zs,h=>(Zni (Zh e G (bL h)) (and_ok (.cons e' r') G (bR (bR h)))).imp fun Z H Q s=>Sm.bind s fun S d h1 x H1 μ1 rh1 rs1 rd f1=>by
   cases rd with
   | bl c =>
     refine ⟨c,rfl,?_⟩;cases c with
     | true=>exact ZgR ⟨S,h1,μ1,rh1,rs1,f1⟩
     | false=>exact ZgS (Fin.ok f1 rh1 (.bl _))
   | _=>exact f1.elim
theorem or_ok(e:Exs){Γ:Gm}{X:Cx}{E:XK}{k:Nat}{x:List Expr}{pos:Pos}(G:Gd T Γ X Y E k)(h:chks Γ e x=true):PE X (.BoolOp .Or x pos) (ZV T Y E (.ors e)):=match e,x,h with
 | .nil,x,h=>fun pins s Z H Q I sm=>by
   cases sm with
   | mk S h B rh rs f=>exact f.elim
 | .cons e r,[],h=>ff h
 | .cons e .nil,[y],h=>(Zjt (Zh e G (bL h))).imp fun Z H Q q=>q
 | .cons e .nil,y::z::zs,h=>ff (bR (bR h))
 | .cons e (.cons e' r'),[y],h=>ff (bR (bR h))
 | .cons e (.cons e' r'),y::z::zs,h=>(ZoU (Zh e G (bL h)) (or_ok (.cons e' r') G (bR (bR h)))).imp fun Z H Q s=>Sm.bind s fun S d h1 x H1 μ1 rh1 rs1 rd f1=>by
   cases rd with
   | bl c =>
     refine ⟨c,rfl,?_⟩;cases c with
     | true=>exact ZgR (Fin.ok f1 rh1 (.bl _))
     | false=>exact ZgS ⟨S,h1,μ1,rh1,rs1,f1⟩
   | _=>exact f1.elim
theorem evo_ok(e:Option Ex){Γ:Gm}{X:Cx}{E:XK}{k:Nat}{x:Option Expr}(G:Gd T Γ X Y E k)(h:chko Γ e x=true):PO X x (Zqo T Y E e):=match e,x,h with
 | none,none,h=>ZkR.imp fun Z H Q s=>by
   cases s with
   | mk S h B rh rs f=>exact Fin.ok (show Fin Y _ H B (.ok none h) Q E from f) rh rfl
 | none,some _,h=>ff h
 | some e,none,h=>ff h
 | some e,some a,h=>(ZkQ (Zh e G h)).imp fun Z H Q s=>Sm.bind s fun S d h1 x H1 μ1 rh1 rs1 rd f1=>by
   cases rd with
   | int i=>exact ⟨i,rfl,Fin.ok f1 rh1 rfl⟩
   | _=>exact f1.elim
theorem tst_ok(e:Tx){Γ:Gm}{X:Cx}{E:XK}{k:Nat}{x:Expr}(G:Gd T Γ X Y E k)(h:chkt Γ e x=true):PT X x (Zib T Y E e):=match e,h with
 | .ex e,h=>bO h (fun h=>Zig G (Zh e G (bR h)) (bL h)) fun h=>by
   cases e with
   | cmp op a b=>exact Zmv h fun l r q h=>ZlN G (Zh a G (bL h)) (Zh b G (bL (bR h))) (bR (bR h))
   | _=>exact ff h
 | .ands ts,h=>Zll h fun xs q h=>(tand_ok ts G h).pt
 | .ors ts,h=>Zll h fun xs q h=>(tor_ok ts G h).pt
 | .nt t,h=>ZmK h fun y q h=>(Zm1 (tst_ok t G h)).imp fun Z H Q s=>Sm.bind s fun S d h1 x H1 μ1 rh1 rs1 rd f1=>by
   cases rd;exact Fin.ok f1 rh1 rfl
theorem tand_ok(e:Txs){Γ:Gm}{X:Cx}{E:XK}{k:Nat}{x:List Expr}{pos:Pos}(G:Gd T Γ X Y E k)(h:chkts Γ e x=true):PW X (.BoolOp .And x pos) (Zib T Y E (.ands e)):=match e,x,h with
 | .one t,x,h=>ZaR h fun y h=>(ZkJ (tst_ok t G h)).imp fun Z H Q q=>q
 | .cons t ts,[],h=>ff h
 | .cons t ts,[_],h=>ff (bL (bR h))
 | .cons t ts,x::y::r,h=>(ZmZ (tst_ok t G (bL h)) (tand_ok ts G (bR (bR h)))).imp fun Z H Q s=>Sm.bind s fun S d h1 x H1 μ1 rh1 rs1 rd f1=>by
   cases rd;cases d with
   | true=>exact ZgR ⟨S,h1,μ1,rh1,rs1,f1⟩
   | false=>exact ZgS (Fin.ok f1 rh1 rfl)
theorem tor_ok(e:Txs){Γ:Gm}{X:Cx}{E:XK}{k:Nat}{x:List Expr}{pos:Pos}(G:Gd T Γ X Y E k)(h:chkts Γ e x=true):PW X (.BoolOp .Or x pos) (Zib T Y E (.ors e)):=match e,x,h with
 | .one t,x,h=>ZaR h fun y h=>(ZmY (tst_ok t G h)).imp fun Z H Q q=>q
 | .cons t ts,[],h=>ff h
 | .cons t ts,[_],h=>ff (bL (bR h))
 | .cons t ts,x::y::r,h=>(ZoN (tst_ok t G (bL h)) (tor_ok ts G (bR (bR h)))).imp fun Z H Q s=>Sm.bind s fun S d h1 x H1 μ1 rh1 rs1 rd f1=>by
   cases rd;cases d with
   | true=>exact ZgR (Fin.ok f1 rh1 rfl)
   | false=>exact ZgS ⟨S,h1,μ1,rh1,rs1,f1⟩
theorem ifs_ok(c:Option Tx){Γ:Gm}{X:Cx}{E:XK}{k:Nat}{x:List Expr}(G:Gd T Γ X Y E k)(h:chkf Γ c x=true):PIf X x (Sm Y E eqR (tsto T c)):=match c,x,h with
 | none,[],h=>fun pins s Z H Q I sm=>by
   cases sm with
   | mk S h B rh rs f=>exact ZkV pins s Z H Q I (Fin.ok (show Fin Y eqR H B (.ok true h) Q E from f) rh rfl)
 | none,_::_,h=>ff h
 | some t,x,h=>ZaR h fun y h=>ZkU (tst_ok t G h)
theorem evi_ok(e:Ix){Γ:Gm}{X:Cx}{E:XK}{k:Nat}{x tg:Expr}(G:Gd T Γ X Y E k)(h:chki Γ e tg x=true):PI X tg x (Zqp T Y E e):=match e,h with
 | .pl e,h=>(Zm6 (Zh e G h)).imp fun Z H Q s=>Sm.bind s fun S d h1 x H1 μ1 rh1 rs1 rd f1=>by
   obtain ⟨w,ew,f1⟩:=f1.ofO;exact Zkn G.gk.K rh1 rd ew fun J wj=>f1.ok rh1 wj
 | .rng e,h=>ZdO h fun p ys q h=>ZaR h fun y h=>(Zih (G.gl (bL h)).1 (G.blt _ (by decide)) (Zdc (Zh e G (bL (bR h))) ZeT (ZB X.env (bR (bR h)))) (ZB X.env (bR (bR h)))).imp fun Z H Q s=>Sm.bind s fun S d h1 x H1 μ1 rh1 rs1 rd f1=>by
   cases rd with
   | int j =>
     obtain ⟨hz,f1⟩:=Fin.iff (show Fin Y (WJ Y) H1 μ1 (if Zab j=true then .ok ⟨[],ZR 0 j.toNat⟩ h1 else .bad) Q E from f1);exact ⟨j,rfl,of_decide_eq_true (bL hz),of_decide_eq_true (bR hz),f1.ok rh1 ZmF⟩
   | _=>exact f1.elim
 | .rng2 a b,h=>ff h
 | .enu e,h=>ZdO h fun p ys q h=>ZaR h fun y h=>Zmj (bR (bR (bR h))) fun ts j r=>(ZkX (G.gl (bL h)).1 (G.blt _ (by decide)) (Zdc (Zh e G (bL (bR h))) ZeT (ZB X.env (bL (bR (bR h))))) (ZB X.env (bL (bR (bR h))))).imp fun Z H Q s=>Sm.bind s fun S d h1 x H1 μ1 rh1 rs1 rd f1=>by
   obtain ⟨w,ew,f1⟩:=f1.ofO;obtain ⟨w0,ew0,rfl⟩:=Oo.mp ew;cases d with
   | ro xs =>
     cases ew0;cases rd with
     | ro t s=>exact ⟨_,rfl,⟨_,G.gk.K ▸ t.sq⟩,f1.ok rh1 (Zg6 (Zl8 G.gk.K rh1 t s) fun H2 μ2 h2 g2 rh2 st=>⟨_,G.gk.K ▸ (g2.rdF rh1 t).sq,s.mono rh1 g2⟩)⟩
   | ref i =>
     obtain ⟨xs,hi,rfl⟩:=ZiL ew0;obtain ⟨a,vs,rfl,hm,hl,s⟩:=rd.lst rh1 hi;refine ⟨a,rfl,⟨vs,.of hl⟩,f1.ok rh1 (Zg6 (ZiM hm) fun H2 μ2 h2 g2 rh2 st=>?_)⟩;obtain ⟨vs2,hl2,s2⟩:=rh2.ob i _ a (Zdm st) (g2.pre i a hm);exact ⟨vs2,.of hl2,s2⟩
   | _=>cases ew0
 | .rev e,h=>ZdO h fun p ys q h=>ZaR h fun y h=>(ZkW (G.gl (bL h)).1 (G.blt _ (by decide)) (Zdc (Zh e G (bL (bR h))) ZeT (ZB X.env (bR (bR h)))) (ZB X.env (bR (bR h)))).imp fun Z H Q s=>Sm.bind s fun S d h1 x H1 μ1 rh1 rs1 rd f1=>by
   obtain ⟨w,ew,f1⟩:=f1.ofO;obtain ⟨w0,ew0,rfl⟩:=Oo.mp ew;cases d with
   | tup xs =>
     cases ew0;obtain ⟨a,vs,rfl,t,s⟩:=rd.tup_inv;exact ⟨a,vs,rfl,.inl ⟨G.gk.K ▸ t,f1.ok rh1 (ZmG G.gk.K rh1 t s)⟩⟩
   | ref i =>
     obtain ⟨xs,hi,rfl⟩:=ZiL (show ZfD (.ref i) h1=some w0 from ew0);obtain ⟨a,vs,rfl,hm,hl,s⟩:=rd.lst rh1 hi;exact ⟨a,vs,rfl,.inr ⟨.of hl,by rw [<- s.length];exact f1.ok rh1 (Zkm hm)⟩⟩
   | _=>cases ew0
 | .en1 e,h=>ff h
 | .zl a b,h=>ff h
 | .zp a b,h=>ff h
 | .en0 e,h=>ff h
 | .dk e,h=>ff h
theorem pairs_ok(ps:Exs){Γ:Gm}{X:Cx}{E:XK}{k:Nat}{ks:List (Option Expr)}{vs:List Expr}{pos:Pos}(G:Gd T Γ X Y E k)(h:chkp Γ ps ks vs=true):PPs X pos ks vs (Zhc T Y E ps)/\ks.all (·.isSome)=true/\ks.length=vs.length:=match ps,ks,vs,h with
 | .nil,[],[],h=>⟨ZkP,rfl,rfl⟩
 | .nil,[],_::_,h=>ff h
 | .nil,_::_,_,h=>ff h
 | .cons e .nil,ks,vs,h=>ff h
 | .cons e (.cons v r'),[],vs,h=>ff h
 | .cons e (.cons v r'),none::_,vs,h=>ff h
 | .cons e (.cons v r'),some _::_,[],h=>ff h
 | .cons e (.cons v r'),some kx::ks,vx::vs,h =>
   let z:=pairs_ok r' (pos:=pos) G (bR (bR h))
   ⟨Zjn (Zh e G (bL h)) (Zh v G (bL (bR h))) z.1,z.2.1,congrArg (·+1) z.2.2⟩
end
end IV
end
section
namespace IV
open PySem PySem.Spec PyProof.Rows L2
noncomputable def ZbU(e:Expr):Bool:=decide (tgE e≠13)&&decide (tgE e≠19)
noncomputable def ZgL(e:Expr):Bool:=decide (tgE e≠8)
structure PsS where
 a:Expr:=default
 b:Expr:=default
 o:Option Expr:=none
 c:Option Expr:=none
 ts:List Expr:=[]
 xs:List Stmt:=[]
 ys:List Stmt:=[]
 zs:List Stmt:=[]
 hs:List ExceptHandler:=[]
 op:Operator:=.Add
 p:Pos:=default
 s:Stmt:=default
noncomputable def tgS:Stmt->Nat
 | .Return _ _=>1|.Assign _ _ _=>2|.AugAssign _ _ _ _=>3|.Expr _ _=>4|.If _ _ _ _=>5|.While _ _ _ _=>6|.For _ _ _ _ _=>7|.Pass _=>8|.Break _=>9|.Continue _=>10|.Raise _ _ _=>11|.Try _ _ _ _ _=>12|_=>0
noncomputable def prS(s:Stmt):PsS:=match s with
 | .Return o p=>{o:=o,p:=p}
 | .Assign ts a p=>{ts:=ts,a:=a,p:=p}
 | .AugAssign a op b p=>{a:=a,op:=op,b:=b,p:=p}
 | .Expr a p=>{a:=a,p:=p}
 | .If a xs ys p=>{a:=a,xs:=xs,ys:=ys,p:=p}
 | .While a xs ys p=>{a:=a,xs:=xs,ys:=ys,p:=p}
 | .For a b xs ys p=>{a:=a,b:=b,xs:=xs,ys:=ys,p:=p}
 | .Pass p=>{p:=p}
 | .Break p=>{p:=p}
 | .Continue p=>{p:=p}
 | .Raise o c p=>{o:=o,c:=c,p:=p}
 | .Try xs hs ys zs p=>{xs:=xs,hs:=hs,ys:=ys,zs:=zs,p:=p}
 | _=>{s:=s}
noncomputable def mkS(n:Nat)(p:PsS):Stmt:=match n with
 | 1=>.Return p.o p.p|2=>.Assign p.ts p.a p.p|3=>.AugAssign p.a p.op p.b p.p|4=>.Expr p.a p.p|5=>.If p.a p.xs p.ys p.p|6=>.While p.a p.xs p.ys p.p|7=>.For p.a p.b p.xs p.ys p.p
 | 8=>.Pass p.p|9=>.Break p.p|10=>.Continue p.p|11=>.Raise p.o p.c p.p|12=>.Try p.xs p.hs p.ys p.zs p.p|_=>p.s
theorem rbS(s:Stmt):mkS (tgS s) (prS s)=s:=by cases s<;>rfl
@[irreducible] noncomputable def anS(n:Nat)(s:Stmt)(f:PsS->Bool):Bool:=decide (tgS s=n)&&f (prS s)
section
variable {P:Stmt->Prop}{s:Stmt}
theorem Zai(h:anS n s f=true)(k:∀ p,f p=true->P (mkS n p)):P s:=by
 unfold anS at h;exact rbS s ▸ dS (P:=fun m=>P (mkS m (prS s))) (bL h) (k _ (bR h))
noncomputable def oSm{α:Type}(o:Option α)(f:α->Bool):Bool:=match o with
 | some x=>f x
 | none=>false
theorem Znv{α:Type}{P:Option α->Prop}{o:Option α}{f:α->Bool}(h:oSm o f=true)(k:∀ x,f x=true->P (some x)):P o:=by
 cases o with
 | none=>exact ff h
 | some x=>exact k x h
@[irreducible] noncomputable def aAs(s:Stmt)(f:Expr->Expr->Bool):Bool:=anS 2 s fun p=>l1 p.ts fun g=>f g p.a
theorem ZmB(h:aAs s f=true)(k:∀ g x q,f g x=true->P (.Assign [g] x q)):P s:=by
 unfold aAs at h;exact Zai h fun p h=>ZaR (P:=fun ts=>P (.Assign ts p.a p.p)) h fun _ h=>k _ _ _ h
end
noncomputable def Zpu:Ex->Bool
 | .comp _ _ _ _ _ _|.any=>true
 | _=>false
mutual
noncomputable def ZpI(Γ:Gm):Sx->Stmt->Bool
 | .ret e,s=>anS 1 s fun p=>oSm p.o fun x=>chk Γ e x
 | .set g e,s=>aAs s fun tg x=>ZlO Γ.N (ownD Γ.sc) g tg&&(chk Γ e x&&((ZbU x&&(!isTup tg || ZgL x)) || (decide (tgE tg=6)&&Zpu e)))
 | .put o i e,s=>aAs s fun tg x=>aS tg fun xo xi=>chk Γ o xo&&(chk Γ i xi&&(chk Γ e x&&(Zdx xi&&ZbU x)))
 | .aug i op e,s=>anS 3 s fun p=>Ziq Γ.N (ownD Γ.sc) i p.a&&(decide (p.op=.Add)&&(decide (op=.Add)&&chk Γ e p.b))
 | .drp e,s=>anS 4 s fun p=>chk Γ e p.a&&ZbU p.a
 | .iff c a b,s=>anS 5 s fun p=>chkt Γ c p.a&&(chkSs Γ a p.xs&&chkSs Γ b p.ys)
 | .whl c b,s=>anS 6 s fun p=>l0 p.ys (chkt Γ c p.a&&chkSs Γ b p.xs)
 | .forr g it b,s=>anS 7 s fun p=>l0 p.ys (chki Γ it p.a p.b&&(ZbL p.b&&(ZlO Γ.N (ownD Γ.sc) g p.a&&chkSs Γ b p.xs)))
 | .pas,s=>anS 8 s fun _=>true
 | .brk,s=>anS 9 s fun _=>true
 | .cnt,s=>anS 10 s fun _=>true
 | .seta _ _ _ _,_=>false
 | .auga _ _ _ _,_=>false
 | .any,_=>true
 | .rai _ _,_=>false
 | .trs _ _ _ _,_=>false
 | .trw _ _ _ _ _ _ _,_=>false
 | .unl _ _ _,_=>false
noncomputable def chkSs(Γ:Gm):Sxs->List Stmt->Bool
 | .nil,ss=>ss.isEmpty
 | .cons s r,ss=>match ss with
   | x::xs=>ZpI Γ s x&&chkSs Γ r xs
   | []=>false
end
noncomputable def ZC(Y:Yx)(H:Hp)(B:List Addr)(r:R (Fl×Ev))(D:Ends)(E:XK):Prop:=match r with
 | .bad=>False
 | .ok p h'=>∀ H' μ',Gr H B H' μ'->RH Y H' μ' h'->match p.1 with
   | .nx=>∀ σ',RS Y H' μ' p.2 σ'->D.nx σ' H'
   | .bk=>∀ σ',RS Y H' μ' p.2 σ'->D.bk σ' H'
   | .ct=>∀ σ',RS Y H' μ' p.2 σ'->D.ct σ' H'
   | .rt d=>∀ v,RD Y H' μ' d v->D.rt v H'
 | .exc c h'=>∀ H' μ' C,Gr H B H' μ'->RH Y H' μ' h'->Y.mg c=some (.ref C)->E (.ref C) none H'
section
variable {Y:Yx}{α β:Type}{rel:Hp->List Addr->α->β->Prop}{H H1:Hp}{B μ1:List Addr}{E:XK}{D:Ends}
theorem ZC.mono(g:Gr H B H1 μ1)(f:ZC Y H B r D E):ZC Y H1 μ1 r D E:=by
 cases r with
 | bad=>exact f
 | ok a h=>exact fun H' μ' g'=>f H' μ' (g.trans g')
 | exc c h=>exact fun H' μ' C g'=>f H' μ' C (g.trans g')
theorem ZC.bind(f:ZC Y H B (r.bind k) D E)
   (hk:∀ a h1 b H1 μ1,r=.ok a h1->Gr H B H1 μ1->RH Y H1 μ1 h1->rel H1 μ1 a b->ZC Y H1 μ1 (k a h1) D E->Q1 b H1):Fin Y rel H B r Q1 E:=by
 cases r with
 | bad=>exact f
 | ok a h=>exact fun b H' μ' g' rh rl=>hk a h b H' μ' rfl g' rh rl (ZC.mono g' f)
 | exc c h=>exact f
theorem ZC.ofO(f:ZC Y H B ((R.ofO o h).bind k) D E):∃ a,o=some a/\ZC Y H B (k a h) D E:=by
 cases o with
 | none=>exact f.elim
 | some a=>exact ⟨a,rfl,f⟩
theorem ZC.nx(f:ZC Y H B (.ok (.nx,S) h) D E)(rh:RH Y H B h)(rs:RS Y H B S Z):D.nx Z H:=f H B Gr.refl rh Z rs
theorem ZC.part(f:ZC Y H B (r.bind k) D E)
   (hk:∀ p h1 H1 μ1,r=.ok p h1->Gr H B H1 μ1->RH Y H1 μ1 h1->ZC Y H1 μ1 (k p h1) D E->match p.1 with
     | .nx=>∀ σ',RS Y H1 μ1 p.2 σ'->D1.nx σ' H1
     | .bk=>∀ σ',RS Y H1 μ1 p.2 σ'->D1.bk σ' H1
     | .ct=>∀ σ',RS Y H1 μ1 p.2 σ'->D1.ct σ' H1
     | .rt d=>∀ v,RD Y H1 μ1 d v->D1.rt v H1):ZC Y H B r D1 E:=by
 cases r with
 | bad=>exact f
 | ok p h=>exact fun H' μ' g' rh=>hk p h H' μ' rfl g' rh (ZC.mono g' f)
 | exc c h=>exact f
end
inductive SmS(Y:Yx)(E:XK)(m:Ev->Hd->R (Fl×Ev))(D:Ends)(Z:L2.St)(H:Hp):Prop
 | mk (S:Ev) (h:Hd) (B:List Addr) (rh:RH Y H B h) (rs:RS Y H B S Z) (f:ZC Y H B (m S h) D E):SmS Y E m D Z H
noncomputable def ZkB(T:Tb)(Y:Yx)(E:XK)(s:Sx):TS:=SmS Y E (xs1 T s)
noncomputable def Zhi(T:Tb)(Y:Yx)(E:XK)(s:Sxs):TS:=SmS Y E (xs2 T s)
theorem SmS.bind{D:Ends}{γ δ:Type}{rel:Hp->List Addr->γ->δ->Prop}{m:Ev->Hd->R γ}{k:Ev->γ->Hd->R (Fl×Ev)}{Q1:δ->Hp->Prop}(s:SmS Y E (fun S h=>(m S h).bind (k S)) D Z H)
   (hk:∀ S d h1 v H1 μ1,RH Y H1 μ1 h1->RS Y H1 μ1 S Z->rel H1 μ1 d v->ZC Y H1 μ1 (k S d h1) D E->Q1 v H1):Sm Y E rel m Z H Q1:=by
 cases s with
 | mk S h B rh rs f=>exact ⟨S,h,B,rh,rs,f.bind fun d h1 x H1 μ1 _ g rh1 rd f1=>hk S d h1 x H1 μ1 rh1 (rs.mono rh g) rd f1⟩
theorem Sm.at{α β:Type}{rel:Hp->List Addr->α->β->Prop}{m:Ev->Hd->R α}{Q1:β->Hp->Prop}{Q:Prop}(s:Sm Y E rel m Z H Q1)(hk:∀ S h B,RH Y H B h->RS Y H B S Z->Fin Y rel H B (m S h) Q1 E->Q):Q:=by
 cases s with
 | mk S h B rh rs f=>exact hk S h B rh rs f
theorem SmS.at{D:Ends}{Q:Prop}(s:SmS Y E m D Z H)(hk:∀ S h B,RH Y H B h->RS Y H B S Z->ZC Y H B (m S h) D E->Q):Q:=by
 cases s with
 | mk S h B rh rs f=>exact hk S h B rh rs f
theorem _root_.L2.PS.imp(h:PS X s t)(i:∀ D Z H,t' D Z H->t D Z H):PS X s t':=fun pins s Z H D I q=>h pins s Z H D I (i D Z H q)
theorem _root_.L2.PSs.imp(h:PSs X s t)(i:∀ D Z H,t' D Z H->t D Z H):PSs X s t':=fun pins s Z H D I q=>h pins s Z H D I (i D Z H q)
structure XOk(K:PySem.W.Frag)(a:Addr):Prop extends ExcN K a where
 own:PySem.W.excIn K a [.type "ValueError",.type "Exception",.type "BaseException",.type "object"] "ValueError.__new__" = true
 sub:PySem.W.subIn K (.ref a) (.ref a)=some true
structure GdS(T:Tb)(Γ:Gm)(X:Cx)(Y:Yx)(E:XK)(k:Nat):Prop extends Gd T Γ X Y E k where
 top:Γ.top=true
 fnt:∀ x,X.fn x=true
 own:PassesOwn (model X.prog X.w) X.A X.env X.xe
 bk:X.env.blockKind=.function
 rz:Zh5 X E
 stk:X.stack=X.env::X.outer
 frm:X.env.frame=some X.env.locals
 xcs:∀ C∈Γ.kl.xs,∃ a,X.mg C=some (.ref a)/\XOk X.K a
 xas:∀ p∈Γ.kl.xa,∃ a b,X.mg p.1=some (.ref a)/\X.mg p.2=some (.ref b)/\XAs X.K a b
theorem GdS.ownD(G:GdS T Γ X Y E k):∀ x,ownD Γ.sc x=true->Loc X.env.scope x/\(X.fn x=true\/X.env.scope.names.lookup x=some .local):=by
 intro x h;refine ⟨?_,.inl (G.fnt x)⟩;unfold IV.ownD at h;rw [G.sc G.top];rw [Bool.or_eq_true] at h;exact h.imp of_decide_eq_true of_decide_eq_true
theorem Zda(h:ZbU x=true):swapsWith x t n env=pure false:=(kdE x).sw (of_decide_eq_true (bL h)) (of_decide_eq_true (bR h)) _ _ _
theorem Zi8(G:GdS T Γ X Y E k)(hi:Γ.N[i]? = some y)(ho:ownD Γ.sc y=true)(hx:Zpu e=true)(h:chk Γ e x=true):PS X (.Assign [.Name y py] x spos) (Zgy (ZV T Y E e) (ZaE i)):=by
 obtain ⟨o1,o2⟩:=G.ownD y ho;have hy:X.N[i]? = some y:=by rw [G.N];exact hi
 cases e with
 | comp NC js it g c e =>
   refine Zmg h (fun elt tg iter ifs scope q h pe=>?_) (Zh _ G.toGd h);cases sw:(X.env.blockKind==.function&&X.env.kindOf y==some .local&&py.line==q.line&&!(scope.names.any fun (n,k)=>n==y&&(k==.local || k==.cell))) with
   | true =>
     have S_:=Zgf (bL (bR h));rw [<- G.N,<- G.sc (bL h)] at S_;have Gc:=fun C s3 H3 fp=>G.toGd.comp NC scope C s3 H3 fp S_.nd;have h':=bR (bR h);exact (ZgF (g:=tgR X.K g) (tc:=Sm Y E0 eqR (tsto T c)) (te:=ZV T Y E0 e) G.nd hy o1 o2 S_ rfl G.calm (evi_ok it G.toGd (bL h')) (fun C s3 H3 fp=>⟨Zhr rfl S_.nd rfl (fun x hx=>Zhu (scope:=scope) X hx) (bL (bR (bR h'))),ifs_ok c (Gc C s3 H3 fp) (bL (bR (bR (bR (bR h'))))),Zh e (Gc C s3 H3 fp) (bR (bR (bR (bR (bR h')))))⟩) (Zos X.K g) (fun j hj=>of_decide_eq_true (OC.mp (bL (bR (bR (bR h')))) j (List.mem_range.mpr hj))) (ZgC X.env (bL (bR h'))) (congrArg pure sw)).imp
       fun D Z H s=>Sm.bind s fun S w h1 J H1 μ1 rh1 rs1 wj f1 D hD=>ZhS G.gk.K (fun _ _ _ z=>z) rh1 rs1 wj f1 hD
   | false=>exact Zjk G.nd hy o1 pe (congrArg pure sw) o2
 | any=>exact fun pins s Z H D I s=>Sm.at s fun _ _ _ _ _ f=>f.elim
 | _=>exact ff hx
theorem Zhh(ht:isTup tg=true)(pg:PG X tg g)(he:PE X x te)(h3:(ZbU x&&(!isTup tg || ZgL x))=true):PS X (.Assign [tg] x pos) (Zgy te g) :=
 Zmj (P:=fun tg=>PG X tg g->(!isTup tg || ZgL x)=true->PS X (.Assign [tg] x pos) (Zgy te g)) ht (fun _ _ _ pg h3=>Zjm he pg (by unfold swapsWithSole;exact Zda (bL ‹_›)) ((kdE x).st (of_decide_eq_true h3) _ _ _ _) rfl) pg (bR h3)
theorem Zht{D D1:Ends}{k:Ev->Hd->R (Fl×Ev)} (f:ZC Y H B (r.bind fun p h2=>match p with
     | (.nx,ρ2)=>k ρ2 h2
     | (.ct,ρ2)=>k ρ2 h2
     | (.bk,ρ2)=>.ok (.nx,ρ2) h2
     | (.rt d,ρ2)=>.ok (.rt d,ρ2) h2) D E) (hn:∀ ρ2 h2 H2 μ2 σ',Gr H B H2 μ2->RH Y H2 μ2 h2->RS Y H2 μ2 ρ2 σ'->ZC Y H2 μ2 (k ρ2 h2) D E->D1.nx σ' H2) (hc:D1.ct=D1.nx) (hb:D1.bk=D.nx) (hr:D1.rt=D.rt):ZC Y H B r D1 E :=
 ZC.part f fun p h2 H2 μ2 _ g2 rh2 f2=>by
   obtain ⟨fl,ρ2⟩:=p;cases fl with
   | nx=>exact fun σ' rs'=>hn ρ2 h2 H2 μ2 σ' g2 rh2 rs' f2
   | ct=>rw [hc];exact fun σ' rs'=>hn ρ2 h2 H2 μ2 σ' g2 rh2 rs' f2
   | bk=>rw [hb];exact fun σ' rs'=>ZC.nx f2 rh2 rs'
   | rt d=>rw [hr];exact fun v rv=>f2 H2 μ2 Gr.refl rh2 v rv
theorem ZmH{D:Ends}(s:ZkB T Y E (.whl c b) D Z H):ZiZ (Zib T Y E c) (Zhi T Y E b) D Z H:=by
 refine ⟨fun m=>SmS Y E (ZO (tst T c) (xs2 T b) m) D,⟨T.L,s⟩,fun m Z H s=>?_⟩;cases m with
 | zero=>exact SmS.at s fun _ _ _ _ _ f=>f.elim
 | succ m =>
   refine SmS.bind s fun S t h1 v H1 μ1 rh1 rs1 rd f1=>?_;cases rd;cases t with
   | false=>exact ZgS (ZC.nx f1 rh1 rs1)
   | true=>exact ZgR ⟨SmS Y E (ZO (tst T c) (xs2 T b) m) D,fun σ' H' q=>⟨m,OH m,q⟩,S,h1,μ1,rh1,rs1,Zht f1 (fun ρ2 h2 H2 μ2 σ' _ rh2 rs2 f2=>⟨ρ2,h2,μ2,rh2,rs2,f2⟩) rfl rfl rfl⟩
inductive FwS(Y:Yx)(E:XK)(H1:Hp)(μ1:List Addr)(n i:Nat)(F:Ev->Hd->R (Fl×Ev))(D:Ends)(m:Nat)(Z:L2.St)(H:Hp):Prop
 | mk (S:Ev) (h:Hd) (B:List Addr) (hi:i<=n) (hm:m=n - i) (g:Gr H1 μ1 H B) (rh:RH Y H B h) (rs:RS Y H B S Z) (f:ZC Y H B (F S h) D E):FwS Y E H1 μ1 n i F D m Z H
theorem ZnQ{K:PySem.W.Frag}{g:Tg}{D:Ends}(hY:Y.K=K)(rh1:RH Y H1 μ1 h1)(rs1:RS Y H1 μ1 S Z)(wj:WJ Y H1 μ1 w J)(f1:ZC Y H1 μ1 (ZL w.src g (xs2 T b) w.xs S h1) D E):∃ W:Nat->Nat->L2.St->Hp->Prop,(∃ m,W 0 m Z H1)/\∀ i m Z H,W i m Z H ->
   (J.stop i H/\D.nx Z H)\/(J.go i H/\∃ B_:L2.St->Hp->Prop,(∀ σ' H',B_ σ' H'->∃ m',m'<m/\W (i+1) m' σ' H')/\∀ x H',J.yld i H x H'->tgR K g x Z H' fun σ' H''=>Zhi T Y E b {D with nx:=B_,ct:=B_,bk:=D.nx} σ' H''):=by
 refine ⟨fun i=>FwS Y E H1 μ1 w.xs.length i (fun S=>ZL w.src g (xs2 T b) (w.xs.drop i) S) D,⟨w.xs.length,S,h1,μ1,Nat.zero_le _,(Nat.sub_zero _).symm,Gr.refl,rh1,rs1,f1⟩,fun i m Z H s=>?_⟩;cases s with
 | mk S h B hi hm g0 rh rs f =>
   subst hm;by_cases hs:Wk.stays w.src h=true
   . by_cases hlt:i<w.xs.length
     . have hd:=Og hlt;rw [List.drop_eq_getElem_cons hlt,ZL,if_pos hs] at f;obtain ⟨go,yl⟩:=(wj H B h g0 rh hs).1 i _ hd;refine .inr ⟨go,FwS Y E H1 μ1 w.xs.length (i+1) (fun S=>ZL w.src g (xs2 T b) (w.xs.drop (i+1)) S) D (w.xs.length - (i+1)),fun σ' H' q=>⟨_,Nat.sub_lt_sub_left hlt (OH i),q⟩,fun x H' hy=>?_⟩;obtain ⟨g2,rh2,rx⟩:=yl x H' hy;split at f
       . exact f.elim
       . rename_i ρ1 hb;exact Zfo hY rx (rs.mono rh g2) hb fun σ1 rs1=>⟨ρ1,h,B,rh2,rs1,Zht (ZC.mono g2 f) (fun ρ2 h3 H3 μ3 σ' g3 rh3 rs3 f3=>⟨ρ2,h3,μ3,hlt,rfl,(g0.trans g2).trans g3,rh3,rs3,f3⟩) rfl rfl rfl⟩
     . have he:i=w.xs.length:=Nat.le_antisymm hi (Nat.le_of_not_lt hlt);subst he;rw [List.drop_eq_nil_of_le (Oq _),ZL,if_pos hs] at f;exact .inl ⟨(wj H B h g0 rh hs).2,ZC.nx f rh rs⟩
   . cases e:w.xs.drop i with
     | nil=>rw [e,ZL,if_neg hs] at f;exact f.elim
     | cons _ _=>rw [e,ZL,if_neg hs] at f;exact f.elim
mutual
theorem ZoD(s:Sx){Γ:Gm}{X:Cx}{E:XK}{k:Nat}{x:Stmt}(G:GdS T Γ X Y E k)(h:ZpI Γ s x=true):PS X x (ZkB T Y E s):=match s,h with
 | .ret e,h=>Zai (P:=fun x=>PS X x _) h fun p h=>Znv (P:=fun o=>PS X (.Return o p.p) _) h fun y h=>(Zm2 (Zh e G.toGd h)).imp fun D Z H s=>SmS.bind s fun S d h1 v H1 μ1 rh1 rs1 rd f1=>f1 H1 μ1 Gr.refl rh1 v rd
 | .set g e,h=>ZmB (P:=fun x=>PS X x _) h fun tg xe pos h=>by
   have fin:∀ {D:Ends}{Z:L2.St}{H:Hp},ZkB T Y E (.set g e) D Z H->Zgy (ZV T Y E e) (tgR X.K g) D Z H:=fun {D Z H} s=>SmS.bind s fun S d h1 v H1 μ1 rh1 rs1 rd f1=>by
     obtain ⟨ρ1,eb,f1⟩:=f1.ofO;exact Zfo G.gk.K rd rs1 eb fun σ1 rs2=>f1.nx rh1 rs2
   have pg:=Zhr (X:=X) G.N G.nd G.calm G.ownD (bL h);refine bO (bR (bR h)) (fun h3=>?_) fun h3=>?_
   . cases g with
     | nm i=>exact Zad (P:=fun t=>PS X (.Assign [t] _ _) _) (bL h) fun y py e1 e2=>(Zjk G.nd (by rw [G.N];exact e1) (G.ownD y e2).1 (Zh e G.toGd (bL (bR h))) (Zda (bL h3)) (G.ownD y e2).2).imp fun D Z H q=>fin q
     | two i j=>exact (Zhh (ZfG (P:=fun t=>isTup t=true) (show ZhW Γ.N (ownD Γ.sc) i j tg=true from bL h) fun _ _ _ _=>rfl) pg (Zh e G.toGd (bL (bR h))) h3).imp fun D Z H q=>fin q
     | many is=>exact (Zhh (ZfG (P:=fun t=>isTup t=true) (show ZhV Γ.N (ownD Γ.sc) is tg=true from bL h) fun _ _ _ _=>rfl) pg (Zh e G.toGd (bL (bR h))) h3).imp fun D Z H q=>fin q
   . cases g with
     | nm i=>exact Zad (P:=fun t=>PS X (.Assign [t] _ _) _) (bL h) fun y py e1 e2=>(Zi8 G e1 e2 (bR h3) (bL (bR h))).imp fun D Z H q=>fin q
     | two i j=>exact ff (ZfG (P:=fun t=>decide (tgE t=6)=true->false=true) (show ZhW Γ.N (ownD Γ.sc) i j tg=true from bL h) (fun _ _ _ _ z=>z) (bL h3))
     | many is=>exact ff (ZfG (P:=fun t=>decide (tgE t=6)=true->false=true) (show ZhV Γ.N (ownD Γ.sc) is tg=true from bL h) (fun _ _ _ _ z=>z) (bL h3))
 | .put o i e,h=>ZmB (P:=fun x=>PS X x _) h fun tg xe p2 h=>ZmU (P:=fun t=>PS X (.Assign [t] _ _) _) h fun xo xi p1 h =>
   (Zjm (pos:=p2) (Zh e G.toGd (bL (bR (bR h)))) (Zm7 (pos:=p1) (Zh o G.toGd (bL h)) (Zh i G.toGd (bL (bR h))) (Zm0 (Y:=Y) (E:=E)) ((kdE xi).put (of_decide_eq_true (bL (bR (bR (bR h))))) _ _ _)) (by unfold swapsWithSole;exact Zda (bR (bR (bR (bR h))))) rfl rfl).imp fun D Z H s=>SmS.bind s fun S d h1 v H1 μ1 rh1 rs1 rd f1 =>
     ⟨S,h1,μ1,rh1,rs1,f1.bind fun d2 h2 v2 H2 μ2 _ g2 rh2 rd2 f2=>⟨S,h2,μ2,rh2,rs1.mono rh1 g2,f2.bind fun d3 h3 v3 H3 μ3 _ g3 rh3 rd3 f3 =>
       ⟨d2,d3,d,h3,μ3,rh3,rd2.mono rh2 g3,rd3,(rd.mono rh1 g2).mono rh2 g3,f3.bind fun _ h4 _ H4 μ4 _ g4 rh4 _ f4=>f4.nx rh4 (((rs1.mono rh1 g2).mono rh2 g3).mono rh3 g4)⟩⟩⟩
 | .aug i op e,h=>Zai (P:=fun x=>PS X x _) h fun p h=>Zad (P:=fun a=>PS X (.AugAssign a _ _ _) _) (bL h) fun y py e1 e2=>dS (P:=fun o=>PS X (.AugAssign _ o _ _) _) (bL (bR h)) <| dS (P:=fun o=>PS X _ (ZkB T Y E (.aug i o e))) (bL (bR (bR h))) <|
   (Zm4 G.nd (by rw [G.N];exact e1) (G.ownD _ e2).1 (Zh e G.toGd (bR (bR (bR h)))) ZnP (G.ownD _ e2).2).imp fun D Z H s=>SmS.at s fun S h B rh rs f=>by
     obtain ⟨d,ed,f⟩:=ZC.ofO f;obtain ⟨v,ev,rd⟩:=rs.var ed;refine ⟨v,ev,S,h,B,rh,rs,ZC.bind f fun d2 h2 v2 H2 μ2 _ g2 rh2 rd2 f2=>?_⟩;cases rd with
     | int a =>
       cases rd2 with
       | int b=>exact ⟨a,b,rfl,rfl,ZC.nx f2 rh2 ((rs.mono rh g2).set (.int _))⟩
       | _=>exact f2.elim
     | _=>exact f2.elim
 | .drp e,h=>Zai (P:=fun x=>PS X x _) h fun p h=>(ZkO (Zh e G.toGd (bL h)) (Zda (bR h))).imp fun D Z H s=>SmS.bind s fun S d h1 v H1 μ1 rh1 rs1 rd f1=>f1.nx rh1 rs1
 | .iff c a b,h=>Zai (P:=fun x=>PS X x _) h fun p h=>(ZoS (tst_ok c G.toGd (bL h)) (sts_ok a G (bL (bR h))) (sts_ok b G (bR (bR h)))).imp fun D Z H s=>SmS.bind s fun S t h1 v H1 μ1 rh1 rs1 rd f1=>by
   cases rd;cases t with
   | true=>exact ZgR ⟨S,h1,μ1,rh1,rs1,f1⟩
   | false=>exact ZgS ⟨S,h1,μ1,rh1,rs1,f1⟩
 | .whl c b,h=>Zai (P:=fun x=>PS X x _) h fun p h=>ZhB (P:=fun ys=>PS X (.While _ _ ys _) _) h fun h=>(Zjj G.own (tst_ok c G.toGd (bL h)) (sts_ok b G (bR h))).imp fun D Z H s=>ZmH s
 | .forr g it b,h=>Zai (P:=fun x=>PS X x _) h fun p h=>ZhB (P:=fun ys=>PS X (.For _ _ _ ys _) _) h fun h=>(Zm3 G.own G.calm (evi_ok it G.toGd (bL h)) (Zhr (X:=X) G.N G.nd G.calm G.ownD (bL (bR (bR h)))) (sts_ok b G (bR (bR (bR h)))) (ZgC X.env (bL (bR h)))).imp fun D Z H s=>SmS.bind s fun S w h1 J H1 μ1 rh1 rs1 wj f1=>ZnQ G.gk.K rh1 rs1 wj f1
 | .pas,h=>Zai (P:=fun x=>PS X x _) h fun p h=>ZkN.imp fun D Z H s=>SmS.at s fun S h B rh rs f=>ZC.nx f rh rs
 | .brk,h=>Zai (P:=fun x=>PS X x _) h fun p h=>Zjl.imp fun D Z H s=>SmS.at s fun S h B rh rs f=>f H B Gr.refl rh Z rs
 | .cnt,h=>Zai (P:=fun x=>PS X x _) h fun p h=>ZfR.imp fun D Z H s=>SmS.at s fun S h B rh rs f=>f H B Gr.refl rh Z rs
 | .any,h=>fun pins s Z H D I s=>SmS.at s fun S h B rh rs f=>f.elim
 | .rai C e,h=>ff h
 | .trs i f es C,h=>ff h
 | .trw i n f es C W w,h=>ff h
 | .seta Cs o f e,h=>ff h
 | .auga Cs o f e,h=>ff h
 | .unl i j e,h=>ff h
theorem sts_ok(s:Sxs){Γ:Gm}{X:Cx}{E:XK}{k:Nat}{x:List Stmt}(G:GdS T Γ X Y E k)(h:chkSs Γ s x=true):PSs X x (Zhi T Y E s):=match s,x,h with
 | .nil,[],h=>ZkM.imp fun D Z H s=>SmS.at s fun S h B rh rs f=>ZC.nx f rh rs
 | .nil,_::_,h=>ff h
 | .cons s r,[],h=>ff h
 | .cons s r,x::xs,h=>(Zji (ZoD s G (bL h)) (sts_ok r G (bR h))).imp fun D Z H s=>SmS.at s fun S h B rh rs f=>⟨S,h,B,rh,rs,ZC.part f fun p h1 H1 μ1 _ g1 rh1 f1=>by
     obtain ⟨fl,ρ1⟩:=p;cases fl with
     | nx=>exact fun σ' rs'=>⟨ρ1,h1,μ1,rh1,rs',f1⟩
     | bk=>exact fun σ' rs'=>f1 H1 μ1 Gr.refl rh1 σ' rs'
     | ct=>exact fun σ' rs'=>f1 H1 μ1 Gr.refl rh1 σ' rs'
     | rt d=>exact fun v rv=>f1 H1 μ1 Gr.refl rh1 v rv⟩
end
end IV
end
section
set_option tactic.hygienic false
namespace IV
open PySem PySem.Spec PyProof.Rows L2
structure BodyOk(K:PySem.W.Frag)(kl:Kl)(fs:List Str)(x q:Str)(fd:Fd)(st:Stmt)(f:Addr)(fdd:FuncData):Prop where
 fn:Fun K x q st f fdd
 sc:FnScope fd.N fd.ps (Zz st)
 hb:∀ (kV doc pm:Value) (an:Option Addr) (cdv ct:Value) (us:List Value),us.length=fd.ps.length->bindArgs (PySem.W.fnOf x q (Za6 st) (Zae st) (Zz st) .none kV doc pm an cdv ct) ⟨us,[]⟩=pure (fd.ps.zip us)
 ck:chkSs ⟨fd.N,Zz st,fs,true,kl⟩ fd.body (Zae st)=true
structure DefOk(K:PySem.W.Frag)(mg:Str->Option Value)(kl:Kl)(fs:List Str)(x:Str)(fd:Fd)(st:Stmt)(f:Addr)(fdd:FuncData):Prop where
 bd:BodyOk K kl fs x x fd st f fdd
 mg:mg x=some (.ref f)
structure Md(Pr:Program)(w:World)(K:PySem.W.Frag)(mg:Str->Option Value)(P:Pg)(kl:Kl):Prop where
 bare:Zdi K=true
 gd:∀ x kvs,P.GD x=some kvs->∃ a kvs',mg x=some (.ref a)/\DkK Pr w K a kvs'/\∀ H B,RKs ⟨K,mg⟩ H B kvs kvs'
 g:∀ x d,P.G x=some d->∃ v u,mg x=some u/\RelV v u/\∀ H B,RD ⟨K,mg⟩ H B d v
 blt:∀ x∈ZhY,mg x=none
 defs:∀ x fd,P.tb.lookup x=some fd->∃ st f fdd,DefOk K mg kl (P.tb.map (·.1)) x fd st f fdd
 cls:∀ C∈kl.cs,∃ a,mg C=some (.ref a)/\Cls K a/\∀ f∈kl.ats,ZcF K a f
 mts:∀ p∈kl.ms,∃ a f fdd fd st q,mg p.1=some (.ref a)/\Cls K a/\Meth K a p.2 f/\P.look (mnm p.1 p.2)=some fd/\BodyOk K kl (P.tb.map (·.1)) p.2 q fd st f fdd
 mks:∀ C∈kl.is,∃ a f fdd fd st q,mg C=some (.ref a)/\Mk K a f/\P.look (mnm C (O "__init__"))=some fd/\BodyOk K kl (P.tb.map (·.1)) (O "__init__") q fd st f fdd
 xcs:∀ C∈kl.xs,∃ a,mg C=some (.ref a)/\XOk K a
 xas:∀ p∈kl.xa,∃ a b,mg p.1=some (.ref a)/\mg p.2=some (.ref b)/\XAs K a b
theorem Zi1(r:RDs Y H B ds vs):RS Y H B (ZbJ N ds) (L2.start N vs):=by
 refine ⟨by simp [ZbJ,L2.start,r.length],fun i d e=>?_⟩;unfold ZbJ at e;unfold L2.start;by_cases hi:i<ds.length
 . rw [Oe (by simpa using hi),On] at e;rw [Oe (by simpa [<- r.length] using hi),On];obtain ⟨d',e1,e2⟩:=Oo.mp e;cases e2;obtain ⟨v,h1,h2⟩:=r.get e1;exact ⟨v,by rw [h1];rfl,h2⟩
 . rw [Om (by simpa using hi)] at e;have:=O1 e;rw [List.mem_replicate] at this;cases this.2
theorem ZkE(f:Fin Y (RD Y) H B (Zm r) Q E):ZC Y H B r {nx:=fun _ H'=>Q .non H',rt:=Q} E:=by
 cases r with
 | bad=>exact f.elim
 | exc c h=>exact f
 | ok p h =>
   obtain ⟨fl,S⟩:=p;cases fl with
   | nx=>exact fun H' μ' g rh σ' _=>f .non H' μ' g rh .non
   | bk=>exact f.elim
   | ct=>exact f.elim
   | rt d=>exact fun H' μ' g rh v rv=>f v H' μ' g rh rv
section
variable {Pr:Program}{w:World}{K:PySem.W.Frag}{mg:Str->Option Value}{base:Heap}{P:Pg}{kl:Kl}
theorem Ze2(h:P.tb.lookup x=some fd):P.look x=some fd:=by unfold Pg.look;rw [h]
theorem Zi4(hl:P.look x=some fd)(h:Zdn (P.tbl n) ⟨K,mg⟩ x vs H Q E):vs.length=fd.ps.length:=by
 obtain ⟨ds,h,B,rh,rs,f⟩:=h;cases n with
 | zero=>exact f.elim
 | succ n =>
   have f:Fin ⟨K,mg⟩ (RD ⟨K,mg⟩) H B (run P (n+1) x ds h) Q E:=f;rw [run,hl] at f;obtain ⟨hz,_⟩:=f.iff;rw [<- rs.length];exact hz
structure Lev(Pr:Program)(w:World)(K:PySem.W.Frag)(mg:Str->Option Value)(base:Heap)(P:Pg)(kl:Kl)(n:Nat):Prop where
 defs:∀ y∈P.tb.map (·.1),∃ ps,Def Pr w K mg base (2 * n+61) y ps (Zdn (P.tbl n) ⟨K,mg⟩ y)
 mts:∀ p∈kl.ms,∃ a f fd ps,mg p.1=some (.ref a)/\Cls K a/\Meth K a p.2 f/\FnOk Pr w K mg base (CXF Pr w) (2 * n+61) f fd ps (Zdn (P.tbl n) ⟨K,mg⟩ (mnm p.1 p.2))/\Binds K fd ps []
 mks:∀ C∈kl.is,∃ a f fd ps,mg C=some (.ref a)/\Mk K a f/\FnOk Pr w K mg base (CXF Pr w) (2 * n+61) f fd ps (Zdn (P.tbl n) ⟨K,mg⟩ (mnm C (O "__init__")))/\Binds K fd ps []
theorem Zfe(M:Md Pr w K mg P kl){x nm q:Str}{fd:Fd}{st:Stmt}{f:Addr}{fdd:FuncData}(hl:P.look x=some fd)(o:BodyOk K kl (P.tb.map (·.1)) nm q fd st f fdd) :
   ∀ n,Lev Pr w K mg base P kl n->FnOk Pr w K mg base (CXF Pr w) (2 * (n+1)+61) f fdd fd.ps (Zdn (P.tbl (n+1)) ⟨K,mg⟩ x):=by
 intro n ih;obtain ⟨oc,od,kV,doc,pm,an,cdv,ct,osl,rfl,lk,hcd⟩:=o.fn.ex;have S_:=o.sc;rw [show 2 * (n+1)+61=(2 * n+61+1)+1 by lia];refine Zpz lk hcd S_ (fun vs H Q E h=>Zi4 hl h) fun A outer s H vs Q E hr hsp=>?_;refine ZlR (t:=Zhi (P.tbl n) ⟨K,mg⟩ E fd.body) (sts_ok fd.body (k:=2 * n+61) (Γ:=⟨fd.N,Zz st,P.tb.map (·.1),true,kl⟩) ⟨⟨⟨rfl,rfl,M.gd,M.g,M.bare⟩,rfl,fun _=>rfl,fun y hy=>?_,fun y hy=>hy,S_.nd,rfl,hr.mono (by lia),by lia,Zk5 fun _ _ z=>z,ih.defs,M.blt,hr,M.cls,ih.mts,ih.mks⟩,rfl,fun _=>rfl,PassesOwn.leaving,?_,Zjb,rfl,rfl,M.xcs,M.xas⟩ o.ck) ?_
 . unfold Zkp at hy;rw [Bool.or_eq_true,Bool.or_eq_true] at hy;rcases hy with (hy|hy)|hy
   . exact .inl (of_decide_eq_true hy)
   . exact .inr (.inl (of_decide_eq_true hy))
   . exact .inr (.inr (of_decide_eq_true hy))
 . show (if (Zz st).kind.isAnnotationScope then ScopeKind.function else (Zz st).kind)=.function;rw [S_.kind];rfl
 . obtain ⟨ds,h,B,rh,rs,f⟩:=hsp;have f:Fin ⟨K,mg⟩ (RD ⟨K,mg⟩) H B (run P (n+1) x ds h) Q E:=f;rw [run,hl] at f;obtain ⟨hz,f⟩:=f.iff;exact ⟨ZbJ fd.N ds,h,B,rh,Zi1 rs,ZkE f⟩
theorem mem_lookup{α:Type}{l:List (Str×α)}{x:Str}(h:x∈l.map (·.1)):∃ a,l.lookup x=some a:=by
 induction l with
 | nil=>simp at h
 | cons p r ih =>
   rw [OF];by_cases e:x=p.1
   . have:(x==p.1)=true:=by simpa using e
     rw [this];exact ⟨_,rfl⟩
   . have:(x==p.1)=false:=by simpa using e
     rw [this];exact ih (by simpa [e] using h)
theorem Zfa{x:Str}{fd:Fd}{f:Addr}{fdd:FuncData}(hl:P.look x=some fd):FnOk Pr w K mg base (CXF Pr w) (2 * 0+61) f fdd fd.ps (Zdn (P.tbl 0) ⟨K,mg⟩ x) :=
 ⟨fun vs H Q E h=>Zi4 hl h,fun A outer s H args us vs Q E _ _ _ _ h=>by obtain ⟨ds,h,B,rh,rs,f⟩:=h;exact f.elim⟩
theorem Zkg(M:Md Pr w K mg P kl):∀ n,Lev Pr w K mg base P kl n:=by
 intro n;induction n with
 | zero =>
   refine ⟨fun y hy=>?_,fun p hp=>?_,fun C hC=>?_⟩
   . obtain ⟨fd,hl⟩:=mem_lookup hy;obtain ⟨st,f,fdd,o⟩:=M.defs y fd hl;exact ⟨fd.ps,f,fdd,o.mg,o.bd.fn.kp,o.bd.fn.binds o.bd.hb,Zfa (Ze2 hl)⟩
   . obtain ⟨a,f,fdd,fd,st,q,m,c,me,hl,o⟩:=M.mts p hp;exact ⟨a,f,fdd,fd.ps,m,c,me,Zfa hl,o.fn.binds o.hb⟩
   . obtain ⟨a,f,fdd,fd,st,q,m,me,hl,o⟩:=M.mks C hC;exact ⟨a,f,fdd,fd.ps,m,me,Zfa hl,o.fn.binds o.hb⟩
 | succ n ih =>
   refine ⟨fun y hy=>?_,fun p hp=>?_,fun C hC=>?_⟩
   . obtain ⟨fd,hl⟩:=mem_lookup hy;obtain ⟨st,f,fdd,o⟩:=M.defs y fd hl;exact ⟨fd.ps,f,fdd,o.mg,o.bd.fn.kp,o.bd.fn.binds o.bd.hb,Zfe M (Ze2 hl) o.bd n ih⟩
   . obtain ⟨a,f,fdd,fd,st,q,m,c,me,hl,o⟩:=M.mts p hp;exact ⟨a,f,fdd,fd.ps,m,c,me,Zfe M hl o n ih,o.fn.binds o.hb⟩
   . obtain ⟨a,f,fdd,fd,st,q,m,me,hl,o⟩:=M.mks C hC;exact ⟨a,f,fdd,fd.ps,m,me,Zfe M hl o n ih,o.fn.binds o.hb⟩
theorem ZnD(M:Md Pr w K mg P kl){x:Str}{a:Str}{fd:Fd}{fa:Addr}(n:Nat)(hl:P.tb.lookup x=some fd)(hps:fd.ps=[a])(hm:mg x=some (.ref fa)) :
   ∃ fdd:FuncData,(∀ (s:Shared) (v:Value),BindsTo s fdd ⟨[v],[]⟩ [(a,v)])/\∀ base:Heap,FnOk Pr w K mg base (CXF Pr w) (2 * (n+1)+61) fa fdd [a] (Zdn (P.tbl (n+1)) ⟨K,mg⟩ x):=by
 obtain ⟨st,f,fdd,o⟩:=M.defs x fd hl;have e:=hm.symm.trans o.mg;cases e;refine ⟨fdd,fun s v=>?_,fun base=>hps ▸ Zfe M (Ze2 hl) o.bd n (Zkg M n)⟩;obtain ⟨oc,od,kV,doc,pm,an,cdv,ct,osl,rfl,lk,hcd⟩:=o.bd.fn.ex;have:=o.bd.hb kV doc pm an cdv ct [v] (by rw [hps];rfl);rw [hps] at this;exact BindsTo.of_eq this
end
theorem Zom{α:Type}{us:List α}(h:us.length=0):us=[]:=List.length_eq_zero_iff.mp h
theorem ZmI{α:Type}{us:List α}{n:Nat}(h:us.length=n+1):∃ a r,us=a::r/\r.length=n:=by
 cases us with
 | nil=>cases h
 | cons a r=>exact ⟨a,r,rfl,Nat.succ.inj h⟩
theorem Zol{α:Type}{us:List α}(h:us.length=1):∃ a0,us=[a0]:=by
 obtain ⟨a0,r,rfl,h2⟩:=ZmI h;exact ⟨a0,by rw [Zom h2]⟩
theorem Zok{α:Type}{us:List α}(h:us.length=2):∃ a0 a1,us=[a0,a1]:=by
 obtain ⟨a0,r,rfl,h2⟩:=ZmI h;obtain ⟨a1,rfl⟩:=Zol h2;exact ⟨a0,a1,rfl⟩
theorem Zp6{α:Type}{us:List α}(h:us.length=3):∃ a0 a1 a2,us=[a0,a1,a2]:=by
 obtain ⟨a0,r,rfl,h2⟩:=ZmI h;obtain ⟨a1,a2,rfl⟩:=Zok h2;exact ⟨a0,a1,a2,rfl⟩
end IV
end
section
namespace IV
open PySem PySem.Spec PyProof.Rows L2
noncomputable def All(p:α->Prop):List α->Prop
 | []=>True
 | a::l=>p a/\All p l
theorem All.mem:∀ {l:List α},All p l->∀ a∈l,p a
 | [],_,a,h=>by simp at h
 | b::l,⟨h1,h2⟩,a,h=>by
   rcases O2.mp h with rfl|h
   . exact h1
   . exact All.mem h2 a h
theorem lookup_mem{α:Type}{l:List (Str×α)}{a:α}(h:l.lookup x=some a):(x,a)∈l:=by
 induction l with
 | nil=>cases h
 | cons p r ih =>
   rw [OF] at h;by_cases e:x=p.1
   . have:(x==p.1)=true:=by simpa using e
     rw [this] at h;cases h;subst e;exact Oi
   . have:(x==p.1)=false:=by simpa using e
     rw [this] at h;exact Oh _ (ih h)
noncomputable def spL(K:PySem.W.Frag):Sp:=fun vs H Q _=>∃ (a:Addr) (ns:List Int),vs=[.ref a]/\SqL K H a (ns.map V.int)/\ns.length<=63/\Zl7 H/\∀ H',Q (.bl true) H'
theorem ZhG:∀ ns:List Int,RDs Y H B (ns.map D.int) (ns.map V.int)
 | []=>.nil
 | n::r=>.cons (.int n) (ZhG r)
theorem Zoj {l:PySem.W.OpenLaw}{q:Program}{loose:List Str}{XP:(Str->Option Value)->Heap->Prop}{YP:World->Heap->Prop}{d:DefRec}{K:Params->PySem.W.Frag}{P:Pg}{kl:Kl}{fd:Fd} (n:Nat) (hn:l.most=some 63) (hdf:d.params.defaults=[]) (hd:d.name=O "law") (hr:Room (2 * (n+1)+61) callerA)
   (hY:∀ (w:World) (h:Heap),YP w h->(K w.params).In h) (hl:P.tb.lookup (O "law")=some fd) (hps:fd.ps=[O "_law_script"])
   (hrun:∀ ns:List Int,ns.length<=63->∃ h',run P (n+1) (O "law") [.ro (ns.map .int)] []=.ok (.bl true) h')
   (M:∀ (w:World) (mg:Str->Option Value) (h:Heap),(K w.params).In h->h.Ns mainGlobals mg->Md l.prog w (K w.params) mg P kl) :
   PySem.W.WalkO q loose XP YP l.row.toRowW d [] (fun f vs=>PySem.call f vs):=by
 refine L2.Zko (n:=63) (k:=2 * (n+1)+61) (x := "_law_script") (CX:=fun w=>CXF l.prog w) (sp:=fun w=>spL (K w.params)) hn (by decide) hdf hr hY (fun w mg fa h KX G hmg=>?_) (fun _ _ a ns hl hO hS=>⟨a,ns,rfl,hS,hl,hO,fun _=>rfl⟩) fun _ _ _ _ _ z=>by obtain ⟨_,_,_,_,_,_,_,_,_,_,_,_,_,z⟩:=z;exact z
 rw [hd] at hmg;obtain ⟨fdd,hb,F⟩:=ZnD (M w mg h KX G) n hl hps hmg;refine ⟨fdd,hb,fun base _ _=>(F base).imp fun vs H Q E hsp=>?_⟩;obtain ⟨a,ns,rfl,hS,hz,hO,hq⟩:=hsp;obtain ⟨h',e⟩:=hrun ns hz;refine ⟨[.ro (ns.map .int)],[],[],⟨rfl,.nil,fun i o a e=>by simp at e,fun i o e=>by simp at e⟩,.cons (.ro ?_ (ZhG ns)) .nil,?_⟩
 . rcases hS with hS|hS
   . rcases hS with hS|hS
     . rcases hO a with z|⟨o,xs,z⟩<;>(rw [z] at hS;cases hS)
     . exact .inl hS
   . exact .inr hS
 . show Fin _ _ H [] (run P (n+1) (O "law") [.ro (ns.map .int)] []) Q E;rw [e];exact fun b H' μ' _ _ r=>by cases r;exact hq H'
theorem ZoE {K:PySem.W.Frag} (h:K.lookup a=some ⟨.type "tuple",od,.seq its n,sl⟩) (hz:its.size<=sizeLine) (r:Zd vs its.toList):SqT K H a vs :=
 .inr ⟨_,its,n,h,rfl,rfl,hz,r⟩
end IV
end
section
namespace IV
open PySem L2 PyProof.Rows
structure Chk(kl:Kl)(fs:List Str)(x q:Str)(fd:Fd)(st:Stmt):Prop where
 sc:FnScope fd.N fd.ps (Zz st)
 hb:∀ (kV doc pm:Value) (an:Option Addr) (cdv ct:Value) (us:List Value),us.length=fd.ps.length->bindArgs (PySem.W.fnOf x q (Za6 st) (Zae st) (Zz st) .none kV doc pm an cdv ct) ⟨us,[]⟩=pure (fd.ps.zip us)
 ck:chkSs ⟨fd.N,Zz st,fs,true,kl⟩ fd.body (Zae st)=true
variable {K:PySem.W.Frag}{h:Heap}{mg:Str->Option Value}{kl:Kl}{fs:List Str}{x q C:Str}{fd:Fd}{st:Stmt}{ca:Addr}{P:Pg}
theorem Chk.bd(c:Chk kl fs x q fd st)(F:Fun K x q st f fdd):BodyOk K kl fs x q fd st f fdd:=⟨F,c.sc,c.hb,c.ck⟩
noncomputable def Zoa(K:PySem.W.Frag)(x:Str)(st:Stmt):Prop:=∃ f fdd,PySem.W.nsIn K mainGlobals x=some (some (.ref f))/\Fun K x x st f fdd
theorem ZlM(X:K.In h)(G:h.Ns mainGlobals mg)(d:Zoa K x st)(c:Chk kl fs x x fd st):∃ st f fdd,DefOk K mg kl fs x fd st f fdd:=by
 obtain ⟨f,fdd,a,F⟩:=d;exact ⟨st,f,fdd,c.bd F,PySem.W.mg_of X G a⟩
end IV
end
section
namespace IV
open PySem L2 PyProof.Rows
variable {K:PySem.W.Frag}{h:Heap}{mg:Str->Option Value}{kl:Kl}{fs:List Str}{C:Str}{ca:Addr}{P:Pg}
theorem ZhP(X:K.In h)(G:h.Ns mainGlobals mg){top:Nat->Stmt}:∀ {l:List (Str×Fd×Nat)},All (fun p=>Zoa K p.1 (top p.2.2)) l->All (fun p=>Chk kl fs p.1 p.1 p.2.1 (top p.2.2)) l->All (fun p:Str×Fd=>∃ st f fdd,DefOk K mg kl fs p.1 p.2 st f fdd) (l.map fun p=>(p.1,p.2.1))
 | [],_,_=>trivial
 | _::_,d,c=>⟨ZlM X G d.1 c.1,ZhP X G d.2 c.2⟩
theorem ZfY(X:K.In h)(G:h.Ns mainGlobals mg):∀ {l:List Str},All (fun x=>PySem.W.nsIn K mainGlobals x=some none) l->All (fun x=>mg x=none) l
 | [],_=>trivial
 | _::_,d=>⟨PySem.W.mg_none_of X G d.1,ZfY X G d.2⟩
end IV
end
section
set_option tactic.hygienic false
namespace IV
open PySem L2
theorem Ze0(h:Str.ofString a=Str.ofString b):a=b:=by
 have e:∀ s:String,(Str.ofString s).cps.toList=s.toList.map Char.toNat:=fun s=>by
   show (cpsOfBytes 0 0 s.toByteArray.data.toList).toArray.toList=_;rw [cpsOfBytes_string]
 have h1:=congrArg (fun s:Str=>s.cps.toList) h;simp only [e] at h1;have h2:a.toList=b.toList:=by
   have inj:∀ {x y:Char},x.toNat=y.toNat->x=y:=fun {x y} q=>by
     have:x.val=y.val:=UInt32.toNat_inj.mp q;exact Char.ext this
   exact (List.map_inj_right fun x y q=>inj q).mp h1
 exact String.toList_inj.mp h2
@[simp] theorem ofString_eq(a b:String):(Str.ofString a=Str.ofString b)↔a=b:=⟨Ze0,fun h=>h ▸ rfl⟩
noncomputable def Un(k:γ):Type:=Unit
noncomputable def un:Un k:=()
noncomputable def R.bnd(r:R α)(k:α->Hd->R β)(u:Un k:=un):R β:=r.bind k
@[simp] theorem Zn:R.bnd (.ok a h) k u=k a h:=rfl
@[simp] theorem Zp3:R.bnd (R.bad:R α) k u=.bad:=rfl
section
variable {T:Tb}{S:Ev}{h:Hd}
@[simp] theorem bind_ok:(R.ok a h).bind k=k a h:=rfl
@[simp] theorem bind_bad:(R.bad:R α).bind k=.bad:=rfl
@[simp] theorem ofO_some:R.ofO (some a) h=.ok a h:=rfl
@[simp] theorem Zoe:(R.ok a h).plain=.ok a h:=rfl
@[simp] theorem ZqR{i}:ev T (.var i) S h=R.ofO (S[i]?).join h:=rfl
@[simp] theorem ZqX{d}:ev T (.cst d) S h=.ok d h:=rfl
@[simp] theorem Zj3{x}:ev T (.glo x) S h=R.ofO (T.G x) h:=rfl
@[simp] theorem ZnU{op a b}:ev T (.bin op a b) S h=(ev T a S h).bnd fun x h1=>(ev T b S h1).bnd fun y h2=>opB op x y h2:=rfl
@[simp] theorem ZnS{op a b}:ev T (.cmp op a b) S h=(ev T a S h).bnd fun x h1=>(ev T b S h1).bnd fun y h2=>opC T.GD op x y h2:=rfl
@[simp] theorem ZqV{a}:ev T (.neg a) S h=(ev T a S h).bnd fun x h1=>match x with
   | .int i=>.ok (.int (-i)) h1
   | _=>.bad:=rfl
@[simp] theorem Zrk{a}:ev T (.nt a) S h=(ev T a S h).bnd fun x h1=>match x with
   | .bl b=>.ok (.bl (!b)) h1
   | _=>.bad:=rfl
@[simp] theorem ZlK{es}:ev T (.ands es) S h=evAnd T es S h:=rfl
@[simp] theorem ZqU{es}:ev T (.ors es) S h=evOr T es S h:=rfl
@[simp] theorem ZiE{e}:evAnd T (.cons e .nil) S h=ev T e S h:=rfl
@[simp] theorem ZiD{e e' r}:evAnd T (.cons e (.cons e' r)) S h=(ev T e S h).bnd fun x h1=>match x with
     | .bl true=>evAnd T (.cons e' r) S h1
     | .bl false=>.ok (.bl false) h1
     | _=>.bad:=rfl
@[simp] theorem ZpF{e}:evOr T (.cons e .nil) S h=ev T e S h:=rfl
@[simp] theorem ZpE{e e' r}:evOr T (.cons e (.cons e' r)) S h=(ev T e S h).bnd fun x h1=>match x with
     | .bl true=>.ok (.bl true) h1
     | .bl false=>evOr T (.cons e' r) S h1
     | _=>.bad:=rfl
@[simp] theorem Zj2{c a b}:ev T (.ite c a b) S h=(tst T c S h).bnd fun c h1=>if c then ev T a S h1 else ev T b S h1:=rfl
@[simp] theorem ZlF{es}:ev T (.tupl es) S h=(evs T es S h).bnd fun xs h1=>if xs.length<=sizeLine then .ok (.tup xs) h1 else .bad:=rfl
@[simp] theorem ZhL{es}:ev T (.lstl es) S h=(evs T es S h).bnd fun xs h1=>if xs.length<=sizeLine then Zao (.lst xs) h1 else .bad:=rfl
@[simp] theorem ZhM{a i}:ev T (.ix a i) S h=(ev T a S h).bnd fun x h1=>(ev T i S h1).bnd fun y h2=>Zci T.GD x y h2:=rfl
@[simp] theorem Zmn{a lo hi}:ev T (.sl a lo hi) S h=(ev T a S h).bnd fun x h1=>(evo T lo S h1).bnd fun l h2=>(evo T hi S h2).bnd fun u h3=>Zim x l u h3:=rfl
@[simp] theorem ZnT{f es}:ev T (.blt f es) S h=(evs T es S h).bnd fun xs h1=>ZdT T.GD f xs h1:=rfl
@[simp] theorem ZlJ{f es}:ev T (.call f es) S h=(evs T es S h).bnd fun xs h1=>T.C f xs h1:=rfl
@[simp] theorem ZlG{m o es}:ev T (.meth m o es) S h=(ev T o S h).bnd fun x h1=>if ZbW x h1 then (evs T es S h1).bnd fun xs h2=>Zap m x xs h2 else .bad:=rfl
@[simp] theorem ZlI{NC js it g c e}:ev T (.comp NC js it g c e) S h=(evi T it S h).bnd fun w h1=>(Zv w.src g (tsto T c) (ev T e) w.xs (ZcR js S) [] h1).bnd fun xs h2=>Zao (.lst xs) h2:=rfl
@[simp] theorem Zp2{e d}:ev T (.maxd e d) S h=(ev T e S h).bnd fun x h1=>(ev T d S h1).bnd fun y h2=>ZmA x y h2:=rfl
@[simp] theorem ZpD{ps}:ev T (.dictl ps) S h=(evs T ps S h).bnd fun xs h1=>match ZbK xs with
   | some kvs=>if kvs.length<=15 then Zao (.dic (Zck [] kvs)) h1 else .bad
   | none=>.bad:=rfl
@[simp] theorem ZqZ{Cs o f}:ev T (.att Cs o f) S h=(ev T o S h).bnd fun x h1=>ZiB Cs f x h1:=rfl
@[simp] theorem Zrl{C es}:ev T (.mk C es) S h=(evs T es S h).bnd fun xs h1=>Zpd T.C C xs h1:=rfl
@[simp] theorem ZqW{C m o es}:ev T (.mcl C m o es) S h=(ev T o S h).bnd fun x h1=>match Zbh x h1 with
   | some (C',fs)=>if C'=C/\fs.lookup m=none then (evs T es S h1).bnd fun xs h2=>T.C (mnm C m) (x::xs) h2 else .bad
   | none=>.bad:=rfl
@[simp] theorem Zp1{e}:ev T (.trev e) S h=(ev T e S h).bnd fun x h1=>Zmz x h1:=rfl
@[simp] theorem ZqS{o e}:ev T (.tix o e) S h=(ev T o S h).bnd fun x h1=>if Zpt x then (ev T e S h1).bnd fun y h2=>ZpL x y h2 else .bad:=rfl
@[simp] theorem Zoh{Cs o f e}:xs1 T (.seta Cs o f e) S h=(ev T e S h).bnd fun d h1=>(ev T o S h1).bnd fun x h2=>(ZkA Cs f x d h2).bnd fun _ h3=>.ok (.nx,S) h3:=rfl
@[simp] theorem Zoi{Cs o f e}:xs1 T (.auga Cs o f e) S h=(ev T o S h).bnd fun x h1=>(ZiB Cs f x h1).bnd fun v h2=>(ev T e S h2).bnd fun y h3=>match v,y with
   | .int a,.int b=>if (Zbh x h1).map (·.1)=(Zbh x h3).map (·.1) then (ZkA Cs f x (.int (a+b)) h3).bnd fun _ h4=>.ok (.nx,S) h4 else .bad
   | _,_=>.bad:=rfl
@[simp] theorem ZpY:evs T .nil S h=.ok [] h:=rfl
@[simp] theorem ZjZ{e es}:evs T (.cons e es) S h=(ev T e S h).bnd fun x h1=>(evs T es S h1).bnd fun xs h2=>.ok (x::xs) h2:=rfl
@[simp] theorem ZpB:evo T none S h=.ok none h:=rfl
@[simp] theorem Zj0{e}:evo T (some e) S h=(ev T e S h).bnd fun x h1=>match x with
   | .int i=>.ok (some i) h1
   | _=>.bad:=rfl
@[simp] theorem ZiX{e}:tst T (.ex e) S h=(ev T e S h).bnd fun x h1=>R.ofO (ZbI T.GD x h1) h1:=rfl
@[simp] theorem ZfE{ts}:tst T (.ands ts) S h=tstAnd T ts S h:=rfl
@[simp] theorem Zc9{ts}:tst T (.ors ts) S h=tstOr T ts S h:=rfl
@[simp] theorem ZmM{a}:tst T (.nt a) S h=(tst T a S h).bnd fun c h1=>.ok (!c) h1:=rfl
@[simp] theorem ZmN{t}:tstAnd T (.one t) S h=tst T t S h:=rfl
@[simp] theorem ZcG{t ts}:tstAnd T (.cons t ts) S h=(tst T t S h).bnd fun c h1=>if c then tstAnd T ts S h1 else .ok false h1:=rfl
@[simp] theorem Zod{t}:tstOr T (.one t) S h=tst T t S h:=rfl
@[simp] theorem ZS{t ts}:tstOr T (.cons t ts) S h=(tst T t S h).bnd fun c h1=>if c then .ok true h1 else tstOr T ts S h1:=rfl
@[simp] theorem Zoc:tsto T none S h=.ok true h:=rfl
@[simp] theorem Zob{t}:tsto T (some t) S h=tst T t S h:=rfl
@[simp] theorem Zj1{e}:evi T (.pl e) S h=(ev T e S h).bnd fun x h1=>R.ofO (Zdh x h1) h1:=rfl
@[simp] theorem ZpZ{e}:evi T (.rng e) S h=(ev T e S h).bnd fun x h1=>match x with
   | .int j=>if Zab j then .ok ⟨[],ZR 0 j.toNat⟩ h1 else .bad
   | _=>.bad:=rfl
@[simp] theorem ZqT{a b}:ev T (.rpn a b) S h=(ev T a S h).bnd fun x h1=>(shD x h1).bnd fun p h1=>(ev T b S h1).bnd fun y h2=>(shD y h2).bnd fun q h3=>.ok (.bl (!decide (p=q))) h3:=rfl
@[simp] theorem ZlE{e}:evi T (.enu e) S h=(ev T e S h).bnd fun x h1=>R.ofO ((ZfD x h1).map fun w=>⟨w.src,ZaS w.xs⟩) h1:=rfl
@[simp] theorem Zp0{e}:evi T (.rev e) S h=(ev T e S h).bnd fun x h1=>R.ofO ((ZiP x h1).map fun w=>⟨w.src,w.xs.reverse⟩) h1:=rfl
@[simp] theorem Zkj{e}:xs1 T (.ret e) S h=(ev T e S h).bnd fun x h1=>.ok (.rt x,S) h1:=rfl
@[simp] theorem Zki{g e}:xs1 T (.set g e) S h=(ev T e S h).bnd fun x h1=>(R.ofO (Zas g x S) h1).bnd fun ρ1 h2=>.ok (.nx,ρ1) h2:=rfl
@[simp] theorem Zkk{o i e}:xs1 T (.put o i e) S h=(ev T e S h).bnd fun x h1=>(ev T o S h1).bnd fun y h2=>(ev T i S h2).bnd fun z h3=>(ZaK y z x h3).bnd fun _ h4=>.ok (.nx,S) h4:=rfl
@[simp] theorem Zkl{e}:xs1 T (.drp e) S h=(ev T e S h).bnd fun _ h1=>.ok (.nx,S) h1:=rfl
@[simp] theorem Zg5{c a b}:xs1 T (.iff c a b) S h=(tst T c S h).bnd fun t h1=>if t then xs2 T a S h1 else xs2 T b S h1:=rfl
@[simp] theorem ZpS{c b}:xs1 T (.whl c b) S h=ZO (tst T c) (xs2 T b) T.L S h:=rfl
@[simp] theorem ZiK{g it b}:xs1 T (.forr g it b) S h=(evi T it S h).bnd fun w h1=>ZL w.src g (xs2 T b) w.xs S h1:=rfl
@[simp] theorem ZpR:xs2 T .nil S h=.ok (.nx,S) h:=rfl
@[simp] theorem ZfB{s r}:xs2 T (.cons s r) S h=(xs1 T s S h).bnd fun p h1=>match p with
   | (.nx,ρ1)=>xs2 T r ρ1 h1
   | p=>.ok p h1:=rfl
theorem Za(e:xs1 T s S h=.ok (.nx,ρ1) h1):xs2 T (.cons s r) S h=xs2 T r ρ1 h1:=by rw [ZfB,e];rfl
theorem Zc(e:xs1 T s S h=.ok (.rt d,ρ1) h1):xs2 T (.cons s r) S h=.ok (.rt d,ρ1) h1:=by rw [ZfB,e];rfl
@[simp] theorem Zp4{i d}:Zas (.nm i) d S=some (S.set i (some d)):=rfl
@[simp] theorem ZpK{i j a b}:Zas (.two i j) (.tup [a,b]) S=some ((S.set i (some a)).set j (some b)):=rfl
@[simp] theorem Zqq:Zm (.ok (.rt d,S) h)=.ok d h:=rfl
@[simp] theorem Zqr:Zm (.ok (.nx,S) h)=.ok .non h:=rfl
end
@[simp] theorem Zeu:seqOf (.tup xs) h=some xs:=rfl
@[simp] theorem Zo7:ZeV f (.int i) (.int j) h=.ok (.bl (f i j)) h:=rfl
section
variable {GD:Str->Option (List (Key×D))}{h:Hd}
@[simp] theorem ZeZ{x y}:opC GD .Eq x y h=Zam false x y h:=rfl
@[simp] theorem ZeX{x y}:opC GD .NotEq x y h=Zam true x y h:=rfl
@[simp] theorem ZqE{i j}:opC GD .Lt (.int i) (.int j) h=.ok (.bl (decide (i<j))) h:=rfl
@[simp] theorem ZqF{i j}:opC GD .LtE (.int i) (.int j) h=.ok (.bl (decide (i<=j))) h:=rfl
@[simp] theorem Znr{i j}:opC GD .Gt (.int i) (.int j) h=.ok (.bl (decide (j<i))) h:=rfl
@[simp] theorem ZqH{i j}:opC GD .GtE (.int i) (.int j) h=.ok (.bl (decide (j<=i))) h:=rfl
@[simp] theorem ZqG{x}:opC GD .Is x .non h=.ok (.bl (decide (x=.non))) h:=rfl
@[simp] theorem Zo9{x}:opC GD .IsNot x .non h=.ok (.bl (!decide (x=.non))) h:=rfl
@[simp] theorem ZeW{s n}:opC GD .NotIn (.str s) (.kd n) h=match GD n with
   | some kvs=>.ok (.bl (!(Zaj kvs (.inr s)).isSome)) h
   | none=>.bad:=by
 show Zac GD true (.str s) (.kd n) h=_;unfold Zac;simp only [seqOf,lstOf,dicOf,keyOf];cases GD n<;>rfl
theorem Zdg(ss:List Str):(ss.map D.str).all D.flat=true:=by
 rw [OC];intro x hx;obtain ⟨s,_,rfl⟩:=List.mem_map.mp hx;rfl
theorem any_words(ss:List Str)(x:Str):((ss.map D.str).any fun z=>eqF z (.str x))=decide (x∈ss):=by
 induction ss with
 | nil=>rfl
 | cons s r ih =>
   rw [Op,List.any_cons,ih];show ((s==x) || decide (x∈r))=_;by_cases e:s=x
   . subst e;simp
   . have:(s==x)=false:=by simpa using e
     rw [this];have e':¬ x=s:=fun q=>e q.symm;simp [e']
theorem ZeY{ss:List Str}{x:Str}:opC GD .In (.str x) (.tup (ss.map .str)) h=.ok (.bl (decide (x∈ss))) h:=by
 show Zac GD false (.str x) (.tup (ss.map .str)) h=_;unfold Zac;rw [Zeu];simp only [Zdg,any_words];rfl
theorem ZcV{ss:List Str}{x:Str}:opC GD .NotIn (.str x) (.tup (ss.map .str)) h=.ok (.bl (!decide (x∈ss))) h:=by
 show Zac GD true (.str x) (.tup (ss.map .str)) h=_;unfold Zac;rw [Zeu];simp only [Zdg,any_words];rfl
@[simp] theorem Zo6{xs i}:Zci GD (.tup xs) (.int i) h=R.ofO (atI xs i) h:=rfl
@[simp] theorem ZpV{xs i}:Zci GD (.ro xs) (.int i) h=R.ofO (atI xs i) h:=rfl
@[simp] theorem Zle{n s}:Zci GD (.kd n) (.str s) h=match GD n with
   | some kvs=>R.ofO (Zaj kvs (.inr s)) h
   | none=>.bad:=rfl
theorem Zx{i k xs}(e:h[i]? = some (.lst xs)):Zci GD (.ref i) (.int k) h=R.ofO (atI xs k) h:=by
 unfold Zci;simp only [seqOf,lstOf,e]
@[simp] theorem Zkd{α:Type}{x:α}{l:List α}:atI (x::l) 0=some x:=by simp [atI,ixN]
theorem ZaA{α:Type}{l:List α}{k:Nat}:atI l (k:Int)=l[k]? := by
 unfold atI ixN;by_cases hk:k<l.length
 . simp [hk]
 . simp [hk]
@[simp] theorem Zro{α:Type}{x y:α}{l:List α}:atI (x::y::l) 1=some y:=ZaA (k:=1)
@[simp] theorem Zrn{α:Type}{x y z:α}{l:List α}:atI (x::y::z::l) 2=some z:=ZaA (k:=2)
@[simp] theorem Zrm{α:Type}{x y z w:α}{l:List α}:atI (x::y::z::w::l) 3=some w:=ZaA (k:=3)
@[simp] theorem Zo5{xs l u}:Zim (.tup xs) l u h=.ok (.tup (cutD xs l u)) h:=rfl
@[simp] theorem Zof{x:D}{l:List D}:cutD (x::l) (some 1) none=l:=by
 simp [cutD,HT.sIx]
@[simp] theorem ZpU{b}:ZbI GD (.bl b) h=some b:=rfl
@[simp] theorem Zor{i}:ZbI GD (.int i) h=some (i != 0):=rfl
@[simp] theorem Zop{xs}:ZbI GD (.tup xs) h=some (!xs.isEmpty):=rfl
@[simp] theorem Zoq:ZbI GD .non h=some false:=rfl
@[simp] theorem ZpX{i j}:opB .Add (.int i) (.int j) h=.ok (.int (i+j)) h:=rfl
@[simp] theorem ZpW{i j}:opB .Sub (.int i) (.int j) h=.ok (.int (i - j)) h:=rfl
theorem ZI(hj:0<j):opB .Mod (.int i) (.int j) h=.ok (.int (i % j)) h:=if_pos hj
theorem Za2(hj:0<j/\j<1073741824):opB .FloorDiv (.int i) (.int j) h=.ok (.int (i / j)) h:=if_pos hj
theorem Za1(hj:i.natAbs<2 ^ 2000/\j.natAbs<2 ^ 2000):opB .Mult (.int i) (.int j) h=.ok (.int (i * j)) h:=if_pos hj
theorem Zli(hl:xs.length+ys.length<=sizeLine):opB .Add (.tup xs) (.tup ys) h=.ok (.tup (xs++ys)) h:=if_pos hl
@[simp] theorem ZfW:Zam n (.str x) (.str y) h=.ok (.bl (if n then !decide (x=y) else decide (x=y))) h:=by
 have e:PyData.eqv (.str x) (.str y)=decide (x=y):=by
   show (x==y)=_;rw [Bool.beq_eq_decide_eq]
 have q:Zam n (.str x) (.str y) h=if min (PyData.str x).depth (PyData.str y).depth<=1100 then .ok (.bl (if n then !PyData.eqv (.str x) (.str y) else PyData.eqv (.str x) (.str y))) h else .bad:=rfl;rw [q,if_pos (by simp [PyData.depth]),e]
@[simp] theorem Zdw:Zam n (.int x) (.int y) h=.ok (.bl (if n then !decide (x=y) else decide (x=y))) h:=by
 have e:PyData.eqv (.int x) (.int y)=decide (x=y):=by
   show (x==y)=_;rw [Bool.beq_eq_decide_eq]
 have q:Zam n (.int x) (.int y) h=if min (PyData.int x).depth (PyData.int y).depth<=1100 then .ok (.bl (if n then !PyData.eqv (.int x) (.int y) else PyData.eqv (.int x) (.int y))) h else .bad:=rfl;rw [q,if_pos (by simp [PyData.depth]),e]
end
theorem Zq(e:P.tb.lookup f=some fd)(hl:ds.length=fd.ps.length):run P (n+1) f ds h=Zm (xs2 ⟨P.G,P.GD,run P n,P.L⟩ fd.body (ZbJ fd.N ds) h):=by
 rw [run,show P.look f=some fd by unfold Pg.look;rw [e]];simp only;rw [if_pos hl]
end IV
namespace IV
open PySem L2
section
variable {h:Hd}{x y z w:DO}{r:List DO}
@[simp] theorem ZpN:(h++x::r)[h.length]? = some x:=by simp
end
@[simp] theorem Zln:Zao o h=.ok (.ref h.length) (h++[o]):=rfl
section
variable {h:Hd}
theorem Zf2(e:h[i]? = some (.lst ys))(hz:ys.length<sizeLine):Zap .app (.ref i) [d] h=.ok .non (h.set i (.lst (ys++[d]))):=by
 simp only [Zap,e,Zd2,ZjF];rw [if_pos hz]
theorem Zix(e:h[i]? = some (.lst ys)):ZbW (.ref i) h=true:=by simp [ZbW,e]
theorem Zkr(e:h[i]? = some (.lst ys)):ZbI GD (.ref i) h=some (!ys.isEmpty):=by simp [ZbI,e]
@[simp] theorem Zpy:ZL [] g body [] S h=.ok (.nx,S) h:=rfl
theorem ZeF:ZL [] g body (d::ds) S h=match Zas g d S with
     | none=>.bad
     | some ρ1=>(body ρ1 h).bnd fun p h2=>match p with
       | (.nx,ρ2)=>ZL [] g body ds ρ2 h2
       | (.ct,ρ2)=>ZL [] g body ds ρ2 h2
       | (.bk,ρ2)=>.ok (.nx,ρ2) h2
       | (.rt d,ρ2)=>.ok (.rt d,ρ2) h2:=rfl
theorem Zay:Zv src g test elt (d::ds) S acc h=if Wk.stays src h/\acc.length<sizeLine then match Zas g d S with
     | none=>.bad
     | some ρ1=>(test ρ1 h).plain.bnd fun b h1=>if b then (elt ρ1 h1).plain.bnd fun x h2=>Zv src g test elt ds S (acc++[x]) h2 else Zv src g test elt ds S acc h1
   else .bad:=rfl
theorem Zaa:ZO test body (n+1) S h=(test S h).bnd fun b h1=>if b then (body S h1).bnd fun p h2=>match p with
     | (.nx,ρ2)=>ZO test body n ρ2 h2
     | (.ct,ρ2)=>ZO test body n ρ2 h2
     | (.bk,ρ2)=>.ok (.nx,ρ2) h2
     | (.rt d,ρ2)=>.ok (.rt d,ρ2) h2
   else .ok (.nx,S) h1:=rfl
end
inductive Wd where
 | add|sub|mul|lt
 deriving DecidableEq
noncomputable def Wd.s:Wd->Str
 | .add=>O "+"
 | .sub=>O "-"
 | .mul=>O "*"
 | .lt=>O "<"
inductive T where
 | num (n:Int)|name (x:Str)|fn (x:Str) (e:T)|rcc (f x:Str) (e:T)|call (f a:T)|iff (c t e:T)|op (w:Wd) (a b:T)
noncomputable def T.d:T->D
 | .num n=>.tup [.str (O "num"),.int n]
 | .name x=>.tup [.str (O "name"),.str x]
 | .fn x e=>.tup [.str (O "fn"),.str x,e.d]
 | .rcc f x e=>.tup [.str (O "rec"),.str f,.str x,e.d]
 | .call f a=>.tup [.str (O "call"),f.d,a.d]
 | .iff c t e=>.tup [.str (O "if"),c.d,t.d,e.d]
 | .op w a b=>.tup [.str w.s,a.d,b.d]
noncomputable def T.parts:T->List T
 | .num _|.name _=>[]
 | .fn _ e|.rcc _ _ e=>[e]
 | .call f a=>[f,a]
 | .iff c t e=>[c,t,e]
 | .op _ a b=>[a,b]
noncomputable def T.places:T->List T
 | .num n=>[.num n]
 | .name x=>[.name x]
 | .fn x e=>.fn x e::e.places
 | .rcc f x e=>.rcc f x e::e.places
 | .call f a=>.call f a::(f.places++a.places)
 | .iff c t e=>.iff c t e::(c.places++(t.places++e.places))
 | .op w a b=>.op w a b::(a.places++b.places)
noncomputable def T.size(t:T):Nat:=t.places.length
theorem T.places_parts(t:T):t.places=t::t.parts.flatMap T.places:=by
 cases t<;>simp [T.places,T.parts]
end IV
end
section
namespace IV
open PySem L2
section
variable {U:Tb}{S:Ev}{h h1:Hd}{f:Str}{as:List D}{r:R D}
theorem Z0(e:tst U c S h=.ok true h1):xs1 U (.iff c a b) S h=xs2 U a S h1:=by rw [Zg5,e];rfl
theorem ZD(e:tst U c S h=.ok false h1):xs1 U (.iff c a b) S h=xs2 U b S h1:=by rw [Zg5,e];rfl
theorem ZA(q:ev U e S h=.ok d h1):xs1 U (.ret e) S h=.ok (.rt d,S) h1:=by rw [Zkj,q];rfl
theorem Zu(q:ev U e S h=.ok d h1):xs1 U (.set (.nm i) e) S h=.ok (.nx,S.set i (some d)) h1:=by rw [Zki,q];rfl
theorem ZdF(q:evi U it S h=.ok w h1):xs1 U (.forr g it b) S h=ZL w.src g (xs2 U b) w.xs S h1:=by rw [ZiK,q];rfl
theorem Zb(p:ev U a S h=.ok x h1)(q:ev U b S h1=.ok y h2):ev U (.bin op a b) S h=opB op x y h2:=by rw [ZnU,p];simp only [Zn,q]
theorem Zo(p:ev U a S h=.ok x h1)(q:ev U b S h1=.ok y h2):ev U (.cmp op a b) S h=opC U.GD op x y h2:=by rw [ZnS,p];simp only [Zn,q]
theorem ZaI(q:ev U e S h=.ok (.bl b) h1):tst U (.ex e) S h=.ok b h1:=by rw [ZiX,q];rfl
theorem ZK{b c:Bool}{y:R Bool}(q:y=.ok b h1)(e:b=c):y=.ok c h1:=e ▸ q
noncomputable def tlS:Sxs->Sxs
 | .cons _ r=>r
 | .nil=>.nil
theorem Zg(p:ev U a S h=.ok x h1)(q:evs U es S h1=.ok xs h2):evs U (.cons a es) S h=.ok (x::xs) h2:=by rw [ZjZ,p,Zn,q];rfl
theorem ZqY(p:evs U es S h=.ok xs h1):ev U (.call g es) S h=U.C g xs h1:=by rw [ZlJ,p];rfl
theorem Zmw(a:atI xs z=some d)(p:evs U es S h=.ok xs h)(q:ev U e S (h++[.lst xs])=.ok (.int z) (h++[.lst xs]))(hz:xs.length<=1000):ev U (.ix (.lstl es) e) S h=.ok d (h++[.lst xs]):=by
 rw [ZhM,ZhL,p,Zn,if_pos (OE hz (by decide)),Zln,Zn,q,Zn,Zx (xs:=xs) (by simp),a];rfl
theorem ZN(e:U.C g xs h1=y)(p:evs U es S h=.ok xs h1):ev U (.call g es) S h=y:=(ZqY p).trans e
theorem ZgX(p:evs U es S h=.ok xs h1)(hz:xs.length<=1000):ev U (.tupl es) S h=.ok (.tup xs) h1:=by rw [ZlF,p,Zn,if_pos (OE hz (by decide))]
theorem ZcZ(p:ev U a S h=.ok (.str x) h1)(q:ev U b S h1=.ok (.str y) h2):tst U (.ex (.cmp .Eq a b)) S h=.ok (decide (x=y)) h2:=ZaI ((Zo p q).trans (by rw [ZeZ,ZfW];rfl))
theorem Zg0(p:ev U a S h=.ok (.int x) h1)(q:ev U b S h1=.ok (.int y) h2):tst U (.ex (.cmp .Eq a b)) S h=.ok (decide (x=y)) h2:=ZaI ((Zo p q).trans (by rw [ZeZ,Zdw];rfl))
theorem ZE(p:ev U a S h=.ok x h1)(q:ev U b S h1=.ok y h2):ev U (.ix a b) S h=Zci U.GD x y h2:=by rw [ZhM,p,Zn,q,Zn]
theorem Zke(p:tst U a S h=.ok true h1)(q:tst U b S h1=.ok c h2):tst U (.ands (.cons a (.one b))) S h=.ok c h2:=by rw [ZfE,ZcG,p];exact q
theorem Zkf(p:tst U a S h=.ok false h1):tst U (.ands (.cons a (.one b))) S h=.ok false h1:=by rw [ZfE,ZcG,p];rfl
theorem ZqD(p:tst U a S h=.ok true h1):tst U (.ors (.cons a (.one b))) S h=.ok true h1:=by rw [Zc9,ZS,p];rfl
theorem Znj(p:tst U a S h=.ok false h1)(q:tst U b S h1=.ok c h2):tst U (.ors (.cons a (.one b))) S h=.ok c h2:=by rw [Zc9,ZS,p];exact q
end
end IV
end
section
set_option tactic.hygienic false
namespace Gn
open PySem L2 IV
noncomputable def Z6:Sxs:=(.cons (.iff (.ex (.cmp .NotIn (.ix (.var 0) (.cst (.int 0))) (.glo (O "FORMS")))) (.cons (.ret (.tupl .nil)) .nil) .nil) (.cons (.ret (.sl (.var 0) (some (.bin .Add (.cst (.int 1)) (.ix (.ix (.glo (O "FORMS")) (.ix (.var 0) (.cst (.int 0)))) (.cst (.int 0))))) none)) .nil))
noncomputable def ZdI:Fd:=⟨[(O "E")],[(O "E")],Z6⟩
noncomputable def Zgo:Sxs:=(.cons (.set (.nm 1) (.lstl .nil)) (.cons (.set (.nm 2) (.lstl (.cons (.var 0) .nil))) (.cons (.whl (.ex (.var 2)) (.cons (.set (.nm 3) (.meth .pop (.var 2) .nil)) (.cons (.drp (.meth .app (.var 1) (.cons (.var 3) .nil))) (.cons (.forr (.nm 4) (.rev (.call (O "parts_of") (.cons (.var 3) .nil))) (.cons (.drp (.meth .app (.var 2) (.cons (.var 4) .nil))) .nil)) .nil)))) (.cons (.ret (.var 1)) .nil))))
noncomputable def ZbZ:Fd:=⟨[(O "E")],[(O "E"),(O "found"),(O "waiting"),(O "place"),(O "part")],Zgo⟩
noncomputable def ZbY:List (Key×D):=[(.inr (O "fn"),.tup [.int 1,.int 1]),(.inr (O "rec"),.tup [.int 2,.int 1]),(.inr (O "call"),.tup [.int 0,.int 2]),(.inr (O "if"),.tup [.int 0,.int 3]),(.inr (O "+"),.tup [.int 0,.int 2]),(.inr (O "-"),.tup [.int 0,.int 2]),(.inr (O "*"),.tup [.int 0,.int 2]),(.inr (O "<"),.tup [.int 0,.int 2])]
structure Tre(P:Pg):Prop where
 parts:P.tb.lookup (O "parts_of")=some ZdI
 g:P.G (O "FORMS")=some (.kd (O "FORMS"))
 gd:P.GD (O "FORMS")=some ZbY
 big:1000000<=P.L
theorem Zde (H:Tre P) (hU:U.G=P.G/\U.GD=P.GD) (q:ev U e S h=.ok (.str w) h) (f:Zaj ZbY (.inr w)=x):tst U (.ex (.cmp .NotIn e (.glo (O "FORMS")))) S h=.ok (!x.isSome) h:=by
 have g:ev U (.glo (O "FORMS")) S h=.ok (.kd (O "FORMS")) h:=by
   rw [Zj3,hU.1,H.g];rfl
 refine ZaI ((Zo q g).trans ?_);rw [ZeW,hU.2,H.gd];simp only [f]
theorem ZlB (H:Tre P) (hU:U.G=P.G/\U.GD=P.GD) (q:ev U e S h=.ok (.str w) h) (f:Zaj ZbY (.inr w)=some x):ev U (.ix (.glo (O "FORMS")) e) S h=.ok x h:=by
 have g:ev U (.glo (O "FORMS")) S h=.ok (.kd (O "FORMS")) h:=by
   rw [Zj3,hU.1,H.g];rfl
 rw [ZhM,g,Zn,q,Zn,Zle,hU.2,H.gd];simp only [f];rfl
theorem Zf7:ev U (.ix (.var 0) (.cst (.int 0))) (some (.tup (.str w::ds))::S) h=.ok (.str w) h:=by
 show R.ofO (atI (D.str w::ds) 0) h=_;rw [Zkd];rfl
theorem ZjW (H:Tre P) (hU:U.G=P.G/\U.GD=P.GD) (e:Zaj ZbY (.inr w)=some (.tup [.int a,.int b])):ev U (.bin .Add (.cst (.int 1)) (.ix (.ix (.glo (O "FORMS")) (.ix (.var 0) (.cst (.int 0)))) (.cst (.int 0)))) [some (.tup (.str w::ds))] h=.ok (.int (1+a)) h:=by
 refine (Zb (x:=.int 1) (y:=.int a) rfl ?_).trans rfl;rw [ZhM,ZlB H hU Zf7 e];rfl
theorem ZhK(q:ev U e S h=.ok (.int l) h):evo U (some e) S h=.ok (some l) h:=by
 rw [Zj0,q];rfl
theorem Zme(p:ev U a S h=.ok x h)(q:evo U lo S h=.ok l h)(r:evo U hi S h=.ok u h):ev U (.sl a lo hi) S h=Zim x l u h:=by
 simp only [Zmn,p,Zn,q,r]
theorem ZfU (H:Tre P) (n:Nat) (h:Hd) (w:Str) (ds:List D) (e:Zaj ZbY (.inr w)=none):run P (n+1) (O "parts_of") [.tup (.str w::ds)] h=.ok (.tup []) h:=by
 rw [Zq H.parts rfl];show Zm (xs2 (P.tbl n) Z6 [some (.tup (.str w::ds))] h)=_;rw [Z6,Zc ((Z0 (Zde H ⟨rfl,rfl⟩ Zf7 e)).trans (Zc (ZA (d:=.tup []) rfl)))];rfl
theorem Zal (H:Tre P) (n:Nat) (h:Hd) (w:Str) (ds:List D) (a b:Int) (e:Zaj ZbY (.inr w)=some (.tup [.int a,.int b])):run P (n+1) (O "parts_of") [.tup (.str w::ds)] h=.ok (.tup (cutD (.str w::ds) (some (1+a)) none)) h:=by
 rw [Zq H.parts rfl];show Zm (xs2 (P.tbl n) Z6 [some (.tup (.str w::ds))] h)=_;have q:=ZjW H (U:=P.tbl n) ⟨rfl,rfl⟩ (ds:=ds) (h:=h) e;have r:ev (P.tbl n) (.sl (.var 0) (some (.bin .Add (.cst (.int 1)) (.ix (.ix (.glo (O "FORMS")) (.ix (.var 0) (.cst (.int 0)))) (.cst (.int 0))))) none) [some (.tup (.str w::ds))] h=.ok (.tup (cutD (.str w::ds) (some (1+a)) none)) h:=by
   exact (Zme (a:=.var 0) (x:=.tup (.str w::ds)) rfl (ZhK q) rfl).trans rfl
 rw [Z6,Za ((ZD (Zde H ⟨rfl,rfl⟩ Zf7 e)).trans rfl),Zc (ZA r)];rfl
theorem Zhk (H:Tre P) (n:Nat) (t:T) (h:Hd):run P (n+1) (O "parts_of") [t.d] h=.ok (.tup (t.parts.map T.d)) h:=by
 cases t with
 | num z=>exact ZfU H n h (O "num") _ rfl
 | name x=>exact ZfU H n h (O "name") _ rfl
 | fn x e=>exact Zal H n h (O "fn") _ 1 1 rfl
 | rcc f x e=>exact Zal H n h (O "rec") _ 2 1 rfl
 | call f a=>exact Zal H n h (O "call") _ 0 2 rfl
 | iff c a b=>exact Zal H n h (O "if") _ 0 3 rfl
 | op w a b=>exact Zal H n h w.s _ 0 2 (by cases w<;>rfl)
theorem ZcI(p:Option D):∀ (ps:List D) (W:List D) (q:Option D),W.length+ps.length<=1000000->∃ q',
   ZL [] (.nm 4) (xs2 U (.cons (.drp (.meth .app (.var 2) (.cons (.var 4) .nil))) .nil)) ps [some E,some (.ref h.length),some (.ref (h.length+1)),p,q] (h++[.lst F,.lst W])
     = .ok (.nx,[some E,some (.ref h.length),some (.ref (h.length+1)),p,q']) (h++[.lst F,.lst (W++ps)])
 | [],W,q,hz=>⟨q,by simp⟩
 | d::ds,W,q,hz=>by
   obtain ⟨q',e⟩:=ZcI (U:=U) (h:=h) (F:=F) (E:=E) p ds (W++[d]) (some d) (by simp at hz ⊢;lia);refine ⟨q',?_⟩;have hz2:W.length<sizeLine:=by simp at hz;rw [sizeLine_eq];lia
   rw [ZeF];simp [ZbW,Zap,Zd2,ZjF,hz2,e]
theorem Zdr(t:T):1<=t.places.length:=by rw [T.places_parts];simp
theorem Zbf:∀ W:List T,W.length<=(W.flatMap T.places).length
 | []=>by simp
 | t::W=>by
   have:=Zdr t;have:=Zbf W;rw [List.flatMap_cons,OA,Os]
   lia
theorem Zf5(H:Tre P)(n:Nat):∀ (fuel:Nat) (W:List T) (F:List D) (p q:Option D),(W.flatMap T.places).length<fuel->F.length+(W.flatMap T.places).length<=900000->∃ p' q',
   ZO (tst ⟨P.G,P.GD,run P (n+1),P.L⟩ (.ex (.var 2))) (xs2 ⟨P.G,P.GD,run P (n+1),P.L⟩ (.cons (.set (.nm 3) (.meth .pop (.var 2) .nil)) (.cons (.drp (.meth .app (.var 1) (.cons (.var 3) .nil))) (.cons (.forr (.nm 4) (.rev (.call (O "parts_of") (.cons (.var 3) .nil))) (.cons (.drp (.meth .app (.var 2) (.cons (.var 4) .nil))) .nil)) .nil))))
     fuel [some E,some (.ref h.length),some (.ref (h.length+1)),p,q] (h++[.lst F,.lst (W.map T.d).reverse])
     = .ok (.nx,[some E,some (.ref h.length),some (.ref (h.length+1)),p',q']) (h++[.lst (F++(W.flatMap T.places).map T.d),.lst []])
 | 0,W,F,p,q,h1,h2=>by lia
 | fuel+1,[],F,p,q,h1,h2=>⟨p,q,by rw [Zaa];simp [ZbI]⟩
 | fuel+1,t::W,F,p,q,h1,h2=>by
   have e0:((t::W).flatMap T.places)=t::((t.parts++W).flatMap T.places):=by
     rw [List.flatMap_cons,T.places_parts t,List.flatMap_append];simp
   rw [e0] at h1 h2 ⊢;have hp:t.parts.length<=3:=by cases t<;>simp [T.parts]
   simp only [Os] at h1 h2;have h3:=Zbf (t.parts++W);rw [OA] at h3;obtain ⟨q1,e1⟩:=ZcI (U:=⟨P.G,P.GD,run P (n+1),P.L⟩) (h:=h) (F:=F++[t.d]) (E:=E) (some t.d) (t.parts.map T.d).reverse (W.map T.d).reverse q (by simp;lia);obtain ⟨p',q',e2⟩:=Zf5 H (h:=h) (E:=E) n fuel (t.parts++W) (F++[t.d]) (some t.d) q1 (by lia) (by rw [OA,List.length_singleton];lia);refine ⟨p',q',?_⟩;have hz2:F.length<sizeLine:=by rw [sizeLine_eq];lia
   rw [Zaa];simp [ZbI,ZbW,Zap,Zd2,ZjF,Znz,hz2,Zhk H,ZiP,e1];simpa using e2
theorem ZfO (H:Tre P) (hp:P.tb.lookup (O "places")=some ZbZ) (n:Nat) (t:T) (h:Hd) (hz:t.size<=800000):run P (n+2) (O "places") [t.d] h=.ok (.ref h.length) (h++[.lst (t.places.map T.d),.lst []]):=by
 rw [Zq hp (by rfl)];obtain ⟨p',q',e⟩:=Zf5 H (h:=h) (E:=t.d) n P.L [t] [] none none (by have:=H.big;unfold T.size at hz;simp;lia) (by unfold T.size at hz;simp;lia);simp at e;simp [ZbZ,Zgo,ZbJ,sizeLine_eq,e]
end Gn
end
section
namespace IV
open PySem L2
section
variable {U:Tb}{S:Ev}{h h1 h2 h3:Hd}
theorem ZlH(p:ev U o S h=.ok (.ref i) h1)(l:h1[i]? = some (.lst ys))(q:evs U es S h1=.ok xs h2)(e:Zap m (.ref i) xs h2=r):ev U (.meth m o es) S h=r:=by rw [ZlG,p,Zn,Zix l,if_pos rfl,q];exact e
theorem ZhO(q:ev U e S h=.ok d h1):xs1 U (.drp e) S h=.ok (.nx,S) h1:=by rw [Zkl,q];rfl
theorem ZeG(p:evi U it S h=.ok w h1)(q:Zv w.src g (tsto U c) (ev U e) w.xs (ZcR js S) [] h1=.ok xs h2):ev U (.comp NC js it g c e) S h=.ok (.ref h2.length) (h2++[.lst xs]):=by rw [ZlI,p,Zn,q];rfl
theorem Zfb(p:ev U e S h=.ok (.tup xs) h1):evi U (.pl e) S h=.ok ⟨[],xs⟩ h1:=by rw [Zj1,p];rfl
theorem ZgY(p:evs U es S h=.ok xs h1)(hz:xs.length<=1000):ev U (.lstl es) S h=.ok (.ref h1.length) (h1++[.lst xs]):=by rw [ZhL,p,Zn,if_pos (OE hz (by decide))];rfl
theorem ZbN(p:evs U es S h=.ok xs h1)(q:ZdT U.GD f xs h1=r):ev U (.blt f es) S h=r:=by rw [ZnT,p];exact q
theorem ZeB(e:h[i]? = some (.lst ys)):ZdT GD .len [.ref i] h=.ok (.int ys.length) h:=by simp only [ZdT,Zl1,seqOf,lstOf,e];rfl
theorem ZiW(e:h[i]? = some (.lst ys)):ZdT GD .tup [.ref i] h=.ok (.tup ys) h:=by simp only [ZdT,Zl0,lstOf,e];rfl
theorem Zl9(p:ev U e S h=.ok (.ref i) h1)(l:h1[i]? = some (.lst ys)):tst U (.ex e) S h=.ok (!ys.isEmpty) h1:=by rw [ZiX,p,Zn,Zkr l];rfl
theorem Zg7(e:test S h=.ok true h1)(q:body S h1=.ok (.nx,ρ1) h2):ZO test body (n+1) S h=ZO test body n ρ1 h2:=by rw [Zaa,e,Zn,if_pos rfl,q];rfl
theorem Zg8(e:test S h=.ok false h1):ZO test body (n+1) S h=.ok (.nx,S) h1:=by rw [Zaa,e];rfl
theorem ZqN(p:ev U a S h=.ok (.int x) h1)(q:ev U b S h1=.ok (.int y) h2):tst U (.ex (.cmp .Gt a b)) S h=.ok (decide (y<x)) h2:=ZaI (Zo p q)
theorem Zpk(p:ev U a S h=.ok (.int x) h1)(q:ev U b S h1=.ok (.int y) h2):tst U (.ex (.cmp .Lt a b)) S h=.ok (decide (x<y)) h2:=ZaI (Zo p q)
theorem Zcn(b:Zas g d S=some ρ1)(q:body ρ1 h=.ok (.nx,ρ2) h2):ZL [] g body (d::ds) S h=ZL [] g body ds ρ2 h2:=by rw [ZeF,b];simp only;rw [q];rfl
variable {c:Str}
end
end IV
end
section
set_option tactic.hygienic false
set_option exponentiation.threshold 3000
namespace Gn
open PySem L2 IV
noncomputable def Up(i:Nat)(h h':Hd):Prop:=h.length<=h'.length/\∀ m,m<h.length->m≠i->h'[m]? = h[m]?
theorem Up.refl:Up i h h:=⟨Oq _,fun _ _ _=>rfl⟩
theorem Up.trans(x:Up i a b)(y:Up i b c):Up i a c :=
 ⟨OE x.1 y.1,fun m h1 h2=>(y.2 m (Ot h1 x.1) h2).trans (x.2 m h1 h2)⟩
theorem Up.set:Up i h (h.set i o):=⟨by simp,fun m _ h2=>by rw [Oc (Ne.symm h2)]⟩
theorem Up.app:Up i h (h++g):=⟨by simp,fun m h1 _=>Oe h1⟩
theorem Zj{h:Hd}(e:h[i]? = some o):i<h.length:=(Ob.mp e).1
theorem Up.at{i m:Nat}(u:Up i h h')(e:h[m]? = some o)(ne:m≠i):h'[m]? = some o:=(u.2 m (Zj e) ne).trans e
theorem Zr(h:-(2 ^ 128)<i)(h2:i<2 ^ 128):i.natAbs<2 ^ 2000:=by
 have:i.natAbs<2 ^ 128:=by lia
 exact Ot this (Nat.pow_le_pow_right (by decide) (by decide))
noncomputable def Wl(n:Nat)(x:Str):Prop:=PyData.strOk x=true/\x.length<=n
noncomputable def dep:T->Nat
 | .num _|.name _=>0
 | .fn _ e|.rcc _ _ e=>dep e+1
 | .call f a=>max (dep f) (dep a)+1
 | .iff c t e=>max (dep c) (max (dep t) (dep e))+1
 | .op _ a b=>max (dep a) (dep b)+1
theorem at4(k:Int)(h0:0<=k)(h4:k<4):∃ v,atI [D.int a,.int b,.int c,.int d] k=some (.int v)/\(v=a\/v=b\/v=c\/v=d):=by
 have:k=0\/k=1\/k=2\/k=3:=by lia
 rcases this with rfl|rfl|rfl|rfl
 . exact ⟨a,by simp,.inl rfl⟩
 . exact ⟨b,by simp,.inr (.inl rfl)⟩
 . exact ⟨c,by simp,.inr (.inr (.inl rfl))⟩
 . exact ⟨d,by simp,.inr (.inr (.inr rfl))⟩
noncomputable def Zk:Str:=O "abcdefghijklmnopqrstuvwxyz"
theorem Zf3:Zk.length=26:=by decide +kernel
theorem ZgQ:PyData.strOk Zk=true:=by decide +kernel
noncomputable def ltr(k:Int):Nat:=Zk.cps.toList.getD k.toNat 0
noncomputable def lt1(k:Int):Str:=⟨#[ltr k]⟩
theorem ZnB(k:Int)(h0:0<=k)(h1:k<26):Zci GD (.str Zk) (.int k) h=.ok (.str (lt1 k)) h/\Wl 1 (lt1 k):=by
 obtain ⟨m,rfl⟩:∃ m:Nat,k=m:=⟨k.toNat,by lia⟩
 have hl:Zk.cps.toList.length=26:=by decide +kernel
 have hm:m<Zk.cps.toList.length:=by lia
 have el:ltr m=Zk.cps.toList[m]:=by
   show Zk.cps.toList.getD (m:Int).toNat 0=_;rw [Int.toNat_natCast,List.getD_eq_getElem?_getD,Og hm];rfl
 have e:atI Zk.cps.toList (m:Int)=some Zk.cps.toList[m]:=by rw [IV.ZaA,Og hm]
 unfold lt1;rw [el];refine ⟨?_,ZjA ZgQ (List.getElem_mem hm),by show (#[Zk.cps.toList[m]]:Array Nat).size<=1;simp⟩;have q:Zci GD (.str Zk) (.int (m:Int)) h=if Zk.length<=sizeLine then R.ofO ((atI Zk.cps.toList (m:Int)).map fun c=>.str ⟨#[c]⟩) h else .bad:=rfl;rw [q,if_pos (by rw [Zf3,sizeLine_eq];decide),e];rfl
theorem len_cat{x y:Str}:(x++y).length=x.length+y.length:=by
 show (x.cps++y.cps).size=_;rw [Array.size_append];rfl
theorem ZlQ{x y:Str}(hx:Wl a x)(hy:Wl b y)(hz:a+b<=1000):opB .Add (.str x) (.str y) h=.ok (.str (x++y)) h/\Wl (a+b) (x++y):=by
 have hl:(x++y).length=x.length+y.length:=len_cat;refine ⟨if_pos (by rw [sizeLine_eq];have:=hx.2;have:=hy.2;lia),Zex hx.1 hy.1,by rw [hl];have:=hx.2;have:=hy.2;lia⟩
theorem in4:opC GD .In (.str x) (.tup [.str (O "fn"),.str (O "rec"),.str (O "call"),.str (O "if")]) h=.ok (.bl (decide (x∈[O "fn",O "rec",O "call",O "if"]))) h :=
 ZeY (ss:=[O "fn",O "rec",O "call",O "if"])
theorem Zmf (hx:Wl m x) (hm:m<=1000):opB .Mult (.str (O "q")) (.int x.length) h=.ok (.str (Zcg (O "q") x.length)) h/\Wl m (Zcg (O "q") x.length):=by
 have hq:(O "q").length=1:=by decide +kernel
 have:=hx.2;refine ⟨if_pos ⟨by lia,by lia,by rw [hq];decide⟩,Zjz (by decide +kernel) _,?_⟩;rw [Zdp,hq]
 lia
noncomputable def nmQ (w:Str):Str:=if w∈[O "fn",O "rec",O "call",O "if"] then Zcg (O "q") w.length else w
theorem ZnF:∀ k∈[[102,110],[114,101,99],[99,97,108,108],[105,102]],∀ l∈[[102,110],[114,101,99],[99,97,108,108],[105,102],List.replicate k.length 113],k=l\/k.length≠l.length\/∀ i,i<4->∃ j,j<4/\j≠i/\k[j]?≠l[j]? := by decide +kernel
theorem ZhC(ne:x≠y)(a:List Nat)(h:a++x::b∈[[102,110],[114,101,99],[99,97,108,108],[105,102]]):a++y::b ∉ [[102,110],[114,101,99],[99,97,108,108],[105,102]]/\a++y::b≠List.replicate (a++x::b).length 113:=by
 have l4:(a++x::b).length<=4:=by
   have:∀ k∈[[102,110],[114,101,99],[99,97,108,108],[105,102]],k.length<=4:=by decide
   exact this _ h
 have sl:(a++x::b).length=(a++y::b).length:=by simp
 have no:∀ l∈[[102,110],[114,101,99],[99,97,108,108],[105,102],List.replicate (a++x::b).length 113],a++y::b≠l:=fun l hl e=>by
   rcases ZnF _ h l hl with q|q|q
   . rw [<- e] at q;exact ne (List.cons.inj (List.append_cancel_left q)).1
   . exact q (by rw [<- e];exact sl)
   . obtain ⟨j,_,nj,d⟩:=q a.length (by simp at l4;lia);rw [<- e] at d;rcases Nat.lt_or_ge j a.length with z|z
     . exact d (by rw [Oe z,Oe z])
     . rw [Om z,Om z] at d;obtain ⟨m,hm⟩:∃ m,j - a.length=m+1:=⟨j - a.length - 1,by lia⟩
       rw [hm] at d;exact d rfl
 refine ⟨fun m=>no _ (List.mem_append_left [List.replicate (a++x::b).length 113] m) rfl,no _ (Ov [[102,110],[114,101,99],[99,97,108,108],[105,102]] (Ox.mpr rfl))⟩
theorem ZjJ:w∈[O "fn",O "rec",O "call",O "if"]↔w.cps.toList∈[[102,110],[114,101,99],[99,97,108,108],[105,102]]:=by
 have e:[[102,110],[114,101,99],[99,97,108,108],[105,102]]=[O "fn",O "rec",O "call",O "if"].map (·.cps.toList):=by decide +kernel
 rw [e];refine ⟨fun h=>List.mem_map_of_mem h,fun h=>?_⟩;obtain ⟨v,hv,q⟩:=List.mem_map.mp h;have:v=w:=by
   obtain ⟨⟨v⟩⟩:=v;obtain ⟨⟨w⟩⟩:=w;cases q;rfl
 exact this ▸ hv
theorem ZfK:∀ n,(Zcg (O "q") n).cps.toList=List.replicate n 113
 | n=>by
   have:∀ (n:Nat) (a:Array Nat),((List.replicate n (O "q").cps).foldl (·++·) a).toList=a.toList++List.replicate n 113:=by
     intro n;induction n with
     | zero=>intro a;simp
     | succ n ih=>intro a;rw [List.replicate_succ,List.foldl_cons,ih,Array.toList_append,Oz,List.replicate_succ];rfl
   have q:=this n #[];simpa [Zcg] using q
theorem nq(hv:v.cps.toList=a++x::b)(hw:w.cps.toList=a++y::b)(ne:x≠y):nmQ v≠nmQ w:=by
 have hl:v.length=(a++x::b).length/\w.length=(a++y::b).length:=by rw [<- hv,<- hw];exact ⟨by simp [Str.length],by simp [Str.length]⟩
 unfold nmQ;intro e;have e':=congrArg (·.cps.toList) e;simp only [ZjJ] at e';split at e'
 . rename_i kv;rw [hv] at kv;obtain ⟨k1,k2⟩:=ZhC ne a kv;rw [if_neg (by rw [hw];exact k1),ZfK,hw,hl.1] at e';exact k2 e'.symm
 . split at e'
   . rename_i kw;rw [hw] at kw;obtain ⟨k1,k2⟩:=ZhC (Ne.symm ne) a kw;rw [ZfK,hv,hl.2] at e';exact k2 e'
   . rw [hv,hw] at e';have:=List.append_cancel_left e';exact ne (List.cons.inj this).1
theorem Zlr:∀ i j:Fin 26,ltr (i.val:Int)=ltr (j.val:Int)->i=j:=by decide +kernel
end Gn
end
section
namespace Gn
open PySem L2 IV
noncomputable def Zax:D->Bool
 | .str _|.int _=>true
 | _=>false
theorem ZjO (hf:Zax d=true):ZdT GD .isi [d,.ty "tuple"] h=.ok (.bl false) h:=by
 cases d with
 | str x=>rfl
 | int x=>rfl
 | _=>cases hf
variable {P:Pg}
theorem Zy{t s:T}(hs:s∈t.parts):dep s<dep t:=by
 cases t<;>simp [T.parts] at hs<;>simp only [dep]
 . subst hs;lia
 . subst hs;lia
 . rcases hs with rfl|rfl<;>lia
 . rcases hs with rfl|rfl|rfl<;>lia
 . rcases hs with rfl|rfl<;>lia
end Gn
end
section
namespace IV
open PySem L2
mutual
noncomputable def D.pure:D->Bool
 | .non|.bl _|.int _|.str _=>true
 | .tup xs=>D.pures xs
 | _=>false
noncomputable def D.pures:List D->Bool
 | []=>true
 | x::xs=>D.pure x&&D.pures xs
end
mutual
noncomputable def D.dp:D->Nat
 | .tup xs=>D.dps xs+1
 | _=>0
noncomputable def D.dps:List D->Nat
 | []=>0
 | x::xs=>max (D.dp x) (D.dps xs)
end
mutual
theorem Zhp:∀ d:D,d.pure=true->∃ p,D.py rd d=some p/\p.depth<=d.dp/\PyData.eqv p p=true
 | .non,_=>⟨.none,rfl,Oq _,rfl⟩
 | .bl b,_=>⟨.bool b,rfl,Oq _,by simp [PyData.eqv]⟩
 | .int b,_=>⟨.int b,rfl,Oq _,by simp [PyData.eqv]⟩
 | .str b,_=>⟨.str b,rfl,Oq _,by simp [PyData.eqv]⟩
 | .tup xs,h=>by
   obtain ⟨ps,e1,e2,e3⟩:=pys_same (rd:=rd) xs (by simpa [D.pure] using h);refine ⟨.tuple ps,by simp [D.py,e1],?_,?_⟩
   . simp only [PyData.depth,D.dp];lia
   . simpa [PyData.eqv] using e3
 | .ref _,h=>by cases h
 | .ty _,h=>by cases h
 | .ro _,h=>by cases h
 | .kd _,h=>by cases h
theorem pys_same:∀ ds:List D,D.pures ds=true->∃ ps,D.pys rd ds=some ps/\PyData.depthAll ps<=D.dps ds/\PyData.eqvAll ps ps=true
 | [],_=>⟨[],rfl,Oq _,by simp [PyData.eqvAll]⟩
 | x::xs,h=>by
   rw [D.pures,Oa] at h;obtain ⟨p,a1,a2,a3⟩:=Zhp (rd:=rd) x h.1;obtain ⟨ps,b1,b2,b3⟩:=pys_same (rd:=rd) xs h.2;refine ⟨p::ps,by simp [D.pys,a1,b1],?_,?_⟩
   . simp only [PyData.depthAll,D.dps];lia
   . simp [PyData.eqvAll,a3,b3]
end
theorem Zio(hp:d.pure=true)(hd:d.dp<=1100):Zam n d d h=.ok (.bl (!n)) h:=by
 obtain ⟨p,e1,e2,e3⟩:=Zhp (rd:=ZfM h 4) d hp;unfold Zam;rw [show ZfP h d=some p from e1];simp only;rw [if_pos (by lia),e3];cases n<;>rfl
end IV
end
section
namespace Tm
open PySem L2 IV
variable {P:Pg}{h:Hd}
section
variable {w:Wd}
@[simp] theorem ZpT:(w.s=O "name")↔False:=by cases w<;>simp [Wd.s]
@[simp] theorem Zrj:(w.s=O "fn")↔False:=by cases w<;>simp [Wd.s]
@[simp] theorem Zp5:(w.s=O "rec")↔False:=by cases w<;>simp [Wd.s]
@[simp] theorem ZiN:Zaj Gn.ZbY (.inr w.s)=some (.tup [.int 0,.int 2]):=by cases w<;>rfl
end
noncomputable def bnd:T->List Str
 | .fn x _=>[x]
 | .rcc f x _=>[f,x]
 | _=>[]
noncomputable def fr:T->List D
 | .num n=>[.str (O "num"),.int n]
 | .name x=>[.str (O "name"),.str x]
 | .fn x _=>[.str (O "fn"),.str x]
 | .rcc f x _=>[.str (O "rec"),.str f,.str x]
 | .call _ _=>[.str (O "call")]
 | .iff _ _ _=>[.str (O "if")]
 | .op w _ _=>[.str w.s]
theorem Zq0(t:T):t.d=.tup (fr t++t.parts.map T.d):=by cases t<;>rfl
end Tm
end
section
namespace Fr
open PySem L2 IV Tm
noncomputable def lf:T->List Str
 | .num _=>[]
 | .name x=>[x]
 | .fn x e=>(lf e).filter fun y=>decide (y≠x)
 | .rcc f x e=>(lf e).filter fun y=>decide (y≠f/\y≠x)
 | .call f a=>lf f++lf a
 | .iff c a b=>lf c++(lf a++lf b)
 | .op _ a b=>lf a++lf b
noncomputable def Fp(p:T×List Str)(x:Str):Prop:=x∈lf p.1/\x ∉ p.2
noncomputable def ben(p:T×List Str):List (T×List Str):=p.1.parts.map fun s=>(s,p.2++bnd p.1)
noncomputable def own(p:T×List Str):Option Str:=match p.1 with
 | .name x=>if x∈p.2 then none else some x
 | _=>none
theorem Ze9(p:T×List Str)(x:Str):Fp p x↔own p=some x\/∃ q∈ben p,Fp q x:=by
 obtain ⟨t,b⟩:=p;cases t with
 | num n=>simp [Fp,lf,own,ben,T.parts]
 | name y =>
   by_cases h:y∈b
   . simp only [Fp,lf,own,ben,T.parts,if_pos h,Ox,Oy];exact ⟨fun ⟨e,n⟩=>absurd (e ▸ h) n,fun z=>by rcases z with z|⟨q,hq,_⟩;cases z;cases hq⟩
   . simp only [Fp,lf,own,ben,T.parts,if_neg h,Ox,Oy];exact ⟨fun ⟨e,n⟩=>.inl (by rw [e]),fun z=>by rcases z with z|⟨q,hq,_⟩;cases z;exact ⟨rfl,h⟩;cases hq⟩
 | fn y e =>
   simp [Fp,lf,own,ben,T.parts,bnd];exact ⟨fun ⟨⟨a,b⟩,c⟩=>⟨a,c,b⟩,fun ⟨a,c,b⟩=>⟨⟨a,b⟩,c⟩⟩
 | rcc f y e =>
   simp [Fp,lf,own,ben,T.parts,bnd];exact ⟨fun ⟨⟨a,b,c⟩,d⟩=>⟨a,d,b,c⟩,fun ⟨a,d,b,c⟩=>⟨⟨a,b,c⟩,d⟩⟩
 | call f a=>simp [Fp,lf,own,ben,T.parts,bnd,or_and_right,exists_or,and_assoc]
 | iff c a d=>simp [Fp,lf,own,ben,T.parts,bnd,or_and_right,exists_or,and_assoc]
 | op w f a=>simp [Fp,lf,own,ben,T.parts,bnd,or_and_right,exists_or,and_assoc]
theorem ZgP(L:List (T×List Str))(x:Str):(∃ p∈L,Fp p x)↔(∃ p∈L,own p=some x)\/∃ q∈L.flatMap ben,Fp q x:=by
 constructor
 . rintro ⟨p,hp,h⟩;rcases (Ze9 p x).mp h with h|⟨q,hq,h⟩
   . exact .inl ⟨p,hp,h⟩
   . exact .inr ⟨q,List.mem_flatMap.mpr ⟨p,hp,hq⟩,h⟩
 . rintro (⟨p,hp,h⟩|⟨q,hq,h⟩)
   . exact ⟨p,hp,(Ze9 p x).mpr (.inl h)⟩
   . obtain ⟨p,hp,hq⟩:=List.mem_flatMap.mp hq;exact ⟨p,hp,(Ze9 p x).mpr (.inr ⟨q,hq,h⟩)⟩
end Fr
end
section
namespace K02L
open PySem L2 IV
noncomputable def Zc0:Tx:=(.ex (.cmp .NotIn (.ix (.var 0) (.cst (.int 0))) (.glo (O "FORMS"))))
noncomputable def ZbQ:Sx:=(.ret (.tupl .nil))
noncomputable def ZcX:Sxs:=(.cons ZbQ .nil)
noncomputable def Zc8:Sx:=.iff Zc0 ZcX .nil
noncomputable def Zc7:Sx:=(.ret (.sl (.var 0) (some (.cst (.int 1))) (some (.bin .Add (.cst (.int 1)) (.ix (.ix (.glo (O "FORMS")) (.ix (.var 0) (.cst (.int 0)))) (.cst (.int 0)))))))
noncomputable def Zah:Sxs:=(.cons Zc8 (.cons Zc7 .nil))
noncomputable def Zbj:Fd:=⟨[(O "E")],[(O "E")],Zah⟩
noncomputable def ZaX:Sx:=(.set (.nm 1) (.dictl .nil))
noncomputable def ZaW:Sx:=(.set (.nm 2) (.lstl (.cons (.tupl (.cons (.var 0) (.cons (.tupl .nil) .nil))) .nil)))
noncomputable def ZaT:Tx:=(.ex (.var 2))
noncomputable def Zat:Sx:=(.set (.nm 3) (.lstl .nil))
noncomputable def Zcm:Ix:=(.pl (.var 2))
noncomputable def Z5:Tx:=(.ands (.cons (.ex (.cmp .Eq (.ix (.var 4) (.cst (.int 0))) (.cst (.str (O "name"))))) (.one (.ex (.cmp .NotIn (.ix (.var 4) (.cst (.int 1))) (.var 5))))))
noncomputable def ZaJ:Sx:=(.put (.var 1) (.ix (.var 4) (.cst (.int 1))) (.cst (.bl true)))
noncomputable def ZbM:Sxs:=(.cons ZaJ .nil)
noncomputable def ZP:Sx:=.iff Z5 ZbM .nil
noncomputable def Z8:Sx:=(.set (.nm 6) (.bin .Add (.var 5) (.call (O "bound_names") (.cons (.var 4) .nil))))
noncomputable def Z7:Sx:=(.drp (.meth .ext (.var 3) (.cons (.comp [(O "part"),(O "inner")] [none,some 6] (.pl (.call (O "parts_of") (.cons (.var 4) .nil))) (.nm 0) none (.tupl (.cons (.var 0) (.cons (.var 1) .nil)))) .nil)))
noncomputable def ZX:Sxs:=(.cons ZP (.cons Z8 (.cons Z7 .nil)))
noncomputable def ZcD:Sx:=.forr (.two 4 5) Zcm ZX
noncomputable def ZcC:Sx:=(.set (.nm 2) (.var 3))
noncomputable def ZaQ:Sxs:=(.cons Zat (.cons ZcD (.cons ZcC .nil)))
noncomputable def ZaV:Sx:=.whl ZaT ZaQ
noncomputable def ZdY:Sx:=(.ret (.blt .srt (.cons (.var 1) .nil)))
noncomputable def Zca:Sxs:=(.cons ZaX (.cons ZaW (.cons ZaV (.cons ZdY .nil))))
noncomputable def Zb1:Fd:=⟨[(O "E")],[(O "E"),(O "found"),(O "level"),(O "beneath"),(O "place"),(O "bound"),(O "inner")],Zca⟩
noncomputable def Zbx:Sx:=(.set (.nm 2) (.bin .Mod (.bin .Mult (.bin .Add (.bin .Mod (.var 0) (.cst (.int 1000003))) (.cst (.int 1))) (.bin .Add (.cst (.int 48271)) (.bin .Mult (.bin .Mult (.cst (.int 2)) (.var 1)) (.var 1)))) (.cst (.int 2147483647))))
noncomputable def Zen:Sx:=(.ret (.bin .Mod (.bin .Mult (.var 2) (.bin .Add (.bin .Mod (.var 2) (.cst (.int 65537))) (.var 1))) (.cst (.int 2147483629))))
noncomputable def ZcU:Sxs:=(.cons Zbx (.cons Zen .nil))
noncomputable def ZcM:Fd:=⟨[(O "_law_cell"),(O "_law_k")],[(O "_law_cell"),(O "_law_k"),(O "_law_one")],ZcU⟩
noncomputable def Zb6:Sx:=(.set (.nm 1) (.ix (.var 0) (.cst (.int 1))))
noncomputable def Zb5:Sx:=(.put (.var 0) (.cst (.int 1)) (.bin .Add (.var 1) (.cst (.int 1))))
noncomputable def Zb2:Tx:=(.ex (.cmp .Lt (.var 1) (.blt .len (.cons (.ix (.var 0) (.cst (.int 0))) .nil))))
noncomputable def Zc1:Sx:=(.ret (.ix (.ix (.var 0) (.cst (.int 0))) (.var 1)))
noncomputable def Ze3:Sxs:=(.cons Zc1 .nil)
noncomputable def Zfr:Sx:=.iff Zb2 Ze3 .nil
noncomputable def Zfq:Sx:=(.ret (.cst (.int 0)))
noncomputable def ZbO:Sxs:=(.cons Zb6 (.cons Zb5 (.cons Zfr (.cons Zfq .nil))))
noncomputable def ZdJ:Fd:=⟨[(O "_law_state")],[(O "_law_state"),(O "_law_at")],ZbO⟩
noncomputable def Zem:Sx:=(.set (.nm 1) (.cst (.str (O "abcdefghijklmnopqrstuvwxyz"))))
noncomputable def Zbw:Sx:=(.set (.nm 2) (.bin .Add (.cst (.int 1)) (.bin .Mod (.var 0) (.cst (.int 8)))))
noncomputable def Zbv:Sx:=(.set (.nm 3) (.bin .Mod (.bin .FloorDiv (.var 0) (.cst (.int 8))) (.var 2)))
noncomputable def Zbu:Sx:=(.set (.nm 4) (.lstl .nil))
noncomputable def Zea:Ix:=(.rng (.cst (.int 5)))
noncomputable def Zc3:Sx:=(.set (.nm 6) (.cst (.str (O ""))))
noncomputable def ZaD:Ix:=(.rng (.var 2))
noncomputable def Zb7:Sx:=(.set (.nm 6) (.bin .Add (.var 6) (.ix (.var 1) (.bin .Mod (.bin .Add (.call (O "_law_mixed") (.cons (.var 0) (.cons (.var 7) .nil))) (.bin .Mult (.bin .Mult (.var 5) (.cst (.int 4))) (.blt .int (.cons (.cmp .Eq (.var 7) (.var 3)) .nil)))) (.cst (.int 26))))))
noncomputable def ZaC:Sxs:=(.cons Zb7 .nil)
noncomputable def ZaH:Sx:=.forr (.nm 7) ZaD ZaC
noncomputable def ZaF:Tx:=(.ex (.cmp .In (.var 6) (.tupl (.cons (.cst (.str (O "fn"))) (.cons (.cst (.str (O "rec"))) (.cons (.cst (.str (O "call"))) (.cons (.cst (.str (O "if"))) .nil)))))))
noncomputable def ZbP:Sx:=(.set (.nm 6) (.bin .Mult (.cst (.str (O "q"))) (.var 2)))
noncomputable def ZcW:Sxs:=(.cons ZbP .nil)
noncomputable def ZaG:Sx:=.iff ZaF ZcW .nil
noncomputable def Zc2:Sx:=(.drp (.meth .app (.var 4) (.cons (.var 6) .nil)))
noncomputable def Zbg:Sxs:=(.cons Zc3 (.cons ZaH (.cons ZaG (.cons Zc2 .nil))))
noncomputable def Zbt:Sx:=.forr (.nm 5) Zea Zbg
noncomputable def Zel:Sx:=(.ret (.var 4))
noncomputable def ZcT:Sxs:=(.cons Zem (.cons Zbw (.cons Zbv (.cons Zbu (.cons Zbt (.cons Zel .nil))))))
noncomputable def ZcL:Fd:=⟨[(O "_law_cell")],[(O "_law_cell"),(O "_law_letters"),(O "_law_size"),(O "_law_at"),(O "_law_found"),(O "_law_k"),(O "_law_text"),(O "_law_j")],ZcT⟩
noncomputable def ZbF:Sx:=(.set (.nm 3) (.call (O "_law_next") (.cons (.var 0) .nil)))
noncomputable def ZbE:Sx:=(.set (.nm 4) (.bin .FloorDiv (.var 3) (.cst (.int 11))))
noncomputable def Zbp:Tx:=(.ors (.cons (.ex (.cmp .Lt (.bin .Mod (.var 3) (.cst (.int 11))) (.cst (.int 2)))) (.cons (.ex (.cmp .Eq (.var 2) (.cst (.int 0)))) (.one (.ex (.cmp .Gt (.ix (.var 0) (.cst (.int 1))) (.blt .len (.cons (.ix (.var 0) (.cst (.int 0))) .nil))))))))
noncomputable def Zar:Tx:=(.ex (.cmp .Eq (.bin .Mod (.var 4) (.cst (.int 3))) (.cst (.int 0))))
noncomputable def Zbc:Sx:=(.ret (.tupl (.cons (.cst (.str (O "num"))) (.cons (.ix (.lstl (.cons (.cst (.int 0)) (.cons (.cst (.int 999999)) (.cons (.bin .Mod (.bin .FloorDiv (.var 4) (.cst (.int 12))) (.cst (.int 1000000))) (.cons (.bin .Mod (.bin .FloorDiv (.var 4) (.cst (.int 12))) (.cst (.int 10))) .nil))))) (.bin .Mod (.bin .FloorDiv (.var 4) (.cst (.int 3))) (.cst (.int 4)))) .nil))))
noncomputable def Zcl:Sxs:=(.cons Zbc .nil)
noncomputable def ZcA:Sx:=.iff Zar Zcl .nil
noncomputable def Zcz:Sx:=(.ret (.tupl (.cons (.cst (.str (O "name"))) (.cons (.ix (.var 1) (.bin .Mod (.bin .FloorDiv (.var 4) (.cst (.int 3))) (.cst (.int 5)))) .nil))))
noncomputable def Zd8:Sxs:=(.cons ZcA (.cons Zcz .nil))
noncomputable def ZbD:Sx:=.iff Zbp Zd8 .nil
noncomputable def ZbC:Sx:=(.set (.nm 5) (.call (O "_law_drawn") (.cons (.var 0) (.cons (.var 1) (.cons (.bin .Sub (.var 2) (.cst (.int 1))) .nil)))))
noncomputable def Zbo:Tx:=(.ors (.cons (.ex (.cmp .Eq (.bin .Mod (.var 3) (.cst (.int 11))) (.cst (.int 2)))) (.one (.ex (.cmp .Eq (.bin .Mod (.var 3) (.cst (.int 11))) (.cst (.int 3)))))))
noncomputable def Zcy:Sx:=(.ret (.tupl (.cons (.cst (.str (O "fn"))) (.cons (.ix (.var 1) (.bin .Mod (.var 4) (.cst (.int 5)))) (.cons (.var 5) .nil)))))
noncomputable def Zd7:Sxs:=(.cons Zcy .nil)
noncomputable def ZbB:Sx:=.iff Zbo Zd7 .nil
noncomputable def Zbn:Tx:=(.ex (.cmp .Eq (.bin .Mod (.var 3) (.cst (.int 11))) (.cst (.int 4))))
noncomputable def Zcx:Sx:=(.ret (.tupl (.cons (.cst (.str (O "rec"))) (.cons (.ix (.var 1) (.bin .Mod (.var 4) (.cst (.int 5)))) (.cons (.ix (.var 1) (.bin .Mod (.bin .FloorDiv (.var 4) (.cst (.int 5))) (.cst (.int 5)))) (.cons (.var 5) .nil))))))
noncomputable def Zd6:Sxs:=(.cons Zcx .nil)
noncomputable def ZbA:Sx:=.iff Zbn Zd6 .nil
noncomputable def Zbz:Sx:=(.set (.nm 6) (.call (O "_law_drawn") (.cons (.var 0) (.cons (.var 1) (.cons (.bin .Sub (.var 2) (.cst (.int 1))) .nil)))))
noncomputable def Zbm:Tx:=(.ex (.cmp .Eq (.bin .Mod (.var 3) (.cst (.int 11))) (.cst (.int 5))))
noncomputable def Zcw:Sx:=(.ret (.tupl (.cons (.cst (.str (O "if"))) (.cons (.var 5) (.cons (.var 6) (.cons (.call (O "_law_drawn") (.cons (.var 0) (.cons (.var 1) (.cons (.bin .Sub (.var 2) (.cst (.int 1))) .nil)))) .nil))))))
noncomputable def Zd5:Sxs:=(.cons Zcw .nil)
noncomputable def Zby:Sx:=.iff Zbm Zd5 .nil
noncomputable def Zeo:Sx:=(.ret (.tupl (.cons (.ix (.lstl (.cons (.cst (.str (O "+"))) (.cons (.cst (.str (O "-"))) (.cons (.cst (.str (O "*"))) (.cons (.cst (.str (O "<"))) (.cons (.cst (.str (O "call"))) .nil)))))) (.bin .Sub (.bin .Mod (.var 3) (.cst (.int 11))) (.cst (.int 6)))) (.cons (.var 5) (.cons (.var 6) .nil)))))
noncomputable def ZG:Sxs:=(.cons ZbF (.cons ZbE (.cons ZbD (.cons ZbC (.cons ZbB (.cons ZbA (.cons Zbz (.cons Zby (.cons Zeo .nil)))))))))
noncomputable def ZcN:Fd:=⟨[(O "_law_state"),(O "_law_names_here"),(O "_law_room")],[(O "_law_state"),(O "_law_names_here"),(O "_law_room"),(O "_law_cell"),(O "_law_rest"),(O "_law_one"),(O "_law_other")],ZG⟩
noncomputable def ZbH:Sx:=(.set (.nm 2) (.comp [(O "_law_part"),(O "_law_names_here")] [none,some 1] (.pl (.var 0)) (.nm 0) none (.ite (.ex (.blt .isi (.cons (.var 0) (.cons (.cst (.ty "tuple")) .nil)))) (.call (O "_law_apart") (.cons (.var 0) (.cons (.var 1) .nil))) (.var 0))))
noncomputable def Zbq:Tx:=(.ands (.cons (.ex (.cmp .Eq (.ix (.var 0) (.cst (.int 0))) (.cst (.str (O "rec"))))) (.one (.ex (.cmp .Eq (.ix (.var 0) (.cst (.int 1))) (.ix (.var 0) (.cst (.int 2))))))))
noncomputable def ZcB:Sx:=(.put (.var 2) (.cst (.int 1)) (.ix (.comp [(O "_law_name"),(O "_law_told")] [none,some 0] (.pl (.var 1)) (.nm 0) (some (.ex (.cmp .NotEq (.var 0) (.ix (.var 1) (.cst (.int 2)))))) (.var 0)) (.cst (.int 0))))
noncomputable def Zd9:Sxs:=(.cons ZcB .nil)
noncomputable def ZbG:Sx:=.iff Zbq Zd9 .nil
noncomputable def Zep:Sx:=(.ret (.blt .tup (.cons (.var 2) .nil)))
noncomputable def Zaf:Sxs:=(.cons ZbH (.cons ZbG (.cons Zep .nil)))
noncomputable def ZcO:Fd:=⟨[(O "_law_told"),(O "_law_names_here")],[(O "_law_told"),(O "_law_names_here"),(O "_law_parts")],Zaf⟩
noncomputable def ZdQ:Tx:=(.ors (.cons (.ex (.cmp .GtE (.var 2) (.blt .len (.cons (.var 1) .nil)))) (.cons (.ex (.cmp .NotEq (.ix (.var 1) (.var 2)) (.var 0))) (.one (.nt (.ex (.blt .isi (.cons (.ix (.var 1) (.var 2)) (.cons (.cst (.ty "tuple")) .nil)))))))))
noncomputable def Zb3:Sx:=(.ret (.neg (.cst (.int 1))))
noncomputable def Zdz:Sxs:=(.cons Zb3 .nil)
noncomputable def ZaU:Sx:=.iff ZdQ Zdz .nil
noncomputable def ZdW:Sx:=(.set (.nm 2) (.bin .Add (.var 2) (.cst (.int 1))))
noncomputable def ZdD:Ix:=(.pl (.sl (.var 0) (some (.cst (.int 1))) none))
noncomputable def Zcs:Tx:=(.ex (.blt .isi (.cons (.var 3) (.cons (.cst (.ty "tuple")) .nil))))
noncomputable def Zbb:Sx:=(.set (.nm 2) (.call (O "_law_walked") (.cons (.var 3) (.cons (.var 1) (.cons (.var 2) .nil)))))
noncomputable def Za9:Tx:=(.ex (.cmp .Eq (.var 2) (.neg (.cst (.int 1)))))
noncomputable def Zaz:Sx:=(.ret (.neg (.cst (.int 1))))
noncomputable def Za7:Sxs:=(.cons Zaz .nil)
noncomputable def Zba:Sx:=.iff Za9 Za7 .nil
noncomputable def Zaq:Sxs:=(.cons Zbb (.cons Zba .nil))
noncomputable def Zct:Sx:=.iff Zcs Zaq .nil
noncomputable def ZQ:Sxs:=(.cons Zct .nil)
noncomputable def ZdV:Sx:=.forr (.nm 3) ZdD ZQ
noncomputable def ZdU:Sx:=(.ret (.var 2))
noncomputable def Zb4:Sxs:=(.cons ZaU (.cons ZdW (.cons ZdV (.cons ZdU .nil))))
noncomputable def Zb0:Fd:=⟨[(O "_law_told"),(O "_law_found"),(O "_law_at")],[(O "_law_told"),(O "_law_found"),(O "_law_at"),(O "_law_part")],Zb4⟩
noncomputable def Zfl:Tx:=(.ex (.cmp .Eq (.ix (.var 0) (.cst (.int 0))) (.cst (.str (O "name")))))
noncomputable def Zc6:Sx:=(.ret (.lstl (.cons (.ix (.var 0) (.cst (.int 1))) .nil)))
noncomputable def Ze6:Sxs:=(.cons Zc6 .nil)
noncomputable def Zb9:Sx:=.iff Zfl Ze6 .nil
noncomputable def Zfw:Sx:=(.set (.nm 1) (.lstl .nil))
noncomputable def Ze7:Ix:=(.pl (.sl (.var 0) (some (.cst (.int 1))) none))
noncomputable def ZdR:Tx:=(.ex (.blt .isi (.cons (.var 2) (.cons (.cst (.ty "tuple")) .nil))))
noncomputable def Zb8:Sx:=(.set (.nm 1) (.bin .Add (.var 1) (.call (O "_law_free") (.cons (.var 2) .nil))))
noncomputable def ZaP:Sxs:=(.cons Zb8 .nil)
noncomputable def ZdX:Sx:=.iff ZdR ZaP .nil
noncomputable def Z2:Sxs:=(.cons ZdX .nil)
noncomputable def Zfv:Sx:=.forr (.nm 2) Ze7 Z2
noncomputable def Zfk:Tx:=(.ex (.cmp .Eq (.ix (.var 0) (.cst (.int 0))) (.cst (.str (O "fn")))))
noncomputable def Zc5:Sx:=(.ret (.comp [(O "_law_name"),(O "_law_told")] [none,some 0] (.pl (.var 1)) (.nm 0) (some (.ex (.cmp .NotEq (.var 0) (.ix (.var 1) (.cst (.int 1)))))) (.var 0)))
noncomputable def Ze5:Sxs:=(.cons Zc5 .nil)
noncomputable def Zfu:Sx:=.iff Zfk Ze5 .nil
noncomputable def Zfj:Tx:=(.ex (.cmp .Eq (.ix (.var 0) (.cst (.int 0))) (.cst (.str (O "rec")))))
noncomputable def Zc4:Sx:=(.ret (.comp [(O "_law_name"),(O "_law_told")] [none,some 0] (.pl (.var 1)) (.nm 0) (some (.ands (.cons (.ex (.cmp .NotEq (.var 0) (.ix (.var 1) (.cst (.int 1))))) (.one (.ex (.cmp .NotEq (.var 0) (.ix (.var 1) (.cst (.int 2))))))))) (.var 0)))
noncomputable def Ze4:Sxs:=(.cons Zc4 .nil)
noncomputable def Zft:Sx:=.iff Zfj Ze4 .nil
noncomputable def Zfs:Sx:=(.ret (.var 1))
noncomputable def ZF:Sxs:=(.cons Zb9 (.cons Zfw (.cons Zfv (.cons Zfu (.cons Zft (.cons Zfs .nil))))))
noncomputable def ZdK:Fd:=⟨[(O "_law_told")],[(O "_law_told"),(O "_law_free_here"),(O "_law_part")],ZF⟩
noncomputable def Zek:Sx:=(.set (.nm 1) (.call (O "places") (.cons (.var 0) .nil)))
noncomputable def Zee:Tx:=(.ors (.cons (.nt (.ex (.blt .isi (.cons (.var 1) (.cons (.cst (.ty "list")) .nil))))) (.one (.ex (.cmp .NotEq (.call (O "_law_walked") (.cons (.var 0) (.cons (.var 1) (.cons (.cst (.int 0)) .nil)))) (.blt .len (.cons (.var 1) .nil)))))))
noncomputable def Zcv:Sx:=(.ret (.cst (.bl false)))
noncomputable def Zd4:Sxs:=(.cons Zcv .nil)
noncomputable def Zbs:Sx:=.iff Zee Zd4 .nil
noncomputable def Zej:Sx:=(.set (.nm 2) (.call (O "free_names") (.cons (.var 0) .nil)))
noncomputable def Zei:Sx:=(.set (.nm 3) (.sorts (.call (O "_law_free") (.cons (.var 0) .nil))))
noncomputable def Zed:Tx:=(.ors (.cons (.nt (.ex (.blt .isi (.cons (.var 2) (.cons (.cst (.ty "list")) .nil))))) (.one (.ex (.cmp .NotEq (.var 2) (.var 3))))))
noncomputable def Zcu:Sx:=(.ret (.cst (.bl false)))
noncomputable def Zd3:Sxs:=(.cons Zcu .nil)
noncomputable def Zbr:Sx:=.iff Zed Zd3 .nil
noncomputable def Zeh:Sx:=(.drp (.meth .clr (.var 1) .nil))
noncomputable def Zeg:Sx:=(.drp (.meth .app (.var 2) (.cons (.cst (.str (O "x"))) .nil)))
noncomputable def Zef:Sx:=(.ret (.ands (.cons (.cmp .Gt (.blt .len (.cons (.call (O "places") (.cons (.var 0) .nil)) .nil)) (.cst (.int 0))) (.cons (.cmp .Eq (.call (O "free_names") (.cons (.var 0) .nil)) (.var 3)) .nil))))
noncomputable def ZcS:Sxs:=(.cons Zek (.cons Zbs (.cons Zej (.cons Zei (.cons Zbr (.cons Zeh (.cons Zeg (.cons Zef .nil))))))))
noncomputable def ZcK:Fd:=⟨[(O "_law_told")],[(O "_law_told"),(O "_law_found"),(O "_law_free_here"),(O "_law_due")],ZcS⟩
noncomputable def Zh1:Sx:=(.set (.nm 1) (.lstl (.cons (.comp [(O "_law_k"),(O "_law_cell")] [none,none] (.enu (.bin .Add (.lstl (.cons (.cst (.int 0)) .nil)) (.sl (.var 0) none (some (.cst (.int 96)))))) (.two 0 1) none (.call (O "_law_mixed") (.cons (.var 1) (.cons (.var 0) .nil)))) (.cons (.cst (.int 1)) .nil))))
noncomputable def Zh0:Sx:=(.set (.nm 2) (.call (O "_law_names") (.cons (.ix (.ix (.var 1) (.cst (.int 0))) (.cst (.int 0))) .nil)))
noncomputable def Zfm:Tx:=(.ex (.cmp .LtE (.ix (.var 1) (.cst (.int 1))) (.blt .len (.cons (.ix (.var 1) (.cst (.int 0))) .nil))))
noncomputable def ZiI:Tx:=(.nt (.ex (.call (O "_law_right") (.cons (.call (O "_law_apart") (.cons (.call (O "_law_drawn") (.cons (.var 1) (.cons (.var 2) (.cons (.cst (.int 6)) .nil)))) (.cons (.var 2) .nil))) .nil))))
noncomputable def Zfx:Sx:=(.ret (.cst (.bl false)))
noncomputable def Ziu:Sxs:=(.cons Zfx .nil)
noncomputable def ZiJ:Sx:=.iff ZiI Ziu .nil
noncomputable def ZhA:Sxs:=(.cons ZiJ .nil)
noncomputable def ZhZ:Sx:=.whl Zfm ZhA
noncomputable def ZlZ:Sx:=(.ret (.cst (.bl true)))
noncomputable def Zmy:Sxs:=(.cons Zh1 (.cons Zh0 (.cons ZhZ (.cons ZlZ .nil))))
noncomputable def Zgb:Fd:=⟨[(O "_law_script")],[(O "_law_script"),(O "_law_state"),(O "_law_names_here")],Zmy⟩
structure Lw(P:Pg):Prop where
 t:Gn.Tre P
 pl:P.tb.lookup (O "places")=some Gn.ZbZ
 bound_names:P.tb.lookup (O "bound_names")=some Zbj
 free_names:P.tb.lookup (O "free_names")=some Zb1
 law_mixed:P.tb.lookup (O "_law_mixed")=some ZcM
 law_next:P.tb.lookup (O "_law_next")=some ZdJ
 law_names:P.tb.lookup (O "_law_names")=some ZcL
 law_drawn:P.tb.lookup (O "_law_drawn")=some ZcN
 law_apart:P.tb.lookup (O "_law_apart")=some ZcO
 law_walked:P.tb.lookup (O "_law_walked")=some Zb0
 law_free:P.tb.lookup (O "_law_free")=some ZdK
 law_right:P.tb.lookup (O "_law_right")=some ZcK
 law:P.tb.lookup (O "law")=some Zgb
end K02L
end
section
namespace Fr
open PySem L2 IV Tm K02L
open Gn (dep Zy)
variable {P:Pg}
theorem Zqs (H:Lw P) (n:Nat) (t:T) (h:Hd):run P (n+1) (O "bound_names") [t.d] h=.ok (.tup ((bnd t).map .str)) h:=by
 have no:∀ (w:Str) (ds:List D),Zaj Gn.ZbY (.inr w)=none->run P (n+1) (O "bound_names") [.tup (.str w::ds)] h=.ok (.tup []) h:=fun w ds e=>by
   rw [Zq H.bound_names rfl];have w:xs2 (P.tbl n) K02L.Zah [some (.tup (.str w::ds))] h=.ok (.rt (.tup []),[some (.tup (.str w::ds))]) h:=Zc ((Z0 (Gn.Zde H.t ⟨rfl,rfl⟩ Gn.Zf7 e)).trans (Zc (ZA (d:=.tup []) rfl)));exact congrArg Zm w
 have yes:∀ (w:Str) (ds:List D) (a b:Int),Zaj Gn.ZbY (.inr w)=some (.tup [.int a,.int b])->run P (n+1) (O "bound_names") [.tup (.str w::ds)] h=.ok (.tup (cutD (.str w::ds) (some 1) (some (1+a)))) h:=fun w ds a b e=>by
   rw [Zq H.bound_names rfl];have q:=Gn.ZjW H.t (U:=P.tbl n) ⟨rfl,rfl⟩ (ds:=ds) (h:=h) e;have r:ev (P.tbl n) (.sl (.var 0) (some (.cst (.int 1))) (some (.bin .Add (.cst (.int 1)) (.ix (.ix (.glo (O "FORMS")) (.ix (.var 0) (.cst (.int 0)))) (.cst (.int 0)))))) [some (.tup (.str w::ds))] h=.ok (.tup (cutD (.str w::ds) (some 1) (some (1+a)))) h:=(Gn.Zme (a:=.var 0) (x:=.tup (.str w::ds)) rfl rfl (Gn.ZhK q)).trans rfl;have w:xs2 (P.tbl n) K02L.Zah [some (.tup (.str w::ds))] h=.ok (.rt (.tup (cutD (.str w::ds) (some 1) (some (1+a)))),[some (.tup (.str w::ds))]) h:=(Za ((ZD (Gn.Zde H.t ⟨rfl,rfl⟩ Gn.Zf7 e)).trans rfl)).trans (Zc (ZA r));exact congrArg Zm w
 cases t with
 | num z=>exact no (O "num") _ rfl
 | name x=>exact no (O "name") _ rfl
 | fn x e=>exact yes (O "fn") _ 1 1 rfl
 | rcc f x e=>exact yes (O "rec") _ 2 1 rfl
 | call f a=>exact yes (O "call") _ 0 2 rfl
 | iff c a b=>exact yes (O "if") _ 0 3 rfl
 | op w a b=>exact yes w.s _ 0 2 ZiN
noncomputable def pd(p:T×List Str):D:=.tup [p.1.d,.tup (p.2.map .str)]
noncomputable def kd(ks:List Str):List (Key×D):=ks.map fun x=>(.inr x,.bl true)
noncomputable def ad(ks:List Str)(x:Str):List Str:=if x∈ks then ks else ks++[x]
noncomputable def add(ks:List Str)(p:T×List Str):List Str:=match own p with
 | some x=>ad ks x
 | none=>ks
theorem ZnL(ks:List Str)(x:Str):putD (kd ks) (.inr x) (.bl true)=kd (ad ks x):=by
 have a:((kd ks).any fun kv=>decide (kv.1=.inr x))=decide (x∈ks):=by
   rw [Bool.eq_iff_iff];simp only [kd,List.any_eq_true,List.mem_map,decide_eq_true_eq];constructor
   . rintro ⟨_,⟨y,hy,rfl⟩,e⟩;cases e;exact hy
   . intro hx;exact ⟨_,⟨x,hx,rfl⟩,rfl⟩
 unfold putD ad;rw [a];by_cases hx:x∈ks
 . rw [if_pos (decide_eq_true hx),if_pos hx];unfold kd;rw [List.map_map];refine List.map_congr_left fun y _=>?_;show (if (Sum.inr y:Key)=.inr x then ((Sum.inr y:Key),D.bl true) else (.inr y,.bl true))=_;split<;>rfl
 . rw [if_neg (by simpa using hx),if_neg hx];simp [kd]
theorem ZhE:∀ ks:List Str,Za4 (kd ks)=some ks
 | []=>rfl
 | x::r=>by show (Za4 (kd r)).map _=_;rw [ZhE r];rfl
theorem Zn7:y∈ad ks x↔y∈ks\/x=y:=by
 unfold ad;split
 . rename_i hx;exact ⟨.inl,fun z=>by rcases z with z|rfl;exact z;exact hx⟩
 . simp [eq_comm]
theorem ZpO(n:ks.Nodup):(ad ks x).Nodup:=by
 unfold ad;split
 . exact n
 . rename_i hx;exact List.nodup_append.mpr ⟨n,by simp,fun a ha b hb=>by rw [Ox.mp hb];exact fun e=>hx (e ▸ ha)⟩
theorem Zl4:y∈add ks p↔y∈ks\/own p=some y:=by
 unfold add;split
 . rename_i x e;rw [Zn7,e,Option.some.injEq]
 . rename_i e;rw [e];simp
theorem Zn6(n:ks.Nodup):(add ks p).Nodup:=by
 unfold add;split
 . exact ZpO n
 . exact n
theorem Zh4:(add ks p).length<=ks.length+1:=by
 unfold add ad;split
 . split
   . lia
   . simp
 . lia
theorem Zgr:∀ (L:List (T×List Str)) (ks:List Str),y∈L.foldl add ks↔y∈ks\/∃ p∈L,own p=some y
 | [],ks=>by simp
 | p::L,ks=>by
   rw [List.foldl_cons,Zgr L,Zl4,or_assoc];simp
theorem Zh3:∀ (L:List (T×List Str)) {ks:List Str},ks.Nodup->(L.foldl add ks).Nodup
 | [],ks,n=>n
 | p::L,ks,n=>Zh3 L (Zn6 n)
theorem Zgs:∀ (L:List (T×List Str)) (ks:List Str),(L.foldl add ks).length<=ks.length+L.length
 | [],ks=>by simp
 | p::L,ks=>by
   have:=Zgs L (add ks p);have:=Zh4 (ks:=ks) (p:=p);rw [List.foldl_cons,Os]
   lia
noncomputable def Ok2(i b:Nat)(h h':Hd):Prop:=h.length<=h'.length/\∀ m,m<h.length->m≠i->m≠b->h'[m]? = h[m]?
theorem Ok2.trans(x:Ok2 i b h h')(y:Ok2 i b h' h''):Ok2 i b h h'':=⟨OE x.1 y.1,fun m a c d=>(y.2 m (Ot a x.1) c d).trans (x.2 m a c d)⟩
theorem Zjg{o i e:Ex}(p:ev U e S h=.ok x h1)(q:ev U o S h1=.ok y h2)(r:ev U i S h2=.ok z h3)(s:ZaK y z x h3=.ok () h4):xs1 U (.put o i e) S h=.ok (.nx,S) h4:=by rw [Zkk,p,Zn,q,Zn,r,Zn,s];rfl
theorem ZoP(e:h[i]? = some (.dic kvs))(hz:kvs.length<sizeLine):ZaK (.ref i) (.str x) v h=.ok () (h.set i (.dic (putD kvs (.inr x) v))):=by
 simp only [ZaK,e,keyOf];exact if_pos hz
theorem ZpA(e:h[i]? = some (.lst ys))(l:h[j]? = some (.lst zs))(hz:ys.length+zs.length<=sizeLine):Zap .ext (.ref i) [.ref j] h=.ok .non (h.set i (.lst (ys++zs))):=by
 simp only [Zap,e,Zd2,ZnA,l];exact if_pos hz
noncomputable def vf(E:Option D)(i j:Nat)(b x y z:Option D):Ev:=[E,some (.ref i),some (.ref j),b,x,y,z]
theorem Zlw:Zci GD (.tup (x::xs)) (.int 0) h=.ok x h:=by simp
theorem fn1{U:Tb}{p:T×List Str}(hi:h[i]? = some (.dic (kd ks)))(hk:ks.length<1000000):∃ h1,xs1 U ZP (vf E i j b (some p.1.d) (some (.tup (p.2.map .str))) z) h=.ok (.nx,vf E i j b (some p.1.d) (some (.tup (p.2.map .str))) z) h1/\h1.length=h.length/\(∀ m,m≠i->h1[m]? = h[m]?)/\h1[i]? = some (.dic (kd (add ks p))):=by
 obtain ⟨t,bs⟩:=p;have no:∀ w ds,t.d=.tup (.str w::ds)->w≠O "name" -> own (t,bs)=none->∃ h1,xs1 U ZP (vf E i j b (some t.d) (some (.tup (bs.map .str))) z) h=.ok (.nx,vf E i j b (some t.d) (some (.tup (bs.map .str))) z) h1/\h1.length=h.length/\(∀ m,m≠i->h1[m]? = h[m]?)/\h1[i]? = some (.dic (kd (add ks (t,bs)))):=fun w ds e ne o=>by
   refine ⟨h,(ZD (Zkf (ZK (ZcZ ((ZE rfl rfl).trans (by rw [e];exact Zlw)) rfl) (decide_eq_false ne)))).trans rfl,rfl,fun _ _=>rfl,?_⟩;rw [hi,add,o]
 cases t with
 | name x =>
   have t1:tst U Z5 (vf E i j b (some (T.name x).d) (some (.tup (bs.map .str))) z) h=.ok (!decide (x∈bs)) h:=Zke (ZK (ZcZ (x:=O "name") rfl rfl) (decide_eq_true rfl)) (ZaI ((Zo (x:=.str x) (y:=.tup (bs.map .str)) rfl rfl).trans ZcV));by_cases hx:x∈bs
   . refine ⟨h,(ZD (ZK t1 (by simp [hx]))).trans rfl,rfl,fun _ _=>rfl,?_⟩;rw [hi];simp [add,own,hx]
   . refine ⟨h.set i (.dic (kd (ad ks x))),(Z0 (ZK t1 (by simp [hx]))).trans ((Za (Zjg (x:=.bl true) (y:=.ref i) (z:=.str x) rfl rfl rfl ((ZoP hi (by rw [sizeLine_eq];simp [kd];lia)).trans (by rw [ZnL])))).trans rfl),by simp,fun m hm=>by rw [Oc (Ne.symm hm)],?_⟩;rw [Ol (Gn.Zj hi)];simp [add,own,hx]
 | num n=>exact no _ _ rfl (by simp) rfl
 | fn x e=>exact no _ _ rfl (by simp) rfl
 | rcc f x e=>exact no _ _ rfl (by simp) rfl
 | call f a=>exact no _ _ rfl (by simp) rfl
 | iff c a d=>exact no _ _ rfl (by simp) rfl
 | op w a d=>exact no _ _ rfl (by simp) rfl
theorem Zmu{U:Tb}{inn:List D}:∀ (ts:List T) (acc:List D),acc.length+ts.length<=1000->Zv [] (.nm 0) (tsto U none) (ev U (.tupl (.cons (.var 0) (.cons (.var 1) .nil)))) (ts.map T.d) [none,some (.tup inn)] acc h=.ok (acc++(ts.map fun s=>D.tup [s.d,.tup inn])) h
 | [],acc,_=>by simp [Zv,Wk.stays]
 | x::xs,acc,hz=>by
   have ih:=Zmu (U:=U) (h:=h) (inn:=inn) xs (acc++[.tup [x.d,.tup inn]]) (by simp at hz ⊢;lia);have hl:acc.length<16777216:=by simp at hz;lia
   rw [Op,Zay];simp [Wk.stays,hl,sizeLine_eq];simpa using ih
theorem Zfp(t:T):(bnd t).length<=2/\t.parts.length<=3:=by cases t<;>simp [bnd,T.parts]
theorem fn3(H:Lw P)(n:Nat){p:T×List Str}{h:Hd}{B_:List D}(hi:h[i]? = some (.dic (kd ks)))(hb:h[b]? = some (.lst B_))(ne:i≠b)(hk:ks.length<1000000)(hB:B_.length<=9000000)(hp:p.2.length<=10000):∃ h',xs2 (P.tbl (n+1)) ZX (vf E i j (some (.ref b)) (some p.1.d) (some (.tup (p.2.map .str))) z) h=.ok (.nx,vf E i j (some (.ref b)) (some p.1.d) (some (.tup (p.2.map .str))) (some (.tup ((p.2++bnd p.1).map .str)))) h'/\Ok2 i b h h'/\h'[i]? = some (.dic (kd (add ks p)))/\h'[b]? = some (.lst (B_++(ben p).map pd)):=by
 obtain ⟨h1,e1,l1,s1,d1⟩:=fn1 (U:=P.tbl (n+1)) (E:=E) (j:=j) (b:=some (.ref b)) (z:=z) (p:=p) hi hk;have e2:=Zqs H n p.1 h1;have e3:=Gn.Zhk H.t n p.1 h1;have hl:=Zfp p.1;have b1:h1[b]? = some (.lst B_):=(s1 b (Ne.symm ne)).trans hb;have lb:=Gn.Zj b1;have li:=Gn.Zj d1;have x2:xs1 (P.tbl (n+1)) Z8 (vf E i j (some (.ref b)) (some p.1.d) (some (.tup (p.2.map .str))) z) h1=.ok (.nx,vf E i j (some (.ref b)) (some p.1.d) (some (.tup (p.2.map .str))) (some (.tup ((p.2++bnd p.1).map .str)))) h1:=by
   refine Zu (i:=6) ((Zb (x:=.tup (p.2.map .str)) rfl (ZN e2 rfl)).trans ?_);rw [Zli (by rw [sizeLine_eq];simp;lia),List.map_append]
 have c:Zv [] (.nm 0) (tsto (P.tbl (n+1)) none) (ev (P.tbl (n+1)) (.tupl (.cons (.var 0) (.cons (.var 1) .nil)))) (p.1.parts.map T.d) [none,some (.tup ((p.2++bnd p.1).map .str))] [] h1=.ok ((ben p).map pd) h1:=by
   rw [Zmu _ _ (by simp;lia)];simp [ben,pd,Function.comp_def]
 have x3:xs1 (P.tbl (n+1)) Z7 (vf E i j (some (.ref b)) (some p.1.d) (some (.tup (p.2.map .str))) (some (.tup ((p.2++bnd p.1).map .str)))) h1=.ok (.nx,vf E i j (some (.ref b)) (some p.1.d) (some (.tup (p.2.map .str))) (some (.tup ((p.2++bnd p.1).map .str)))) ((h1++[DO.lst ((ben p).map pd)]).set b (DO.lst (B_++(ben p).map pd))) :=
   ZhO (ZlH (i:=b) rfl b1 (Zg (ZeG (Zfb (ZN e3 rfl)) c) rfl) (ZpA (by rw [Oe lb];exact b1) (by simp) (by rw [sizeLine_eq];simp [ben];lia)))
 refine ⟨_,(Za e1).trans ((Za x2).trans ((Za x3).trans rfl)),⟨by simp;lia,fun m a c d=>?_⟩,?_,?_⟩
 . rw [Oc (Ne.symm d),Oe (by lia)];exact s1 m c
 . rw [Oc (Ne.symm ne),Oe li];exact d1
 . rw [Ol (by simp;lia)]
theorem ZnR(e:h[j]? = some (.lst L))(b:Zas g d S=some ρ1)(q:body ρ1 h=.ok (.nx,ρ2) h2):ZL [(j,L)] g body (d::ds) S h=ZL [(j,L)] g body ds ρ2 h2:=by
 have:Wk.stays [(j,L)] h=true:=by simp [Wk.stays,e]
 rw [ZL,if_pos this,b];simp only;rw [q];rfl
theorem ZlC{g:Tg}{body:Ev->Hd->R (Fl×Ev)}(e:h[j]? = some (.lst L)):ZL [(j,L)] g body [] S h=.ok (.nx,S) h:=by
 have:Wk.stays [(j,L)] h=true:=by simp [Wk.stays,e]
 rw [ZL,if_pos this]
theorem Zfc{U:Tb}(p:ev U e S h=.ok (.ref i) h1)(l:h1[i]? = some (.lst ys)):evi U (.pl e) S h=.ok ⟨[(i,ys)],ys⟩ h1:=by
 rw [Zj1,p,Zn];simp only [Zdh,l];rfl
theorem Zmm(H:Lw P)(n:Nat)(ij:j≠i)(jb:j≠b)(ib:i≠b):∀ (xs:List (T×List Str)) (ks:List Str) (B_:List D) (h:Hd) (x y z:Option D),(∀ p∈xs,p.2.length<=10000)->h[i]? = some (.dic (kd ks))->h[b]? = some (.lst B_)->h[j]? = some (.lst Ld)->ks.length+xs.length<1000000->B_.length+3 * xs.length<=9000000 ->
   ∃ h' x' y' z',ZL [(j,Ld)] (.two 4 5) (xs2 (P.tbl (n+1)) ZX) (xs.map pd) (vf E i j (some (.ref b)) x y z) h=.ok (.nx,vf E i j (some (.ref b)) x' y' z') h'/\Ok2 i b h h'/\h'[i]? = some (.dic (kd (xs.foldl add ks)))/\h'[b]? = some (.lst (B_++(xs.flatMap ben).map pd))
 | [],ks,B_,h,x,y,z,_,hi,hb,hj,_,_=>⟨h,x,y,z,ZlC hj,⟨Oq _,fun _ _ _ _=>rfl⟩,hi,by simpa using hb⟩
 | p::xs,ks,B_,h,x,y,z,hp,hi,hb,hj,hk,hB=>by
   rw [Os] at hk hB;obtain ⟨h1,e1,o1,d1,b1⟩:=fn3 H n (E:=E) (j:=j) (z:=z) (p:=p) hi hb ib (by lia) (by lia) (hp p (.head _));have hl:(ben p).length<=3:=by simp [ben];exact (Zfp p.1).2
   have al:=Zh4 (ks:=ks) (p:=p);obtain ⟨h2,x',y',z',e2,o2,d2,b2⟩:=Zmm H n (E:=E) (Ld:=Ld) ij jb ib xs (add ks p) (B_++(ben p).map pd) h1 (some p.1.d) (some (.tup (p.2.map .str))) (some (.tup ((p.2++bnd p.1).map .str))) (fun q hq=>hp q (.tail _ hq)) d1 b1 ((o1.2 j (Gn.Zj hj) ij jb).trans hj) (by lia) (by simp;lia);exact ⟨h2,x',y',z',(ZnR hj rfl e1).trans e2,o1.trans o2,d2,by rw [b2];simp⟩
noncomputable def pls(L:List (T×List Str)):Nat:=(L.flatMap fun p=>p.1.places).length
theorem Zjo(p:T×List Str)(L:List (T×List Str)):pls (p::L)=p.1.places.length+pls L:=by simp [pls]
theorem ZkT(L M:List (T×List Str)):pls (L++M)=pls L+pls M:=by simp [pls]
theorem ZkS(p:T×List Str):pls (ben p)+1=p.1.places.length:=by
 rw [T.places_parts p.1];simp [pls,ben,List.flatMap_map]
theorem ZfS:∀ L:List (T×List Str),pls (L.flatMap ben)+L.length=pls L
 | []=>rfl
 | p::L=>by
   have:=ZfS L;have:=ZkS p;rw [List.flatMap_cons,ZkT,Zjo,Os]
   lia
theorem Zml(H:Lw P)(n:Nat):∀ (f F:Nat) (L:List (T×List Str)) (ks:List Str) (h:Hd) (j:Nat) (b x y z:Option D),f<F->(∀ p∈L,dep p.1<f/\p.2.length+2 * dep p.1<=9000)->ks.length+pls L<=900000->ks.Nodup->h[i]? = some (.dic (kd ks))->h[j]? = some (.lst (L.map pd)) ->
   ∃ h' ks' j' b' x' y' z',ZO (tst (P.tbl (n+1)) ZaT) (xs2 (P.tbl (n+1)) ZaQ) F (vf E i j b x y z) h=.ok (.nx,vf E i j' b' x' y' z') h'/\Gn.Up i h h'/\h'[i]? = some (.dic (kd ks'))/\ks'.Nodup/\∀ v,v∈ks'↔v∈ks\/∃ p∈L,Fp p v
 | f,0,L,ks,h,j,b,x,y,z,hf,_,_,_,_,_=>by lia
 | f,F+1,[],ks,h,j,b,x,y,z,hf,hp,hs,nd,hi,hj=>⟨h,ks,j,b,x,y,z,Zg8 (Zl9 rfl hj),Gn.Up.refl,hi,nd,by simp⟩
 | 0,F+1,p::L,ks,h,j,b,x,y,z,hf,hp,hs,nd,hi,hj=>by have:=(hp p (.head _)).1;lia
 | f+1,F+1,p::L,ks,h,j,b,x,y,z,hf,hp,hs,nd,hi,hj=>by
   have ij:j≠i:=fun e=>by rw [e,hi] at hj;cases hj
   have li:=Gn.Zj hi;have lj:=Gn.Zj hj;have hn:=ZfS (p::L);have x1:xs1 (P.tbl (n+1)) Zat (vf E i j b x y z) h=.ok (.nx,vf E i j (some (.ref h.length)) x y z) (h++[.lst []]):=Zu (i:=3) (ZgY (xs:=[]) rfl (Nat.zero_le _));obtain ⟨h1,x1',y1,z1,e1,o1,d1,b1⟩:=Zmm H n (E:=E) (i:=i) (j:=j) (b:=h.length) (Ld:=(p::L).map pd) ij (by lia) (by lia) (p::L) ks [] (h++[.lst []]) x y z (fun q hq=>by have:=(hp q hq).2;lia) (by rw [Oe li];exact hi) (by simp) (by rw [Oe lj];exact hj) (by lia) (by rw [List.length_nil];lia);have al:=Zgs (p::L) ks;obtain ⟨h2,ks',j',b',x',y',z',e2,o2,d2,nd2,m2⟩:=Zml H n (E:=E) (i:=i) f F ((p::L).flatMap ben) ((p::L).foldl add ks) h1 h.length (some (.ref h.length)) x1' y1 z1 (by lia) (fun q hq=>by
     obtain ⟨r,hr,hq⟩:=List.mem_flatMap.mp hq;obtain ⟨s,hs,rfl⟩:=List.mem_map.mp hq;have:=Zy hs;have:=hp r hr;have:=Zfp r.1;simp
     lia) (by lia) (Zh3 _ nd) d1 (by rw [b1];rfl)
   refine ⟨h2,ks',j',b',x',y',z',(Zg7 (Zl9 rfl hj) ((Za x1).trans ((Za ((ZdF (Zfc rfl (by rw [Oe lj];exact hj))).trans e1)).trans ((Za (Zu (i:=2) (d:=.ref h.length) rfl)).trans rfl)))).trans e2,?_,d2,nd2,fun v=>?_⟩
   . refine Gn.Up.trans ⟨?_,fun m hm hi=>?_⟩ o2
     . have:=o1.1;simp at this;lia
     . rw [o1.2 m (by simp;lia) hi (by lia),Oe hm]
   . rw [m2,Zgr,or_assoc,<- ZgP]
theorem Zia{a b:List Str}(p:a.Perm b):Z3 a=Z3 b:=((ZU a).trans (p.trans (ZU b).symm)).eq_of_pairwise (fun _ _ _ _ h q=>Zf4 h q) (Za0 a) (Za0 b)
theorem kept{h h':Hd}(u:h.length<=h'.length)(s:∀ m,m<h.length->h'[m]? = h[m]?):∃ g,h'=h++g:=by
 refine ⟨h'.drop h.length,?_⟩;refine List.ext_getElem? fun m=>?_;rcases Nat.lt_or_ge m h.length with q|q
 . rw [Oe q,s m q]
 . rw [Om q,List.getElem?_drop];congr 1;lia
theorem Zjc (H:Lw P) (n:Nat) (t:T) (h:Hd) (hs:t.size<=800000) (hd:dep t<=900) (hk:∀ x∈lf t,PyData.strOk x=true) (hl:(ddS (lf t)).length<64):∃ g,run P (n+2) (O "free_names") [t.d] h=.ok (.ref (h++g).length) (h++g++[.lst ((Z3 (ddS (lf t))).map .str)]):=by
 rw [Zq H.free_names rfl];have x1:xs1 (P.tbl (n+1)) ZaX [some t.d,none,none,none,none,none,none] h=.ok (.nx,[some t.d,some (.ref h.length),none,none,none,none,none]) (h++[.dic []]):=Zu (i:=1) rfl;have x2:xs1 (P.tbl (n+1)) ZaW [some t.d,some (.ref h.length),none,none,none,none,none] (h++[.dic []])=.ok (.nx,vf (some t.d) h.length (h++[DO.dic []]).length none none none none) (h++[DO.dic []]++[DO.lst ([(t,[])].map pd)]):=Zu (i:=2) (ZgY (xs:=[_]) rfl (show 1<=1000 by decide));obtain ⟨h',ks,j',b',x',y',z',e3,u,d,nd,mm⟩:=Zml H n (E:=some t.d) (i:=h.length) (dep t+1) P.L [(t,[])] [] (h++[DO.dic []]++[DO.lst ([(t,[])].map pd)]) (h++[DO.dic []]).length none none none none (by have:=H.t.big;lia) (by simp;lia) (by simp [pls];exact OE hs (by decide)) List.nodup_nil (by simp [kd]) (by simp);have m2:∀ v,v∈ks↔v∈lf t:=fun v=>by rw [mm];simp [Fp]
 have pm:=Zff nd m2;have hlen:ks.length<64:=by rw [pm.length_eq];exact hl
 obtain ⟨g,eg⟩:=kept (h:=h) (h':=h') (by have:=u.1;simp at this;lia) (fun m hm=>(u.2 m (by simp;lia) (by lia)).trans (by rw [Oe (by simp;lia),Oe hm]));refine ⟨g,?_⟩;have x4:ev (P.tbl (n+1)) (.blt .srt (.cons (.var 1) .nil)) (vf (some t.d) h.length j' b' x' y' z') h'=.ok (.ref h'.length) (h'++[.lst ((Z3 (ddS (lf t))).map .str)]):=by
   refine ZbN (xs:=[.ref h.length]) rfl ?_;show Zcb P.GD [.ref h.length] h'=_;simp only [Zcb,dicOf,d,Option.bind_some,ZhE];rw [if_pos ⟨hlen,OC.mpr fun x hx=>hk x ((m2 x).mp hx)⟩,Zia pm];rfl
 rw [eg] at x4;rw [<- eg] at x4;have e3:xs1 (P.tbl (n+1)) ZaV (vf (some t.d) h.length (h++[DO.dic []]).length none none none none) (h++[DO.dic []]++[DO.lst ([(t,[])].map pd)])=.ok (.nx,vf (some t.d) h.length j' b' x' y' z') h':=e3;have w:xs2 (P.tbl (n+1)) Zca [some t.d,none,none,none,none,none,none] h=.ok (.rt (.ref h'.length),vf (some t.d) h.length j' b' x' y' z') (h'++[.lst ((Z3 (ddS (lf t))).map .str)]):=(Za x1).trans ((Za x2).trans ((Za e3).trans (Zc (ZA x4))));rw [<- eg];exact congrArg Zm w
end Fr
end
section
namespace Fr
open PySem L2 IV Tm K02L
open Gn (dep Zy)
variable {P:Pg}
theorem Zag:∀ t:T,t.d.pure=true/\t.d.dp<=dep t+1
 | .num _=>⟨rfl,by simp [T.d,D.dp,D.dps,dep]⟩
 | .name _=>⟨rfl,by simp [T.d,D.dp,D.dps,dep]⟩
 | .fn x e=>by have:=Zag e;simp [T.d,D.pure,D.pures,D.dp,D.dps,dep,this.1];lia
 | .rcc f x e=>by have:=Zag e;simp [T.d,D.pure,D.pures,D.dp,D.dps,dep,this.1];lia
 | .call f a=>by have p:=Zag f;have q:=Zag a;simp [T.d,D.pure,D.pures,D.dp,D.dps,dep,p.1,q.1];lia
 | .iff c a b=>by have o:=Zag c;have p:=Zag a;have q:=Zag b;simp [T.d,D.pure,D.pures,D.dp,D.dps,dep,o.1,p.1,q.1];lia
 | .op w a b=>by have p:=Zag a;have q:=Zag b;simp [T.d,D.pure,D.pures,D.dp,D.dps,dep,p.1,q.1];lia
noncomputable def tl(t:T):List D:=(fr t).tail++t.parts.map T.d
theorem ZnZ(t:T):∃ w,t.d=.tup (.str w::tl t):=by cases t<;>exact ⟨_,rfl⟩
theorem Zhd(t:T):∀ d∈(fr t).tail,Gn.Zax d=true:=by cases t<;>simp [fr,Gn.Zax]
theorem Zmd{U:Tb}{a:Ex}(p:ev U a S h=.ok (T.d t) h1):ev U (.sl a (some (.cst (.int 1))) none) S h=.ok (.tup (tl t)) h1:=by
 obtain ⟨w,e⟩:=ZnZ t;rw [Zmn,p,e];simp
theorem ZjM {U:Tb}{e:Ex} (t:T) (p:ev U e S h=.ok t.d h):tst U (.ex (.blt .isi (.cons e (.cons (.cst (.ty "tuple")) .nil)))) S h=.ok true h:=by
 obtain ⟨w,q⟩:=ZnZ t;exact ZaI (ZbN (Zg p (Zg rfl rfl)) (by rw [q];rfl))
theorem ZjN {U:Tb}{e:Ex} (f:Gn.Zax d=true) (p:ev U e S h=.ok d h):tst U (.ex (.blt .isi (.cons e (.cons (.cst (.ty "tuple")) .nil)))) S h=.ok false h :=
 ZaI (ZbN (Zg p (Zg rfl rfl)) (Gn.ZjO f))
noncomputable def vw(t:T)(k:Nat)(a:Int)(o:Option D):Ev:=[some t.d,some (.ref k),some (.int a),o]
theorem ZiQ{U:Tb}:∀ (fs rest:List D) (o:Option D),(∀ d∈fs,Gn.Zax d=true)->∃ o',ZL [] (.nm 3) (xs2 U ZQ) (fs++rest) (vw t k a o) h=ZL [] (.nm 3) (xs2 U ZQ) rest (vw t k a o') h
 | [],rest,o,_=>⟨o,rfl⟩
 | d::fs,rest,o,hf=>by
   obtain ⟨o',e⟩:=ZiQ (U:=U) (t:=t) (k:=k) (a:=a) (h:=h) fs rest (some d) (fun x hx=>hf x (.tail _ hx));exact ⟨o',(Zcn (ρ1:=vw t k a (some d)) rfl ((Za ((ZD (ZjN (hf d (.head _)) rfl)).trans rfl)).trans rfl)).trans e⟩
theorem ZqO{U:Tb}{a b:Ex}(p:ev U a S h=.ok (.int x) h1)(q:ev U b S h1=.ok (.int y) h2):tst U (.ex (.cmp .GtE a b)) S h=.ok (decide (y<=x)) h2:=ZaI (Zo p q)
theorem Zo0{U:Tb}{a b c:Tx}(p:tst U a S h=.ok false h1)(q:tst U b S h1=.ok false h2)(r:tst U c S h2=.ok false h3):tst U (.ors (.cons a (.cons b (.one c)))) S h=.ok false h3:=by
 rw [Zc9,ZS,p,Zn];simp only [OG,if_false];rw [ZS,q];exact r
theorem Znw{U:Tb}{a:Tx}{b:Bool}(p:tst U a S h=.ok b h1):tst U (.nt a) S h=.ok (!b) h1:=by rw [ZmM,p];rfl
theorem Zm5{α:Type}{x:α}{l f:List α}{a:Nat}(p:(x::l) <+: f.drop a):f[a]? = some x/\a<f.length/\l <+: f.drop (a+1):=by
 obtain ⟨r,e⟩:=p;have e1:f[a]? = some x:=by
   have:=congrArg (·[0]?) e;simp [List.getElem?_drop] at this;exact this.symm
 refine ⟨e1,(Ob.mp e1).1,r,?_⟩;rw [<- List.drop_drop,<- e];rfl
theorem pre_app{α:Type}{l m f:List α}{a:Nat}(p:(l++m) <+: f.drop a):l <+: f.drop a/\m <+: f.drop (a+l.length):=by
 obtain ⟨r,e⟩:=p;refine ⟨⟨m++r,by rw [<- e,Oz]⟩,r,?_⟩;rw [<- List.drop_drop,<- e,Oz,List.drop_left]
theorem Zha {U:Tb}{F:List D}:∀ (ss:List T) (a:Nat) (o:Option D),(∀ s∈ss,∀ a:Nat,s.places.map T.d <+: F.drop a->U.C (O "_law_walked") [s.d,.ref k,.int (a:Int)] h=.ok (.int ((a+s.size:Nat):Int)) h)->(ss.flatMap T.places).map T.d <+: F.drop a->∃ o',ZL [] (.nm 3) (xs2 U ZQ) (ss.map T.d) (vw t k a o) h=.ok (.nx,vw t k ((a+(ss.flatMap T.places).length:Nat):Int) o') h
 | [],a,o,_,_=>⟨o,rfl⟩
 | s::ss,a,o,hc,hp=>by
   rw [List.flatMap_cons,List.map_append] at hp;obtain ⟨p1,p2⟩:=pre_app hp;rw [List.length_map] at p2;obtain ⟨o',e⟩:=Zha (U:=U) (F:=F) (t:=t) (k:=k) (h:=h) ss (a+s.size) (some s.d) (fun x hx=>hc x (.tail _ hx)) p2;have c:=hc s (.head _) a p1;have x1:xs2 U Zaq (vw t k a (some s.d)) h=.ok (.nx,vw t k ((a+s.size:Nat):Int) (some s.d)) h:=(Za (Zu (i:=2) (ZN c rfl))).trans ((Za ((ZD (ZK (Zg0 rfl rfl) (decide_eq_false (by lia)))).trans rfl)).trans rfl);refine ⟨o',(Zcn (ρ1:=vw t k a (some s.d)) rfl ((Za ((Z0 (ZjM s rfl)).trans x1)).trans rfl)).trans (e.trans ?_)⟩;rw [List.flatMap_cons,OA];show R.ok (Fl.nx,vw t k ((a+s.places.length+_:Nat):Int) o') h=_;rw [Nat.add_assoc]
theorem Zg9 (H:Lw P) {h:Hd}{F:List D} (hk:h[k]? = some (.lst F)) (m:Nat) (t:T) (a:Nat) (hd:dep t<=900) (hc:∀ s∈t.parts,∀ a:Nat,s.places.map T.d <+: F.drop a->run P m (O "_law_walked") [s.d,.ref k,.int (a:Int)] h=.ok (.int ((a+s.size:Nat):Int)) h) (hp:t.places.map T.d <+: F.drop a):run P (m+1) (O "_law_walked") [t.d,.ref k,.int (a:Int)] h=.ok (.int ((a+t.size:Nat):Int)) h:=by
 rw [Zq H.law_walked rfl];have hp':=hp;rw [T.places_parts,Op] at hp;obtain ⟨p1,p2,p3⟩:=Zm5 hp;obtain ⟨o1,e1⟩:=ZiQ (U:=P.tbl m) (t:=t) (k:=k) (a:=((a+1:Nat):Int)) (h:=h) (fr t).tail (t.parts.map T.d) none (Zhd t);obtain ⟨o2,e2⟩:=Zha (U:=P.tbl m) (F:=F) (t:=t) (k:=k) (h:=h) t.parts (a+1) o1 hc p3;have ef:ev (P.tbl m) (.ix (.var 1) (.var 2)) (vw t k a none) h=.ok t.d h:=(ZE rfl rfl).trans ((Zx hk).trans (by rw [IV.ZaA,p1];rfl));have pu:=Zag t;have x1:xs1 (P.tbl m) ZaU (vw t k a none) h=.ok (.nx,vw t k a none) h:=by
   refine (ZD (Zo0 (ZK (ZqO rfl (ZbN (Zg rfl rfl) (ZeB hk))) (decide_eq_false (by lia))) (ZaI (b:=false) ((Zo ef rfl).trans (ZeX.trans (Zio (n:=true) pu.1 (by lia))))) ?_)).trans rfl;obtain ⟨w,q⟩:=ZnZ t;exact Znw (b:=true) (ZaI (ZbN (Zg ef (Zg rfl rfl)) (by rw [q];rfl)))
 have w:xs2 (P.tbl m) Zb4 (vw t k a none) h=.ok (.rt (.int ((a+t.size:Nat):Int)),vw t k ((a+t.size:Nat):Int) o2) h:=by
   refine (Za x1).trans ((Za (Zu (i:=2) (d:=.int ((a+1:Nat):Int)) rfl)).trans ((Za ((ZdF (Zfb (Zmd rfl))).trans (e1.trans e2))).trans ?_));have:a+1+(t.parts.flatMap T.places).length=a+t.size:=by rw [T.size,T.places_parts,Os];lia
   rw [this];exact Zc (ZA rfl)
 exact congrArg Zm w
theorem ZfN (H:Lw P) {h:Hd}{F:List D} (hk:h[k]? = some (.lst F)):∀ (d n:Nat) (t:T) (a:Nat),dep t<=d->d<=900->t.places.map T.d <+: F.drop a->run P (n+d+1) (O "_law_walked") [t.d,.ref k,.int (a:Int)] h=.ok (.int ((a+t.size:Nat):Int)) h
 | 0,n,t,a,hd,h9,hp=>Zg9 H hk (n+0) t a (by lia) (fun s hs=>by have:=Zy hs;lia) hp
 | d+1,n,t,a,hd,h9,hp=>Zg9 H hk (n+(d+1)) t a (by lia) (fun s hs a' hp'=>ZfN H hk d n s a' (by have:=Zy hs;lia) (by lia) hp') hp
theorem ZW:∀ t:T,(lf t).length<=t.size
 | .num _=>by simp [lf]
 | .name _=>by simp [lf,T.size,T.places]
 | .fn x e=>by have:=ZW e;have:=List.length_filter_le (fun y=>decide (y≠x)) (lf e);simp only [T.size,T.places,lf,Os] at *;lia
 | .rcc f x e=>by have:=ZW e;have:=List.length_filter_le (fun y=>decide (y≠f/\y≠x)) (lf e);simp only [T.size,T.places,lf,Os] at *;lia
 | .call f a=>by have:=ZW f;have:=ZW a;simp only [T.size,T.places,lf,Os,OA] at *;lia
 | .iff c a b=>by have:=ZW c;have:=ZW a;have:=ZW b;simp only [T.size,T.places,lf,Os,OA] at *;lia
 | .op w a b=>by have:=ZW a;have:=ZW b;simp only [T.size,T.places,lf,Os,OA] at *;lia
noncomputable def vv(t:T)(r:Nat)(o:Option D):Ev:=[some t.d,some (.ref r),o]
theorem ZjY{U:Tb}:∀ (fs rest:List D) (o:Option D),(∀ d∈fs,Gn.Zax d=true)->∃ o',ZL [] (.nm 2) (xs2 U Z2) (fs++rest) (vv t r o) h=ZL [] (.nm 2) (xs2 U Z2) rest (vv t r o') h
 | [],rest,o,_=>⟨o,rfl⟩
 | d::fs,rest,o,hf=>by
   obtain ⟨o',e⟩:=ZjY (U:=U) (t:=t) (r:=r) (h:=h) fs rest (some d) (fun x hx=>hf x (.tail _ hx));exact ⟨o',(Zcn (ρ1:=vv t r (some d)) rfl ((Za ((ZD (ZjN (hf d (.head _)) rfl)).trans rfl)).trans rfl)).trans e⟩
theorem add_l(e:h[i]? = some (.lst xs))(e':h[j]? = some (.lst ys))(hz:xs.length+ys.length<=10000000):opB .Add (.ref i) (.ref j) h=.ok (.ref h.length) (h++[.lst (xs++ys)]):=by
 show Zkh (.ref i) (.ref j) h=_;simp only [Zkh,e,e'];rw [if_pos (by rw [sizeLine_eq];lia)];rfl
theorem ZhJ {U:Tb}:∀ (ss:List T) (acc:List Str) (h:Hd) (r:Nat) (o:Option D),(∀ s∈ss,∀ h,∃ g r,U.C (O "_law_free") [s.d] h=.ok (.ref r) (h++g)/\(h++g)[r]? = some (.lst ((lf s).map .str)))->h[r]? = some (.lst (acc.map .str))->acc.length+(ss.flatMap T.places).length<=9000000 ->
   ∃ g r' o',ZL [] (.nm 2) (xs2 U Z2) (ss.map T.d) (vv t r o) h=.ok (.nx,vv t r' o') (h++g)/\(h++g)[r']? = some (.lst ((acc++ss.flatMap lf).map .str))
 | [],acc,h,r,o,_,hr,_=>⟨[],r,o,by rw [List.append_nil];rfl,by simpa using hr⟩
 | s::ss,acc,h,r,o,hc,hr,hz=>by
   rw [List.flatMap_cons,OA] at hz;have hl:=ZW s;unfold T.size at hl;obtain ⟨g1,r1,c,e1⟩:=hc s (.head _) h;have hr':(h++g1)[r]? = some (.lst (acc.map .str)):=by rw [Oe (Gn.Zj hr)];exact hr
   obtain ⟨g2,r2,o2,e2,q2⟩:=ZhJ (U:=U) (t:=t) ss (acc++lf s) (h++g1++[.lst ((acc++lf s).map .str)]) (h++g1).length (some s.d) (fun x hx=>hc x (.tail _ hx)) (by simp) (by rw [OA];lia);refine ⟨g1++(.lst ((acc++lf s).map .str)::g2),r2,o2,?_,by rw [List.flatMap_cons,<- Oz acc,<- q2];simp⟩;have x1:xs2 U ZaP (vv t r (some s.d)) h=.ok (.nx,vv t (h++g1).length (some s.d)) (h++g1++[.lst ((acc++lf s).map .str)]):=(Za (Zu (i:=1) ((Zb rfl (ZN c rfl)).trans ((add_l hr' e1 (by simp;lia)).trans (by rw [<- List.map_append]))))).trans rfl;refine (Zcn (ρ1:=vv t r (some s.d)) rfl ((Za ((Z0 (ZjM s rfl)).trans x1)).trans rfl)).trans (e2.trans ?_);simp
theorem ZdS{U:Tb}{e0:Ev}{p:Str->Bool}{tx:Tx}(hj:h[j]? = some (.lst L))(ht:∀ x,tst U tx (some (.str x)::e0) h=.ok (p x) h):∀ (xs acc:List Str),acc.length+xs.length<=9000000->Zv [(j,L)] (.nm 0) (tsto U (some tx)) (ev U (.var 0)) (xs.map .str) (none::e0) (acc.map .str) h=.ok ((acc++xs.filter p).map .str) h
 | [],acc,_=>by
   have:Wk.stays [(j,L)] h=true:=by simp [Wk.stays,hj]
   rw [Oy,Zv,if_pos this];simp
 | x::xs,acc,hz=>by
   rw [Os] at hz;have st:Wk.stays [(j,L)] h=true:=by simp [Wk.stays,hj]
   rw [Op,Zay,if_pos ⟨st,by rw [sizeLine_eq,List.length_map];lia⟩];show (tst U tx (some (.str x)::e0) h).plain.bnd _=_;rw [ht];show (if p x=true then Zv [(j,L)] (.nm 0) (tsto U (some tx)) (ev U (.var 0)) (xs.map .str) (none::e0) (acc.map .str++[.str x]) h else Zv [(j,L)] (.nm 0) (tsto U (some tx)) (ev U (.var 0)) (xs.map .str) (none::e0) (acc.map .str) h)=_;by_cases hx:p x=true
   . have ih:=ZdS (U:=U) (e0:=e0) hj ht xs (acc++[x]) (by simp;lia);rw [if_pos hx,List.filter_cons_of_pos hx];simpa using ih
   . rw [if_neg hx,List.filter_cons_of_neg hx];exact ZdS hj ht xs acc (by lia)
theorem Zlo{U:Tb}{a b:Ex}{x y:Str}(p:ev U a S h=.ok (.str x) h1)(q:ev U b S h1=.ok (.str y) h2):tst U (.ex (.cmp .NotEq a b)) S h=.ok (!decide (x=y)) h2:=ZaI ((Zo p q).trans (by rw [ZeX,ZfW];rfl))
theorem Zmr{p q:Prop}[Decidable p][Decidable q](h:q↔¬ p):(!decide p)=decide q:=by by_cases hp:p<;>simp [hp,h]
theorem Zmk (H:Lw P) (m:Nat) (t:T) (h:Hd) (hs:t.size<=800000) (hc:∀ s∈t.parts,∀ h,∃ g r,run P m (O "_law_free") [s.d] h=.ok (.ref r) (h++g)/\(h++g)[r]? = some (.lst ((lf s).map .str))):∃ g r,run P (m+1) (O "_law_free") [t.d] h=.ok (.ref r) (h++g)/\(h++g)[r]? = some (.lst ((lf t).map .str)):=by
 have gen:∀ w ds,t.d=.tup (.str w::ds)->w≠O "name" -> ∃ g r o,run P (m+1) (O "_law_free") [t.d] h=Zm (xs2 (P.tbl m) (tlS (tlS (tlS ZF))) (vv t r o) (h++g))/\(h++g)[r]? = some (.lst ((t.parts.flatMap lf).map .str)):=fun w ds e ne=>by
   obtain ⟨o1,e1⟩:=ZjY (U:=P.tbl m) (t:=t) (r:=h.length) (h:=h++[.lst []]) (fr t).tail (t.parts.map T.d) none (Zhd t);obtain ⟨g,r,o,e2,q⟩:=ZhJ (U:=P.tbl m) (t:=t) t.parts [] (h++[.lst []]) h.length o1 hc (by simp) (by rw [T.size,T.places_parts,Os] at hs;simp only [List.length_nil];lia);refine ⟨.lst []::g,r,o,?_,by simpa using q⟩;rw [Zq H.law_free rfl];have x1:xs1 (P.tbl m) Zb9 [some t.d,none,none] h=.ok (.nx,[some t.d,none,none]) h:=(ZD (ZK (ZcZ ((ZE rfl rfl).trans (by rw [e];exact Zlw)) rfl) (decide_eq_false ne))).trans rfl;have w:xs2 (P.tbl m) ZF [some t.d,none,none] h=xs2 (P.tbl m) (tlS (tlS (tlS ZF))) (vv t r o) (h++.lst []::g):=(Za x1).trans ((Za (Zu (i:=1) (ZgY (xs:=[]) rfl (Nat.zero_le _)))).trans ((Za ((ZdF (Zfb (Zmd rfl))).trans (e1.trans e2))).trans (by simp;rfl)));exact congrArg Zm w
 have pl:∀ w ds,t.d=.tup (.str w::ds)->w≠O "name" -> w≠O "fn" -> w≠O "rec" -> lf t=t.parts.flatMap lf->∃ g r,run P (m+1) (O "_law_free") [t.d] h=.ok (.ref r) (h++g)/\(h++g)[r]? = some (.lst ((lf t).map .str)):=fun w ds e ne1 ne2 ne3 el=>by
   obtain ⟨g,r,o,e1,q⟩:=gen w ds e ne1;refine ⟨g,r,e1.trans ?_,by rw [el];exact q⟩;have h0:∀ hh,ev (P.tbl m) (.ix (.var 0) (.cst (.int 0))) (vv t r o) hh=.ok (.str w) hh:=fun hh=>(ZE rfl rfl).trans (by rw [e];exact Zlw);have w:xs2 (P.tbl m) (tlS (tlS (tlS ZF))) (vv t r o) (h++g)=.ok (.rt (.ref r),vv t r o) (h++g):=(Za ((ZD (ZK (ZcZ (h0 _) rfl) (decide_eq_false ne2))).trans rfl)).trans ((Za ((ZD (ZK (ZcZ (h0 _) rfl) (decide_eq_false ne3))).trans rfl)).trans (Zc (ZA rfl)));exact congrArg Zm w
 cases t with
 | num z=>exact pl _ _ rfl (by simp) (by simp) (by simp) rfl
 | call f a=>exact pl _ _ rfl (by simp) (by simp) (by simp) (by simp [lf,T.parts])
 | iff c a b=>exact pl _ _ rfl (by simp) (by simp) (by simp) (by simp [lf,T.parts])
 | op w a b=>exact pl _ _ rfl (by simp) (by simp) (by simp) (by simp [lf,T.parts])
 | name x =>
   refine ⟨[.lst [.str x]],h.length,?_,by simp [lf]⟩;rw [Zq H.law_free rfl];have w:xs2 (P.tbl m) ZF [some (T.name x).d,none,none] h=.ok (.rt (.ref h.length),[some (T.name x).d,none,none]) (h++[.lst [.str x]]):=Zc ((Z0 (ZK (ZcZ (x:=O "name") rfl rfl) (decide_eq_true rfl))).trans (Zc (ZA (ZgY (xs:=[_]) rfl (show 1<=1000 by decide)))));exact congrArg Zm w
 | fn x e =>
   obtain ⟨g,r,o,e1,q⟩:=gen _ _ rfl (by simp);have hl:=ZW e;have hq:(h++g)[r]? = some (.lst ((lf e).map .str)):=by simpa [T.parts] using q
   have c:=ZdS (U:=P.tbl m) (e0:=[some (T.fn x e).d]) (p:=fun y=>decide (y≠x)) (tx:=.ex (.cmp .NotEq (.var 0) (.ix (.var 1) (.cst (.int 1))))) hq (fun y=>(Zlo (x:=y) (y:=x) rfl rfl).trans (by rw [Zmr Iff.rfl])) (lf e) [] (by simp [T.size,T.places] at hs hl ⊢;lia);refine ⟨g++[.lst (((lf e).filter fun y=>decide (y≠x)).map .str)],(h++g).length,?_,by rw [<- Oz];simp [lf]⟩;have w:xs2 (P.tbl m) (tlS (tlS (tlS ZF))) (vv (.fn x e) r o) (h++g)=.ok (.rt (.ref (h++g).length),vv (.fn x e) r o) (h++g++[.lst (((lf e).filter fun y=>decide (y≠x)).map .str)]):=Zc ((Z0 (ZK (ZcZ (x:=O "fn") rfl rfl) (decide_eq_true rfl))).trans (Zc (ZA (ZeG (Zfc rfl hq) c))));rw [e1,w,Oz];rfl
 | rcc f x e =>
   obtain ⟨g,r,o,e1,q⟩:=gen _ _ rfl (by simp);have hl:=ZW e;have hq:(h++g)[r]? = some (.lst ((lf e).map .str)):=by simpa [T.parts] using q
   have c:=ZdS (U:=P.tbl m) (e0:=[some (T.rcc f x e).d]) (p:=fun y=>decide (y≠f/\y≠x)) (tx:=.ands (.cons (.ex (.cmp .NotEq (.var 0) (.ix (.var 1) (.cst (.int 1))))) (.one (.ex (.cmp .NotEq (.var 0) (.ix (.var 1) (.cst (.int 2)))))))) hq (fun y=>by
     have t1:tst (P.tbl m) (.ex (.cmp .NotEq (.var 0) (.ix (.var 1) (.cst (.int 1))))) [some (.str y),some (T.rcc f x e).d] (h++g)=.ok (!decide (y=f)) (h++g):=Zlo (x:=y) (y:=f) rfl rfl;have t2:tst (P.tbl m) (.ex (.cmp .NotEq (.var 0) (.ix (.var 1) (.cst (.int 2))))) [some (.str y),some (T.rcc f x e).d] (h++g)=.ok (!decide (y=x)) (h++g):=Zlo (x:=y) (y:=x) rfl rfl;by_cases h1:y=f
     . rw [Zkf (ZK t1 (by simp [h1]))];simp [h1]
     . rw [Zke (ZK t1 (by simp [h1])) t2];simp [h1]) (lf e) [] (by simp [T.size,T.places] at hs hl ⊢;lia)
   refine ⟨g++[.lst (((lf e).filter fun y=>decide (y≠f/\y≠x)).map .str)],(h++g).length,?_,by rw [<- Oz];simp [lf]⟩;have w:xs2 (P.tbl m) (tlS (tlS (tlS ZF))) (vv (.rcc f x e) r o) (h++g)=.ok (.rt (.ref (h++g).length),vv (.rcc f x e) r o) (h++g++[.lst (((lf e).filter fun y=>decide (y≠f/\y≠x)).map .str)]):=(Za ((ZD (ZK (ZcZ (x:=O "rec") rfl rfl) (decide_eq_false (by simp)))).trans rfl)).trans (Zc ((Z0 (ZK (ZcZ (x:=O "rec") rfl rfl) (decide_eq_true rfl))).trans (Zc (ZA (ZeG (Zfc rfl hq) c)))));rw [e1,w,Oz];rfl
theorem Zky{t s:T}(hs:s∈t.parts):s.size<=t.size:=by
 cases t<;>simp [T.parts] at hs
 . subst hs;simp [T.size,T.places]
 . subst hs;simp [T.size,T.places]
 . rcases hs with rfl|rfl<;>simp [T.size,T.places]<;>lia
 . rcases hs with rfl|rfl|rfl<;>simp [T.size,T.places]<;>lia
 . rcases hs with rfl|rfl<;>simp [T.size,T.places]<;>lia
theorem Zhm (H:Lw P):∀ (d n:Nat) (t:T) (h:Hd),dep t<=d->t.size<=800000->∃ g r,run P (n+d+1) (O "_law_free") [t.d] h=.ok (.ref r) (h++g)/\(h++g)[r]? = some (.lst ((lf t).map .str))
 | 0,n,t,h,hd,hs=>Zmk H (n+0) t h hs fun s q=>by have:=Zy q;lia
 | d+1,n,t,h,hd,hs=>Zmk H (n+(d+1)) t h hs fun s q h'=>Zhm H d n s h' (by have:=Zy q;lia) (OE (Zky q) hs)
end Fr
end
section
namespace Fr
open PySem L2 IV Tm K02L
open Gn (dep Zy)
variable {P:Pg}
theorem Zhg:∀ ss:List Str,strsOf (ss.map .str)=some ss
 | []=>rfl
 | x::r=>by show (strsOf (r.map .str)).map _=_;rw [Zhg r];rfl
theorem ZpC{U:Tb}{e:Ex}{ss:List Str}(p:ev U e S h=.ok (.ref r) h1)(l:h1[r]? = some (.lst (ss.map .str)))(h4:ss.length<4000)(h64:(ddS ss).length<64)(ok:∀ x∈ss,PyData.strOk x=true):ev U (.sorts e) S h=.ok (.ref h1.length) (h1++[.lst ((Z3 (ddS ss)).map .str)]):=by
 rw [ev,p,R.bind_ok];simp only [lstOf,l,Option.bind_some,Zhg];rw [if_pos ⟨h4,h64,OC.mpr ok⟩];rfl
theorem Zcf:∀ ss:List Str,D.pures (ss.map .str)=true/\D.dps (ss.map .str)=0
 | []=>⟨rfl,rfl⟩
 | x::r=>by have:=Zcf r;simp [D.pures,D.pure,D.dps,D.dp,this.1,this.2]
theorem Zew{ss:List Str}(e1:h[i]? = some (.lst (ss.map .str)))(e2:h[j]? = some (.lst (ss.map .str))):IV.Zam n (.ref i) (.ref j) h=.ok (.bl (!n)) h:=by
 obtain ⟨ps,a1,a2,a3⟩:=pys_same (rd:=ZfM h 3) (ss.map .str) (Zcf ss).1;have q:∀ k,h[k]? = some (.lst (ss.map .str))->ZfP h (.ref k)=some (.list ps):=fun k e=>by
   show (match h[k]? with
     | some (.lst xs)=>(D.pys (ZfM h 3) xs).map PyData.list
     | _=>none)=_
   rw [e];show (D.pys (ZfM h 3) (ss.map .str)).map PyData.list=_;rw [a1];rfl
 unfold IV.Zam;rw [q i e1,q j e2];simp only;have dz:PyData.depthAll ps<=0:=by have:=(Zcf ss).2;lia
 rw [if_pos (by simp only [PyData.depth];lia)];have:PyData.eqv (.list ps) (.list ps)=true:=by simpa [PyData.eqv] using a3
 rw [this];cases n<;>rfl
theorem Zps {GD}{h:Hd} (e:h[i]? = some (.lst xs)):ZdT GD .isi [.ref i,.ty "list"] h=.ok (.bl true) h:=by
 simp only [ZdT,Zl2,ZmL,lstOf,e];rfl
theorem Zpc {U:Tb}{e:Ex} (p:ev U e S h=.ok (.ref i) h) (q:h[i]? = some (.lst xs)):tst U (.nt (.ex (.blt .isi (.cons e (.cons (.cst (.ty "list")) .nil))))) S h=.ok false h:=Znw (b:=true) (ZaI (ZbN (Zg p (Zg rfl rfl)) (Zps q)))
noncomputable def vg(t:T)(a b c:Option D):Ev:=[some t.d,a,b,c]
theorem ZkF (H:Lw P) (n:Nat) (t:T) (h:Hd) (hd:dep t<=6) (hs:t.size<4000) (hk:∀ x∈lf t,PyData.strOk x=true) (hl:(ddS (lf t)).length<64):∃ g,run P (n+9) (O "_law_right") [t.d] h=.ok (.bl true) (h++g):=by
 rw [Zq H.law_right rfl];have ll:=ZW t;generalize eF:(Z3 (ddS (lf t))).map D.str=F;have e1:=Gn.ZfO H.t H.pl (n+6) t h (by lia);generalize eh1:h++[DO.lst (t.places.map T.d),DO.lst []]=h1 at e1;have i1:h1[h.length]? = some (.lst (t.places.map T.d)):=by rw [<- eh1];simp
 have e2:=ZfN H i1 6 (n+1) t 0 hd (by decide) (by rw [List.drop_zero];exact List.prefix_rfl);obtain ⟨g1,e3⟩:=Zjc H (n+6) t h1 (by lia) (by lia) hk hl;rw [eF] at e3;obtain ⟨g2,r,e4,q4⟩:=Zhm H 6 (n+1) t (h1++g1++[.lst F]) hd (by lia);have lh1:h1.length=h.length+2:=by rw [<- eh1];simp
 generalize eh3:h1++g1++[.lst F]++g2=h3 at e4 q4;have i3:h3[h.length]? = some (.lst (t.places.map T.d)):=by
   rw [<- eh3,Oz,Oz,Oe (by lia)];exact i1
 have j3:h3[(h1++g1).length]? = some (.lst F):=by
   rw [<- eh3,Oz (h1++g1)];simp
 have l3:h.length+2<=(h1++g1).length:=by rw [OA];lia
 have k3:=Gn.Zj j3;generalize (h1++g1).length=jj at *;have e5:=ZpC (U:=P.tbl (n+8)) (S:=vg t (some (.ref h.length)) (some (.ref jj)) none) (e:=.call (O "_law_free") (.cons (.var 0) .nil)) (ZN e4 rfl) q4 (by lia) hl hk;rw [eF] at e5;have a4:∀ m o,h3[m]? = some o->(h3++[DO.lst F])[m]? = some o:=fun m o e=>by rw [Oe (Gn.Zj e)];exact e
 have q5:IV.Zam true (.ref jj) (.ref h3.length) (h3++[.lst F])=.ok (.bl false) (h3++[.lst F]):=Zew (n:=true) (ss:=Z3 (ddS (lf t))) (by rw [eF];exact a4 _ _ j3) (by rw [eF];simp);have x6:Zap .clr (.ref h.length) [] (h3++[.lst F])=.ok .non ((h3++[DO.lst F]).set h.length (DO.lst [])):=by
   simp only [Zap,a4 _ _ i3];rfl
 generalize eh4:h3++[DO.lst F]=h4 at *;have l4:h4.length=h3.length+1:=by rw [<- eh4];simp
 have j4:(h4.set h.length (DO.lst []))[jj]? = some (.lst F):=by rw [Oc (by lia)];exact a4 _ _ j3
 have fl:F.length<1000:=by
   rw [<- eF,List.length_map,(ZU _).length_eq];lia
 have x7:=Zf2 (d:=.str (O "x")) j4 (by rw [sizeLine_eq];lia);generalize eh6:(h4.set h.length (DO.lst [])).set jj (DO.lst (F++[.str (O "x")]))=h6 at x7;have q6:h6[h3.length]? = some (.lst F):=by rw [<- eh6,Oc (by lia),Oc (by lia),<- eh4];simp
 have l6:h6.length=h4.length:=by rw [<- eh6];simp
 have e8:=Gn.ZfO H.t H.pl (n+6) t h6 (by lia);generalize eh7:h6++[DO.lst (t.places.map T.d),DO.lst []]=h7 at e8;have i7:h7[h6.length]? = some (.lst (t.places.map T.d)):=by rw [<- eh7];simp
 obtain ⟨g3,e9⟩:=Zjc H (n+6) t h7 (by lia) (by lia) hk hl;rw [eF] at e9;have q9:IV.Zam false (.ref (h7++g3).length) (.ref h3.length) (h7++g3++[.lst F])=.ok (.bl true) (h7++g3++[.lst F]):=Zew (n:=false) (ss:=Z3 (ddS (lf t))) (by rw [eF];simp) (by
   rw [eF,Oz,Oe (by rw [<- eh7,OA];lia),<- eh7,Oe (by lia)];exact q6)
 have sp:=Gn.Zdr t;obtain ⟨g,eg⟩:=kept (h:=h) (h':=h7++g3++[.lst F]) (by rw [<- eh7];simp;lia) (fun m hm=>by
   rw [Oz,Oe (by rw [<- eh7];simp;lia),<- eh7,Oe (by lia),<- eh6,Oc (by lia),Oc (by lia),<- eh4,Oe (by lia),<- eh3,Oz,Oz,Oe (by lia),<- eh1,Oe hm])
 refine ⟨g,?_⟩;rw [<- eg];have y2:xs1 (P.tbl (n+8)) Zbs (vg t (some (.ref h.length)) none none) h1=.ok (.nx,vg t (some (.ref h.length)) none none) h1:=by
   refine (ZD (Znj (Zpc rfl i1) (ZaI (b:=false) ((Zo (ZN e2 rfl) (ZbN (Zg rfl rfl) (ZeB i1))).trans ?_)))).trans rfl;rw [ZeX,Zdw,List.length_map];simp [T.size]
 have y5:xs1 (P.tbl (n+8)) Zbr (vg t (some (.ref h.length)) (some (.ref jj)) (some (.ref h3.length))) h4=.ok (.nx,vg t (some (.ref h.length)) (some (.ref jj)) (some (.ref h3.length))) h4 :=
   (ZD (Znj (Zpc rfl (a4 _ _ j3)) (ZaI (b:=false) ((Zo rfl rfl).trans (ZeX.trans q5))))).trans rfl
 have y8:ev (P.tbl (n+8)) (.ands (.cons (.cmp .Gt (.blt .len (.cons (.call (O "places") (.cons (.var 0) .nil)) .nil)) (.cst (.int 0))) (.cons (.cmp .Eq (.call (O "free_names") (.cons (.var 0) .nil)) (.var 3)) .nil))) (vg t (some (.ref h.length)) (some (.ref jj)) (some (.ref h3.length))) h6=.ok (.bl true) (h7++g3++[.lst F]):=by
   rw [ZlK,ZiD];have z1:ev (P.tbl (n+8)) (.cmp .Gt (.blt .len (.cons (.call (O "places") (.cons (.var 0) .nil)) .nil)) (.cst (.int 0))) (vg t (some (.ref h.length)) (some (.ref jj)) (some (.ref h3.length))) h6=.ok (.bl true) h7:=(Zo (ZbN (Zg (ZN e8 rfl) rfl) (ZeB i7)) rfl).trans (by rw [Znr,List.length_map];simp;lia);rw [z1,Zn,ZiE];exact (Zo (ZN e9 rfl) rfl).trans (ZeZ.trans q9)
 have w:xs2 (P.tbl (n+8)) ZcS (vg t none none none) h=.ok (.rt (.bl true),vg t (some (.ref h.length)) (some (.ref jj)) (some (.ref h3.length))) (h7++g3++[.lst F]) :=
   (Za (Zu (i:=1) (ZN e1 rfl))).trans ((Za y2).trans ((Za (Zu (i:=2) (ZN e3 rfl))).trans ((Za (Zu (i:=3) e5)).trans ((Za y5).trans ((Za (ZhO (ZlH rfl (a4 _ _ i3) rfl x6))).trans ((Za (ZhO (ZlH rfl j4 rfl x7))).trans (Zc (ZA y8))))))))
 exact congrArg Zm w
end Fr
end
section
set_option exponentiation.threshold 3000
namespace Fr
open PySem L2 IV Tm K02L
open Gn (dep Zy Wl lt1 ltr Zk nmQ Up)
variable {P:Pg}
noncomputable def mi(c k:Int):Int:=(c % 1000003+1) * (48271+2 * k * k) % 2147483647
noncomputable def mix(c k:Int):Int:=mi c k * (mi c k % 65537+k) % 2147483629
theorem Zhl (H:Lw P) (n:Nat) (c k:Int) (h:Hd) (hk:0<=k/\k<1000):run P (n+1) (O "_law_mixed") [.int c,.int k] h=.ok (.int (mix c k)) h:=by
 rw [Zq H.law_mixed rfl];have b1:2 * k * k<=2000 * 1000:=Int.mul_le_mul (by lia) (by lia) (by lia) (by lia);have b2:0<=2 * k * k:=Int.mul_nonneg (by lia) (by lia);have b3:0<=mi c k/\mi c k<2147483647:=⟨Int.emod_nonneg _ (by decide),Int.emod_lt_of_pos _ (by decide)⟩
 have e1:opB .Mod (.int c) (.int 1000003) h=.ok (.int (c % 1000003)) h:=ZI (by decide);have e2:opB .Mult (.int 2) (.int k) h=.ok (.int (2 * k)) h:=Za1 ⟨Gn.Zr (by decide) (by decide),Gn.Zr (by lia) (by lia)⟩;have e3:opB .Mult (.int (2 * k)) (.int k) h=.ok (.int (2 * k * k)) h:=Za1 ⟨Gn.Zr (by lia) (by lia),Gn.Zr (by lia) (by lia)⟩;have e4:opB .Mult (.int (c % 1000003+1)) (.int (48271+2 * k * k)) h=.ok (.int ((c % 1000003+1) * (48271+2 * k * k))) h:=Za1 ⟨Gn.Zr (by lia) (by lia),Gn.Zr (by lia) (by lia)⟩;have e5:opB .Mod (.int ((c % 1000003+1) * (48271+2 * k * k))) (.int 2147483647) h=.ok (.int (mi c k)) h:=ZI (by decide);have e6:opB .Mod (.int (mi c k)) (.int 65537) h=.ok (.int (mi c k % 65537)) h:=ZI (by decide);have e7:opB .Mult (.int (mi c k)) (.int (mi c k % 65537+k)) h=.ok (.int (mi c k * (mi c k % 65537+k))) h:=Za1 ⟨Gn.Zr (by lia) (by lia),Gn.Zr (by lia) (by lia)⟩;have e8:opB .Mod (.int (mi c k * (mi c k % 65537+k))) (.int 2147483629) h=.ok (.int (mix c k)) h:=ZI (by decide);have x1:xs1 (P.tbl n) Zbx [some (.int c),some (.int k),none] h=.ok (.nx,[some (.int c),some (.int k),some (.int (mi c k))]) h:=Zu (i:=2) ((Zb ((Zb ((Zb ((Zb rfl rfl).trans e1) rfl).trans rfl) ((Zb rfl ((Zb ((Zb rfl rfl).trans e2) rfl).trans e3)).trans rfl)).trans e4) rfl).trans e5);have w:xs2 (P.tbl n) ZcU [some (.int c),some (.int k),none] h=.ok (.rt (.int (mix c k)),[some (.int c),some (.int k),some (.int (mi c k))]) h:=(Za x1).trans (Zc (ZA ((Zb ((Zb rfl ((Zb ((Zb rfl rfl).trans e6) rfl).trans rfl)).trans e7) rfl).trans e8)));exact congrArg Zm w
noncomputable def St2(h:Hd)(i j:Nat)(cs:List Int)(a:Nat):Prop:=h[i]? = some (.lst [.ref j,.int (a:Int)])/\h[j]? = some (.lst (cs.map .int))/\i≠j
theorem St2.app(s:St2 h i j cs a):St2 (h++g) i j cs a:=⟨by rw [Oe (Gn.Zj s.1)];exact s.1,by rw [Oe (Gn.Zj s.2.1)];exact s.2.1,s.2.2⟩
theorem ZoO(e:h[i]? = some (.lst [x,y])):ZaK (.ref i) (.int 1) v h=.ok () (h.set i (.lst [x,v])):=by
 simp only [ZaK,e];rfl
theorem ZmW (H:Lw P) (n:Nat) {h:Hd} (st:St2 h i j cs a):∃ v,run P (n+1) (O "_law_next") [.ref i] h=.ok (.int v) (h.set i (.lst [.ref j,.int ((a+1:Nat):Int)]))/\St2 (h.set i (.lst [.ref j,.int ((a+1:Nat):Int)])) i j cs (a+1):=by
 obtain ⟨h1,h2,ne⟩:=st;rw [Zq H.law_next rfl];have i1:=Gn.Zj h1;have i2:(h.set i (.lst [.ref j,.int ((a+1:Nat):Int)]))[i]? = some (.lst [.ref j,.int ((a+1:Nat):Int)]):=by rw [Ol i1]
 have i3:(h.set i (.lst [.ref j,.int ((a+1:Nat):Int)]))[j]? = some (.lst (cs.map .int)):=by rw [Oc ne];exact h2
 have x1:xs1 (P.tbl n) Zb6 [some (.ref i),none] h=.ok (.nx,[some (.ref i),some (.int a)]) h:=Zu (i:=1) ((ZE rfl rfl).trans ((Zx h1).trans rfl));have x2:xs1 (P.tbl n) Zb5 [some (.ref i),some (.int a)] h=.ok (.nx,[some (.ref i),some (.int a)]) (h.set i (.lst [.ref j,.int ((a+1:Nat):Int)])):=Zjg (x:=.int ((a+1:Nat):Int)) rfl rfl rfl (ZoO h1);generalize h.set i (.lst [.ref j,.int ((a+1:Nat):Int)])=h' at *;have e0:ev (P.tbl n) (.ix (.var 0) (.cst (.int 0))) [some (.ref i),some (.int a)] h'=.ok (.ref j) h':=(ZE rfl rfl).trans ((Zx i2).trans rfl);have tt:tst (P.tbl n) Zb2 [some (.ref i),some (.int a)] h'=.ok (decide ((a:Int)<(cs.map D.int).length)) h':=Zpk rfl (ZbN (Zg e0 rfl) (ZeB i3));rw [List.length_map] at tt;by_cases hc:a<cs.length
 . have hat:atI (cs.map D.int) (a:Int)=some (.int cs[a]):=by rw [IV.ZaA,On,Og hc];rfl
   refine ⟨cs[a],?_,i2,i3,ne⟩;have w:xs2 (P.tbl n) ZbO [some (.ref i),none] h=.ok (.rt (.int cs[a]),[some (.ref i),some (.int a)]) h':=(Za x1).trans ((Za x2).trans (Zc ((Z0 (ZK tt (decide_eq_true (by lia)))).trans (Zc (ZA ((ZE e0 rfl).trans ((Zx i3).trans (by rw [hat];rfl))))))));exact congrArg Zm w
 . refine ⟨0,?_,i2,i3,ne⟩;have w:xs2 (P.tbl n) ZbO [some (.ref i),none] h=.ok (.rt (.int 0),[some (.ref i),some (.int a)]) h':=(Za x1).trans ((Za x2).trans ((Za ((ZD (ZK tt (decide_eq_false (by lia)))).trans rfl)).trans (Zc (ZA rfl))));exact congrArg Zm w
noncomputable def raw(c p k:Int)(js:List Int):List Nat:=js.map fun j=>ltr ((mix c j+k * 4 * (if j=p then 1 else 0)) % 26)
noncomputable def Sl(l:List Nat):Str:=⟨l.toArray⟩
noncomputable def vn(c sz p:Int)(q:Nat)(k tx j:Option D):Ev:=[some (.int c),some (.str Zk),some (.int sz),some (.int p),some (.ref q),k,tx,j]
theorem Zkw(l:List Nat)(k:Int):Sl l++lt1 k=Sl (l++[ltr k]):=by
 show (⟨l.toArray++#[ltr k]⟩:Str)=⟨(l++[ltr k]).toArray⟩
 simp
theorem ZeQ(l:List Nat):(Sl l).length=l.length:=by simp [Sl,Str.length]
theorem ZjI(H:Lw P)(n:Nat)(hk:0<=k/\k<100):∀ (js:List Int) (acc:List Nat) (o:Option D),PyData.strOk (Sl acc)=true->acc.length+js.length<=100->(∀ j∈js,0<=j/\j<1000) ->
   ∃ o',ZL [] (.nm 7) (xs2 (P.tbl (n+1)) ZaC) (js.map .int) (vn c sz p q (some (.int k)) (some (.str (Sl acc))) o) h=.ok (.nx,vn c sz p q (some (.int k)) (some (.str (Sl (acc++raw c p k js)))) o') h/\PyData.strOk (Sl (acc++raw c p k js))=true
 | [],acc,o,w,_,_=>⟨o,by simp [raw],by simpa [raw] using w⟩
 | j::js,acc,o,w,hz,hj=>by
   rw [Os] at hz;have e1:=Zhl H n c j h (hj j (.head _));have m1:opB .Mult (.int k) (.int 4) h=.ok (.int (k * 4)) h:=Za1 ⟨Gn.Zr (by lia) (by lia),Gn.Zr (by decide) (by decide)⟩;have m2:opB .Mult (.int (k * 4)) (.int (if j=p then 1 else 0)) h=.ok (.int (k * 4 * (if j=p then 1 else 0))) h:=Za1 ⟨Gn.Zr (by lia) (by lia),Gn.Zr (by split<;>decide) (by split<;>decide)⟩;obtain ⟨lt,lw⟩:=Gn.ZnB (GD:=P.GD) (h:=h) ((mix c j+k * 4 * (if j=p then 1 else 0)) % 26) (by lia) (by lia);obtain ⟨ct,cw⟩:=Gn.ZlQ (h:=h) (x:=Sl acc) (a:=acc.length) ⟨w,by rw [ZeQ];exact Oq _⟩ lw (by lia);rw [Zkw] at ct cw;obtain ⟨o',e2,w2⟩:=ZjI H n (c:=c) (sz:=sz) (p:=p) (q:=q) (h:=h) hk js (acc++[ltr ((mix c j+k * 4 * (if j=p then 1 else 0)) % 26)]) (some (.int j)) cw.1 (by simp;lia) (fun x hx=>hj x (.tail _ hx));have el:acc++raw c p k (j::js)=acc++[ltr ((mix c j+k * 4 * (if j=p then 1 else 0)) % 26)]++raw c p k js:=by simp [raw]
   rw [el];refine ⟨o',(Zcn (ρ1:=vn c sz p q (some (.int k)) (some (.str (Sl acc))) (some (.int j))) rfl ?_).trans e2,w2⟩;have eq:ev (P.tbl (n+1)) (.cmp .Eq (.var 7) (.var 3)) (vn c sz p q (some (.int k)) (some (.str (Sl acc))) (some (.int j))) h=.ok (.bl (decide (j=p))) h:=(Zo rfl rfl).trans (by rw [ZeZ,Zdw];rfl);have ei:ev (P.tbl (n+1)) (.blt .int (.cons (.cmp .Eq (.var 7) (.var 3)) .nil)) (vn c sz p q (some (.int k)) (some (.str (Sl acc))) (some (.int j))) h=.ok (.int (if j=p then 1 else 0)) h:=ZbN (Zg eq rfl) (by show R.ok (D.int (if decide (j=p)=true then 1 else 0)) h=_;simp);exact (Za (Zu (i:=6) ((Zb rfl ((ZE (x:=.str Zk) rfl ((Zb ((Zb (ZN e1 rfl) ((Zb ((Zb rfl rfl).trans m1) ei).trans m2)).trans rfl) rfl).trans (ZI (by decide)))).trans lt)).trans ct))).trans rfl
noncomputable def nm(c p k:Int)(js:List Int):Str:=nmQ (Sl (raw c p k js))
theorem Zmh(H:Lw P)(n:Nat){js:List Int}(hsz:Zab sz=true)(hj:ZR 0 sz.toNat=js.map .int)(hs:(js.length:Int)=sz)(h8:js.length<=20)(hb:∀ j∈js,0<=j/\j<1000):∀ (ks:List Int) (fo:List Str) (k tx o:Option D),fo.length+ks.length<=100->(∀ k∈ks,0<=k/\k<100) ->
   ∃ k' tx' o',ZL [] (.nm 5) (xs2 (P.tbl (n+1)) Zbg) (ks.map .int) (vn c sz p h.length k tx o) (h++[.lst (fo.map .str)])=.ok (.nx,vn c sz p h.length k' tx' o') (h++[.lst ((fo++ks.map fun k=>nm c p k js).map .str)])/\∀ k∈ks,Wl 20 (nm c p k js)
 | [],fo,k,tx,o,_,_=>⟨k,tx,o,by simp,by simp⟩
 | k::ks,fo,k0,tx,o,hz,hk=>by
   rw [Os] at hz;obtain ⟨o1,e1,w1⟩:=ZjI H n (c:=c) (sz:=sz) (p:=p) (q:=h.length) (h:=h++[.lst (fo.map .str)]) (hk k (.head _)) js [] o (by decide +kernel) (by simp;lia) hb;rw [OB] at e1 w1;have wl:Wl 20 (Sl (raw c p k js)):=⟨w1,by rw [ZeQ,raw,List.length_map];exact h8⟩
   have rl:(Sl (raw c p k js)).length=sz:=by rw [ZeQ,raw,List.length_map];exact hs
   obtain ⟨k',tx',o',e2,w2⟩:=Zmh H n (c:=c) (sz:=sz) (p:=p) (h:=h) hsz hj hs h8 hb ks (fo++[nm c p k js]) (some (.int k)) (some (.str (nm c p k js))) o1 (by simp;lia) (fun x hx=>hk x (.tail _ hx));have wn:Wl 20 (nm c p k js):=by
     unfold nm nmQ;split
     . exact (Gn.Zmf (h:=[]) wl (by decide)).2
     . exact wl
   refine ⟨k',tx',o',(Zcn (ρ1:=vn c sz p h.length (some (.int k)) tx o) rfl (ρ2:=vn c sz p h.length (some (.int k)) (some (.str (nm c p k js))) o1) (h2:=h++[.lst ((fo++[nm c p k js]).map .str)]) ?_).trans (e2.trans (by simp)),fun x hx=>by
     rcases O2.mp hx with rfl|hx
     . exact wn
     . exact w2 x hx⟩
   have y2:xs1 (P.tbl (n+1)) ZaH (vn c sz p h.length (some (.int k)) (some (.str (Sl []))) o) (h++[.lst (fo.map .str)])=.ok (.nx,vn c sz p h.length (some (.int k)) (some (.str (Sl (raw c p k js)))) o1) (h++[.lst (fo.map .str)]):=by
     have ei:evi (P.tbl (n+1)) ZaD (vn c sz p h.length (some (.int k)) (some (.str (Sl []))) o) (h++[.lst (fo.map .str)])=.ok ⟨[],js.map .int⟩ (h++[.lst (fo.map .str)]):=by
       show (if Zab sz=true then R.ok (⟨[],ZR 0 sz.toNat⟩:Wk) (h++[.lst (fo.map .str)]) else .bad)=_;rw [if_pos hsz,hj]
     exact (ZdF ei).trans e1
   have i4:tst (P.tbl (n+1)) ZaF (vn c sz p h.length (some (.int k)) (some (.str (Sl (raw c p k js)))) o1) (h++[.lst (fo.map .str)])=.ok (decide (Sl (raw c p k js)∈[O "fn",O "rec",O "call",O "if"])) (h++[.lst (fo.map .str)]):=ZaI ((Zo (x:=.str (Sl (raw c p k js))) rfl (ZgX (xs:=[.str (O "fn"),.str (O "rec"),.str (O "call"),.str (O "if")]) rfl (by decide))).trans Gn.in4);have y3:xs1 (P.tbl (n+1)) ZaG (vn c sz p h.length (some (.int k)) (some (.str (Sl (raw c p k js)))) o1) (h++[.lst (fo.map .str)])=.ok (.nx,vn c sz p h.length (some (.int k)) (some (.str (nm c p k js))) o1) (h++[.lst (fo.map .str)]):=by
     unfold nm nmQ;by_cases hin:Sl (raw c p k js)∈[O "fn",O "rec",O "call",O "if"]
     . rw [if_pos hin];have rq:=(Gn.Zmf (h:=h++[.lst (fo.map .str)]) wl (by decide)).1;rw [rl] at rq;exact (Z0 (ZK i4 (decide_eq_true hin))).trans ((Za (Zu (i:=6) ((Zb rfl rfl).trans rq))).trans rfl)
     . rw [if_neg hin];exact (ZD (ZK i4 (decide_eq_false hin))).trans rfl
   have y4:=ZhO (ZlH (U:=P.tbl (n+1)) (S:=vn c sz p h.length (some (.int k)) (some (.str (nm c p k js))) o1) (o:=.var 4) (es:=.cons (.var 6) .nil) rfl ZpN rfl (Zf2 (d:=.str (nm c p k js)) (ZpN (h:=h) (x:=.lst (fo.map .str)) (r:=[])) (by rw [sizeLine_eq,List.length_map];lia)));rw [show (h++[DO.lst (fo.map .str)]).set h.length (.lst (fo.map .str++[.str (nm c p k js)]))=h++[.lst ((fo++[nm c p k js]).map .str)] by simp] at y4;exact (Za (Zu (i:=6) (d:=.str (Sl [])) rfl)).trans ((Za y2).trans ((Za y3).trans ((Za y4).trans rfl)))
theorem Zid(hs:p ∉ s)(ht:p ∉ t):raw c p k (s++p::t)=(s.map fun j=>ltr (mix c j % 26))++ltr ((mix c p+k * 4) % 26)::(t.map fun j=>ltr (mix c j % 26)):=by
 have z:∀ l:List Int,p ∉ l->(l.map fun j=>ltr ((mix c j+k * 4 * (if j=p then 1 else 0)) % 26))=l.map fun j=>ltr (mix c j % 26):=fun l hl=>List.map_congr_left fun j hj=>by
   have:¬ j=p:=fun e=>hl (e ▸ hj);rw [if_neg this];simp
 unfold raw;rw [List.map_append,Op,z s hs,z t ht,if_pos rfl,Int.mul_one]
theorem Zpb{js:List Int}(hp:p∈js)(nd:js.Nodup):nm c p 0 js≠nm c p 1 js:=by
 obtain ⟨s,t,rfl⟩:=List.append_of_mem hp;have nd:=List.nodup_append.mp nd;have h1:p ∉ s:=fun q=>nd.2.2 p q p (.head _) rfl;have h2:p ∉ t:=(List.nodup_cons.mp nd.2.1).1;have e:∀ k,(Sl (raw c p k (s++p::t))).cps.toList=(s.map fun j=>ltr (mix c j % 26))++ltr ((mix c p+k * 4) % 26)::(t.map fun j=>ltr (mix c j % 26)):=fun k=>by rw [Zid h1 h2];simp [Sl]
 refine Gn.nq (e 0) (e 1) fun q=>?_;have q:=Gn.Zlr ⟨((mix c p+0 * 4) % 26).toNat,by lia⟩ ⟨((mix c p+1 * 4) % 26).toNat,by lia⟩ (by
   show ltr (((mix c p+0 * 4) % 26).toNat:Int)=ltr (((mix c p+1 * 4) % 26).toNat:Int);rw [Int.toNat_of_nonneg (by lia),Int.toNat_of_nonneg (by lia)];exact q)
 have q:=Fin.mk.inj q
 lia
theorem ZkG (H:Lw P) (n:Nat) (c:Int) (h:Hd):∃ ns:List Str,ns.length=5/\(∀ x∈ns,Wl 20 x)/\(∃ a∈ns,∃ b∈ns,a≠b)/\run P (n+2) (O "_law_names") [.int c] h=.ok (.ref h.length) (h++[.lst (ns.map .str)]):=by
 rw [Zq H.law_names rfl];have m8:opB .Mod (.int c) (.int 8) h=.ok (.int (c % 8)) h:=ZI (by decide);have d8:opB .FloorDiv (.int c) (.int 8) h=.ok (.int (c / 8)) h:=Za2 (by decide);have mp:opB .Mod (.int (c / 8)) (.int (1+c % 8)) h=.ok (.int (c / 8 % (1+c % 8))) h:=ZI (by lia);have b1:0<=c % 8/\c % 8<8:=by lia
 have b2:0<=c / 8 % (1+c % 8)/\c / 8 % (1+c % 8)<1+c % 8:=⟨Int.emod_nonneg _ (by lia),Int.emod_lt_of_pos _ (by lia)⟩
 generalize esz:1+c % 8=sz at *;generalize epp:c / 8 % sz=p at *;have hj:ZR 0 sz.toNat=((List.range sz.toNat).map fun (m:Nat)=>(m:Int)).map .int:=by simp [ZR]
 obtain ⟨k',tx',o',e2,w2⟩:=Zmh H n (c:=c) (sz:=sz) (p:=p) (h:=h) (js:=(List.range sz.toNat).map fun (m:Nat)=>(m:Int)) (by simp [Zab];lia) hj (by simp;lia) (by simp;lia) (fun j hj=>by simp at hj;lia) [0,1,2,3,4] [] none none none (by decide) (by decide);refine ⟨[0,1,2,3,4].map fun k=>nm c p k ((List.range sz.toNat).map fun (m:Nat)=>(m:Int)),rfl,?_,⟨nm c p 0 ((List.range sz.toNat).map fun (m:Nat)=>(m:Int)),by simp,nm c p 1 ((List.range sz.toNat).map fun (m:Nat)=>(m:Int)),by simp,Zpb (List.mem_map.mpr ⟨p.toNat,by simp;lia,by lia⟩) (List.pairwise_map.mpr (List.nodup_range.imp fun ne e=>ne (by lia)))⟩,?_⟩
 . intro x hx;obtain ⟨k,hk,rfl⟩:=List.mem_map.mp hx;exact w2 k hk
 . have x2:xs1 (P.tbl (n+1)) Zbw [some (.int c),some (.str Zk),none,none,none,none,none,none] h=.ok (.nx,[some (.int c),some (.str Zk),some (.int sz),none,none,none,none,none]) h:=Zu (i:=2) ((Zb rfl ((Zb rfl rfl).trans m8)).trans (by rw [<- esz];rfl));have x3:xs1 (P.tbl (n+1)) Zbv [some (.int c),some (.str Zk),some (.int sz),none,none,none,none,none] h=.ok (.nx,[some (.int c),some (.str Zk),some (.int sz),some (.int p),none,none,none,none]) h:=Zu (i:=3) ((Zb ((Zb rfl rfl).trans d8) rfl).trans mp);have x4:xs1 (P.tbl (n+1)) Zbu [some (.int c),some (.str Zk),some (.int sz),some (.int p),none,none,none,none] h=.ok (.nx,vn c sz p h.length none none none) (h++[.lst []]):=Zu (i:=4) (ZgY (xs:=[]) rfl (Nat.zero_le _));have x5:xs1 (P.tbl (n+1)) Zbt (vn c sz p h.length none none none) (h++[.lst []])=_:=(ZdF (w:=⟨[],[0,1,2,3,4].map .int⟩) rfl).trans e2;rw [OB] at x5;have w:xs2 (P.tbl (n+1)) ZcT [some (.int c),none,none,none,none,none,none,none] h=_:=(Za (Zu (i:=1) (d:=.str Zk) rfl)).trans ((Za x2).trans ((Za x3).trans ((Za x4).trans ((Za x5).trans (Zc (ZA rfl))))));exact congrArg Zm w
end Fr
end
section
namespace Fr
open PySem L2 IV Tm K02L
open Gn (dep Zy Wl Up)
variable {P:Pg}
noncomputable def Nm(ns:List Str):T->Prop
 | .num _=>True
 | .name x=>x∈ns
 | .fn x e=>x∈ns/\Nm ns e
 | .rcc f x e=>f∈ns/\x∈ns/\Nm ns e
 | .call f a=>Nm ns f/\Nm ns a
 | .iff c a b=>Nm ns c/\Nm ns a/\Nm ns b
 | .op _ a b=>Nm ns a/\Nm ns b
theorem ZaN:∀ {t:T},Nm ns t->∀ x∈lf t,x∈ns
 | .num _,_,x,hx=>by cases hx
 | .name y,n,x,hx=>by rw [Ox.mp hx];exact n
 | .fn y e,n,x,hx=>ZaN n.2 x (List.mem_filter.mp hx).1
 | .rcc f y e,n,x,hx=>ZaN n.2.2 x (List.mem_filter.mp hx).1
 | .call f a,n,x,hx=>by rcases OD.mp hx with q|q;exact ZaN n.1 x q;exact ZaN n.2 x q
 | .iff c a b,n,x,hx=>by
   rcases OD.mp hx with q|q
   . exact ZaN n.1 x q
   . rcases OD.mp q with q|q;exact ZaN n.2.1 x q;exact ZaN n.2.2 x q
 | .op w a b,n,x,hx=>by rcases OD.mp hx with q|q;exact ZaN n.1 x q;exact ZaN n.2 x q
theorem ZjC{α:Type}:∀ (l m:List α),l.Nodup->(∀ x∈l,x∈m)->l.length<=m.length
 | [],m,_,_=>Nat.zero_le _
 | x::l,m,nd,s=>by
   obtain ⟨a,b,rfl⟩:=List.append_of_mem (s x (.head _));obtain ⟨n1,n2⟩:=List.nodup_cons.mp nd;have:=ZjC l (a++b) n2 fun y hy=>by
     rcases OD.mp (s y (.tail _ hy)) with q|q
     . exact List.mem_append_left _ q
     . rcases O2.mp q with q|q
       . exact absurd (q ▸ hy) n1
       . exact Ov _ q
   simp at this ⊢
   lia
theorem ZM:∀ (d:Nat) (t:T),dep t<=d->2 * t.size+1<=3 ^ (d+1)
 | d,.num _,_=>by have:3 ^ 1<=3 ^ (d+1):=Nat.pow_le_pow_right (by decide) (by lia);simp [T.size,T.places];lia
 | d,.name _,_=>by have:3 ^ 1<=3 ^ (d+1):=Nat.pow_le_pow_right (by decide) (by lia);simp [T.size,T.places];lia
 | 0,.fn x e,h=>by simp [dep] at h
 | 0,.rcc f x e,h=>by simp [dep] at h
 | 0,.call f e,h=>by simp [dep] at h
 | 0,.iff c x e,h=>by simp [dep] at h
 | 0,.op c x e,h=>by simp [dep] at h
 | d+1,.fn x e,h=>by have:=ZM d e (by simp [dep] at h;lia);simp [T.size,T.places,Nat.pow_succ] at *;lia
 | d+1,.rcc f x e,h=>by have:=ZM d e (by simp [dep] at h;lia);simp [T.size,T.places,Nat.pow_succ] at *;lia
 | d+1,.call f a,h=>by have:=ZM d f (by simp [dep] at h;lia);have:=ZM d a (by simp [dep] at h;lia);simp [T.size,T.places,Nat.pow_succ] at *;lia
 | d+1,.op w f a,h=>by have:=ZM d f (by simp [dep] at h;lia);have:=ZM d a (by simp [dep] at h;lia);simp [T.size,T.places,Nat.pow_succ] at *;lia
 | d+1,.iff c f a,h=>by have:=ZM d c (by simp [dep] at h;lia);have:=ZM d f (by simp [dep] at h;lia);have:=ZM d a (by simp [dep] at h;lia);simp [T.size,T.places,Nat.pow_succ] at *;lia
theorem at5{ns:List Str}(h5:ns.length=5)(z:Int)(h0:0<=z/\z<5):∃ x∈ns,atI (ns.map D.str) z=some (.str x):=by
 obtain ⟨k,rfl⟩:∃ k:Nat,z=k:=⟨z.toNat,by lia⟩
 have hk:k<ns.length:=by lia
 exact ⟨ns[k],List.getElem_mem hk,by rw [IV.ZaA,On,Og hk];rfl⟩
theorem ZjB{U:Tb}{e:Ex}{ns:List Str}(h5:ns.length=5)(hm:h[m]? = some (.lst (ns.map .str)))(p:ev U a S h=.ok (.ref m) h)(q:ev U e S h=.ok (.int z) h):∃ x∈ns,ev U (.ix a (.bin .Mod e (.cst (.int 5)))) S h=.ok (.str x) h:=by
 obtain ⟨x,hx,e1⟩:=at5 h5 (z % 5) (by lia);exact ⟨x,hx,(ZE p ((Zb q rfl).trans (ZI (by decide)))).trans ((Zx hm).trans (by rw [e1];rfl))⟩
theorem or3{U:Tb}{a b c:Tx}{x y z:Bool}(p:tst U a S h=.ok x h)(q:tst U b S h=.ok y h)(r:tst U c S h=.ok z h):tst U (.ors (.cons a (.cons b (.one c)))) S h=.ok (x || y || z) h:=by
 rw [Zc9,ZS,p,Zn];cases x
 . simp only [OG,if_false,Bool.false_or];rw [ZS,q,Zn];cases y
   . simp only [OG,if_false,Bool.false_or];exact r
   . rfl
 . rfl
theorem or2{U:Tb}{a b:Tx}{x y:Bool}(p:tst U a S h=.ok x h)(q:tst U b S h=.ok y h):tst U (.ors (.cons a (.one b))) S h=.ok (x || y) h:=by
 cases x
 . exact (Znj p q).trans (by simp)
 . exact (ZqD p).trans (by simp)
noncomputable def vd(i m:Nat)(room c s:Int)(o p:Option D):Ev:=[some (.ref i),some (.ref m),some (.int room),some (.int c),some (.int s),o,p]
inductive Dr(ns:List Str)(cs:List Int)(i j:Nat)(h:Hd)(a r:Nat)(x:R D):Prop
 | mk (t:T) (h':Hd) (a':Nat) (e:x=.ok t.d h') (u:Up i h h') (s:St2 h' i j cs a') (l:a<a') (n:Nm ns t) (d:dep t<=r)
noncomputable def DrA (P:Pg) (ns:List Str) (cs:List Int) (i j m r:Nat):Prop:=∀ (n:Nat) (h:Hd) (a:Nat) (room:Int),room=r->St2 h i j cs a->h[m]? = some (.lst (ns.map .str))->Dr ns cs i j h a r (run P (n+r+2) (O "_law_drawn") [.ref i,.ref m,.int room] h)
theorem wd5 (z:Int) (h0:0<=z/\z<5):∃ w:Str,atI [D.str (O "+"),.str (O "-"),.str (O "*"),.str (O "<"),.str (O "call")] z=some (.str w)/\(w=O "call" \/ ∃ v:Wd,w=v.s):=by
 have:z=0\/z=1\/z=2\/z=3\/z=4:=by lia
 rcases this with rfl|rfl|rfl|rfl|rfl
 . exact ⟨_,rfl,.inr ⟨.add,rfl⟩⟩
 . exact ⟨_,rfl,.inr ⟨.sub,rfl⟩⟩
 . exact ⟨_,rfl,.inr ⟨.mul,rfl⟩⟩
 . exact ⟨_,rfl,.inr ⟨.lt,rfl⟩⟩
 . exact ⟨_,rfl,.inl rfl⟩
theorem Zj6(H:Lw P){ns:List Str}(h5:ns.length=5)(im:m≠i){r:Nat}(ih:∀ r',r=r'+1->DrA P ns cs i j m r'):DrA P ns cs i j m r:=by
 intro n h a room hr st hm;rw [Zq H.law_drawn rfl];obtain ⟨c,e1,s1⟩:=ZmW H (n+r) st;have u1:Up i h (h.set i (.lst [.ref j,.int ((a+1:Nat):Int)])):=Up.set;generalize h.set i (.lst [.ref j,.int ((a+1:Nat):Int)])=h1 at *;have m1:=u1.at hm im;have x1:xs1 (P.tbl (n+r+1)) ZbF [some (.ref i),some (.ref m),some (.int room),none,none,none,none] h=.ok (.nx,[some (.ref i),some (.ref m),some (.int room),some (.int c),none,none,none]) h1:=Zu (i:=3) (ZN e1 rfl);have x2:xs1 (P.tbl (n+r+1)) ZbE [some (.ref i),some (.ref m),some (.int room),some (.int c),none,none,none] h1=.ok (.nx,vd i m room c (c / 11) none none) h1:=Zu (i:=4) ((Zb rfl rfl).trans (Za2 (by decide)));generalize c / 11=s at *;have y12:xs2 (P.tbl (n+r+1)) ZG [some (.ref i),some (.ref m),some (.int room),none,none,none,none] h=xs2 (P.tbl (n+r+1)) (tlS (tlS ZG)) (vd i m room c s none none) h1:=(Za x1).trans (Za x2);have c11:∀ (o p:Option D) (hh:Hd),ev (P.tbl (n+r+1)) (.bin .Mod (.var 3) (.cst (.int 11))) (vd i m room c s o p) hh=.ok (.int (c % 11)) hh:=fun o p hh=>(Zb rfl rfl).trans (ZI (by decide));have t3:tst (P.tbl (n+r+1)) Zbp (vd i m room c s none none) h1=.ok (decide (c % 11<2) || decide (room=0) || decide ((cs.map D.int).length<((a+1:Nat):Int))) h1 :=
   or3 (Zpk (c11 _ _ _) rfl) (Zg0 rfl rfl) (ZqN ((ZE rfl rfl).trans ((Zx s1.1).trans rfl)) (ZbN (Zg ((ZE rfl rfl).trans ((Zx s1.1).trans rfl)) rfl) (ZeB s1.2.1)))
 cases hb:(decide (c % 11<2) || decide (room=0) || decide ((cs.map D.int).length<((a+1:Nat):Int))) with
 | true =>
   rw [hb] at t3;have q3:tst (P.tbl (n+r+1)) Zar (vd i m room c s none none) h1=.ok (decide (s % 3=0)) h1:=Zg0 ((Zb rfl rfl).trans (ZI (by decide))) rfl;by_cases hs:s % 3=0
   . obtain ⟨v,ev4,_⟩:=Gn.at4 (a:=0) (b:=999999) (c:=s / 12 % 1000000) (d:=s / 12 % 10) (s / 3 % 4) (by lia) (by lia);have d12:∀ hh,ev (P.tbl (n+r+1)) (.bin .FloorDiv (.var 4) (.cst (.int 12))) (vd i m room c s none none) hh=.ok (.int (s / 12)) hh:=fun hh=>(Zb rfl rfl).trans (Za2 (by decide));have z:=Zmw (U:=P.tbl (n+r+1)) (S:=vd i m room c s none none) (h:=h1) (es:=.cons (.cst (.int 0)) (.cons (.cst (.int 999999)) (.cons (.bin .Mod (.bin .FloorDiv (.var 4) (.cst (.int 12))) (.cst (.int 1000000))) (.cons (.bin .Mod (.bin .FloorDiv (.var 4) (.cst (.int 12))) (.cst (.int 10))) .nil)))) (e:=.bin .Mod (.bin .FloorDiv (.var 4) (.cst (.int 3))) (.cst (.int 4))) ev4 (Zg rfl (Zg rfl (Zg ((Zb (d12 _) rfl).trans (ZI (by decide))) (Zg ((Zb (d12 _) rfl).trans (ZI (by decide))) rfl)))) ((Zb ((Zb rfl rfl).trans (Za2 (by decide))) rfl).trans (ZI (by decide))) (by simp);have fin:=(congrArg Zm y12).trans (congrArg Zm (Zc ((Z0 t3).trans (Zc ((Z0 (ZK q3 (decide_eq_true hs))).trans (Zc (ZA (ZgX (xs:=[_,_]) (Zg rfl (Zg z rfl)) (show 2<=1000 by decide)))))))));exact ⟨.num v,_,a+1,fin,u1.trans Up.app,s1.app,by lia,trivial,Nat.zero_le _⟩
   . obtain ⟨x,hx,z⟩:=ZjB (U:=P.tbl (n+r+1)) (S:=vd i m room c s none none) (h:=h1) (a:=.var 1) (e:=.bin .FloorDiv (.var 4) (.cst (.int 3))) h5 m1 rfl ((Zb rfl rfl).trans (Za2 (by decide)));refine ⟨.name x,h1,a+1,?_,u1,s1,by lia,hx,Nat.zero_le _⟩;exact (congrArg Zm y12).trans (congrArg Zm (Zc ((Z0 t3).trans ((Za ((ZD (ZK q3 (decide_eq_false hs))).trans rfl)).trans (Zc (ZA (ZgX (xs:=[_,_]) (Zg rfl (Zg z rfl)) (show 2<=1000 by decide))))))))
 | false =>
   rw [hb] at t3;have hc2:¬ c % 11<2/\room≠0:=by
     simp only [Bool.or_eq_false_iff,decide_eq_false_iff_not] at hb;exact ⟨hb.1.1,hb.1.2⟩
   obtain ⟨r',rfl⟩:∃ r',r=r'+1:=⟨r - 1,by lia⟩
   have ih:=ih r' rfl;have y3:xs1 (P.tbl (n+(r'+1)+1)) ZbD (vd i m room c s none none) h1=.ok (.nx,vd i m room c s none none) h1:=(ZD t3).trans rfl;obtain ⟨t1,g1,a1,e2,v1,s2,l1,n1,d1⟩:=ih n h1 (a+1) (room - 1) (by lia) s1 m1;have m2:=v1.at m1 im;have y4:xs1 (P.tbl (n+(r'+1)+1)) ZbC (vd i m room c s none none) h1=.ok (.nx,vd i m room c s (some t1.d) none) g1:=Zu (i:=5) (ZN e2 rfl);have y34:xs2 (P.tbl (n+(r'+1)+1)) (tlS (tlS ZG)) (vd i m room c s none none) h1=xs2 (P.tbl (n+(r'+1)+1)) (tlS (tlS (tlS (tlS ZG)))) (vd i m room c s (some t1.d) none) g1:=(Za y3).trans (Za y4);have t5:tst (P.tbl (n+(r'+1)+1)) Zbo (vd i m room c s (some t1.d) none) g1=.ok (decide (c % 11=2) || decide (c % 11=3)) g1:=or2 (Zg0 (c11 _ _ _) rfl) (Zg0 (c11 _ _ _) rfl);obtain ⟨x,hx,zx⟩:=ZjB (U:=P.tbl (n+(r'+1)+1)) (S:=vd i m room c s (some t1.d) none) (h:=g1) (a:=.var 1) (e:=.var 4) h5 m2 rfl rfl;by_cases h23:c % 11=2\/c % 11=3
   . refine ⟨.fn x t1,g1,a1,?_,u1.trans v1,s2,by lia,⟨hx,n1⟩,by simp only [dep];lia⟩;exact (congrArg Zm (y12.trans y34)).trans (congrArg Zm (Zc ((Z0 (ZK t5 (by simpa using h23))).trans (Zc (ZA (ZgX (xs:=[_,_,_]) (Zg rfl (Zg zx (Zg rfl rfl))) (show 3<=1000 by decide)))))))
   have y5:xs1 (P.tbl (n+(r'+1)+1)) ZbB (vd i m room c s (some t1.d) none) g1=.ok (.nx,vd i m room c s (some t1.d) none) g1:=(ZD (ZK t5 (by simpa using h23))).trans rfl;have t6:tst (P.tbl (n+(r'+1)+1)) Zbn (vd i m room c s (some t1.d) none) g1=.ok (decide (c % 11=4)) g1:=Zg0 (c11 _ _ _) rfl;obtain ⟨y,hy,zy⟩:=ZjB (U:=P.tbl (n+(r'+1)+1)) (S:=vd i m room c s (some t1.d) none) (h:=g1) (a:=.var 1) (e:=.bin .FloorDiv (.var 4) (.cst (.int 5))) h5 m2 rfl ((Zb rfl rfl).trans (Za2 (by decide)));by_cases h4:c % 11=4
   . refine ⟨.rcc x y t1,g1,a1,?_,u1.trans v1,s2,by lia,⟨hx,hy,n1⟩,by simp only [dep];lia⟩;exact (congrArg Zm (y12.trans y34)).trans (congrArg Zm ((Za y5).trans (Zc ((Z0 (ZK t6 (decide_eq_true h4))).trans (Zc (ZA (ZgX (xs:=[_,_,_,_]) (Zg rfl (Zg zx (Zg zy (Zg rfl rfl)))) (show 4<=1000 by decide))))))))
   have y6:xs1 (P.tbl (n+(r'+1)+1)) ZbA (vd i m room c s (some t1.d) none) g1=.ok (.nx,vd i m room c s (some t1.d) none) g1:=(ZD (ZK t6 (decide_eq_false h4))).trans rfl;obtain ⟨t2,g2,a2,e3,v2,s3,l2,n2,d2⟩:=ih n g1 a1 (room - 1) (by lia) s2 m2;have m3:=v2.at m2 im;have y7:xs1 (P.tbl (n+(r'+1)+1)) Zbz (vd i m room c s (some t1.d) none) g1=.ok (.nx,vd i m room c s (some t1.d) (some t2.d)) g2:=Zu (i:=6) (ZN e3 rfl);have y57:xs2 (P.tbl (n+(r'+1)+1)) (tlS (tlS (tlS (tlS ZG)))) (vd i m room c s (some t1.d) none) g1=xs2 (P.tbl (n+(r'+1)+1)) (tlS (tlS (tlS (tlS (tlS (tlS (tlS ZG))))))) (vd i m room c s (some t1.d) (some t2.d)) g2:=(Za y5).trans ((Za y6).trans (Za y7));have t8:tst (P.tbl (n+(r'+1)+1)) Zbm (vd i m room c s (some t1.d) (some t2.d)) g2=.ok (decide (c % 11=5)) g2:=Zg0 (c11 _ _ _) rfl;by_cases h5':c % 11=5
   . obtain ⟨t3',g3,a3,e4,v3,s4,l3,n3,d3⟩:=ih n g2 a2 (room - 1) (by lia) s3 m3;refine ⟨.iff t1 t2 t3',g3,a3,?_,u1.trans (v1.trans (v2.trans v3)),s4,by lia,⟨n1,n2,n3⟩,by simp only [dep];lia⟩;exact (congrArg Zm (y12.trans (y34.trans y57))).trans (congrArg Zm (Zc ((Z0 (ZK t8 (decide_eq_true h5'))).trans (Zc (ZA (ZgX (xs:=[_,_,_,_]) (Zg rfl (Zg rfl (Zg rfl (Zg (ZN e4 rfl) rfl)))) (show 4<=1000 by decide)))))))
   have y8:xs1 (P.tbl (n+(r'+1)+1)) Zby (vd i m room c s (some t1.d) (some t2.d)) g2=.ok (.nx,vd i m room c s (some t1.d) (some t2.d)) g2:=(ZD (ZK t8 (decide_eq_false h5'))).trans rfl;obtain ⟨w,zw,hw⟩:=wd5 (c % 11 - 6) (by lia);have z:=Zmw (U:=P.tbl (n+(r'+1)+1)) (S:=vd i m room c s (some t1.d) (some t2.d)) (h:=g2) (es:=.cons (.cst (.str (O "+"))) (.cons (.cst (.str (O "-"))) (.cons (.cst (.str (O "*"))) (.cons (.cst (.str (O "<"))) (.cons (.cst (.str (O "call"))) .nil))))) (e:=.bin .Sub (.bin .Mod (.var 3) (.cst (.int 11))) (.cst (.int 6))) zw rfl ((Zb (c11 _ _ _) rfl).trans rfl) (by simp);have fin:=(congrArg Zm (y12.trans (y34.trans y57))).trans (congrArg Zm ((Za y8).trans (Zc (ZA (ZgX (xs:=[_,_,_]) (Zg z (Zg rfl (Zg rfl rfl))) (show 3<=1000 by decide))))));rcases hw with rfl|⟨v,rfl⟩
   . exact ⟨.call t1 t2,_,a2,fin,u1.trans (v1.trans (v2.trans Up.app)),s3.app,by lia,⟨n1,n2⟩,by simp only [dep];lia⟩
   . exact ⟨.op v t1 t2,_,a2,fin,u1.trans (v1.trans (v2.trans Up.app)),s3.app,by lia,⟨n1,n2⟩,by simp only [dep];lia⟩
theorem Zhn(H:Lw P){ns:List Str}(h5:ns.length=5)(im:m≠i):∀ r,DrA P ns cs i j m r
 | 0=>Zj6 H h5 im fun r' e=>by lia
 | r+1=>Zj6 H h5 im fun r' e=>by cases e;exact Zhn H h5 im r
end Fr
end
section
namespace Fr
open PySem L2 IV Tm K02L
open Gn (dep Zy Wl Up)
variable {P:Pg}
noncomputable def ZnY:Ex:=.ite (.ex (.blt .isi (.cons (.var 0) (.cons (.cst (.ty "tuple")) .nil)))) (.call (O "_law_apart") (.cons (.var 0) (.cons (.var 1) .nil))) (.var 0)
theorem Zpq{U:Tb}{c:Tx}(e:tst U c S h=.ok true h1):ev U (.ite c a b) S h=ev U a S h1:=by rw [Zj2,e];rfl
theorem Zpr{U:Tb}{c:Tx}(e:tst U c S h=.ok false h1):ev U (.ite c a b) S h=ev U b S h1:=by rw [Zj2,e];rfl
theorem Zka{U:Tb}{e:Ex}{acc:List D}(hz:acc.length<=100000)(q:ev U e (some d::S) h=.ok x h1):Zv [] (.nm 0) (tsto U none) (ev U e) (d::ds) (none::S) acc h=Zv [] (.nm 0) (tsto U none) (ev U e) ds (none::S) (acc++[x]) h1:=by
 rw [Zay,if_pos ⟨rfl,by rw [sizeLine_eq];lia⟩];show (ev U e (some d::S) h).plain.bnd _=_;rw [q];rfl
theorem Zh2{U:Tb}:∀ (fs rest acc:List D),(∀ d∈fs,Gn.Zax d=true)->acc.length+fs.length<1000->Zv [] (.nm 0) (tsto U none) (ev U ZnY) (fs++rest) [none,some (.ref m)] acc h=Zv [] (.nm 0) (tsto U none) (ev U ZnY) rest [none,some (.ref m)] (acc++fs) h
 | [],rest,acc,_,_=>by simp
 | d::fs,rest,acc,hf,hz=>by
   rw [Os] at hz;have ih:=Zh2 (U:=U) (m:=m) (h:=h) fs rest (acc++[d]) (fun x hx=>hf x (.tail _ hx)) (by simp;lia);exact (Zka (by lia) ((Zpr (ZjN (hf d (.head _)) rfl)).trans rfl)).trans (ih.trans (by simp))
theorem Zgq {U:Tb}{nd:List D}{D0:Nat}:∀ (ss:List T) (acc:List D) (h:Hd),(∀ s∈ss,∀ h:Hd,h[m]? = some (.lst nd)->∃ s' g,U.C (O "_law_apart") [s.d,.ref m] h=.ok (T.d s') (h++g)/\Nm ns s'/\dep s'+1<=D0)->h[m]? = some (.lst nd)->acc.length+ss.length<1000 ->
   ∃ (ss':List T) (g:Hd),Zv [] (.nm 0) (tsto U none) (ev U ZnY) (ss.map T.d) [none,some (.ref m)] acc h=.ok (acc++ss'.map T.d) (h++g)/\ss'.length=ss.length/\∀ s∈ss',Nm ns s/\dep s+1<=D0
 | [],acc,h,_,_,_=>⟨[],[],by simp [Zv,Wk.stays],rfl,by simp⟩
 | s::ss,acc,h,hc,hm,hz=>by
   rw [Os] at hz;obtain ⟨s',g1,e1,n1,d1⟩:=hc s (.head _) h hm;obtain ⟨ss',g2,e2,l2,q2⟩:=Zgq (U:=U) (m:=m) (ns:=ns) (nd:=nd) (D0:=D0) ss (acc++[s'.d]) (h++g1) (fun x hx=>hc x (.tail _ hx)) (by rw [Oe (Gn.Zj hm)];exact hm) (by simp;lia);refine ⟨s'::ss',g1++g2,(Zka (by lia) ((Zpq (ZjM s rfl)).trans (ZN e1 rfl))).trans (e2.trans (by simp)),by simp [l2],fun x hx=>?_⟩;rcases O2.mp hx with rfl|hx
   . exact ⟨n1,d1⟩
   . exact q2 x hx
noncomputable def va(t:T)(m:Nat)(o:Option D):Ev:=[some t.d,some (.ref m),o]
theorem ZkK(e:h[i]? = some (.lst (x::y::r))):ZaK (.ref i) (.int 1) v h=.ok () (h.set i (.lst (x::v::r))):=by
 simp only [ZaK,e];rw [show ixN (x::y::r).length 1=some 1 by simp [ixN];lia];rfl
theorem Zpn{α:Type}{l:List α}(h:l.length=1):∃ a,l=[a]:=by match l,h with|[a],_=>exact ⟨a,rfl⟩
theorem Zpm{α:Type}{l:List α}(h:l.length=2):∃ a b,l=[a,b]:=by match l,h with|[a,b],_=>exact ⟨a,b,rfl⟩
theorem ZqI{α:Type}{l:List α}(h:l.length=3):∃ a b c,l=[a,b,c]:=by match l,h with|[a,b,c],_=>exact ⟨a,b,c,rfl⟩
theorem apart1 (H:Lw P) (k:Nat) (t:T) {h:Hd}{D0:Nat} (hd:dep t<=D0) (hn:Nm ns t) (two:∃ a∈ns,∃ b∈ns,a≠b) (h5:ns.length=5) (hm:h[m]? = some (.lst (ns.map .str))) (hc:∀ s∈t.parts,∀ h:Hd,h[m]? = some (.lst (ns.map .str))->∃ s' g,run P k (O "_law_apart") [s.d,.ref m] h=.ok (T.d s') (h++g)/\Nm ns s'/\dep s'+1<=D0) :
   ∃ t' g,run P (k+1) (O "_law_apart") [t.d,.ref m] h=.ok (T.d t') (h++g)/\Nm ns t'/\dep t'<=D0:=by
 have hl:=Zfp t;obtain ⟨ss,g,e2,l2,q2⟩:=Zgq (U:=P.tbl k) (m:=m) (ns:=ns) (nd:=ns.map .str) (D0:=D0) t.parts (fr t) h hc hm (by cases t<;>simp [fr,T.parts]);have ft:∀ d∈fr t,Gn.Zax d=true:=by cases t<;>simp [fr,Gn.Zax]
 have e1:=Zh2 (U:=P.tbl k) (m:=m) (h:=h) (fr t) (t.parts.map T.d) [] ft (by cases t<;>simp [fr]);have x1:xs1 (P.tbl k) ZbH (va t m none) h=.ok (.nx,va t m (some (.ref (h++g).length))) (h++g++[.lst (fr t++ss.map T.d)]):=by
   refine Zu (i:=2) (ZeG (w:=⟨[],fr t++t.parts.map T.d⟩) (Zfb (congrArg (fun d=>R.ok d h) (Zq0 t))) ?_);rw [OB] at e1;exact e1.trans e2
 have ql:(h++g++[DO.lst (fr t++ss.map T.d)])[(h++g).length]? = some (.lst (fr t++ss.map T.d)):=by simp
 have pl:∀ w ds,t.d=.tup (.str w::ds)->w≠O "rec" -> ∀ t':T,t'.d=.tup (fr t++ss.map T.d)->Nm ns t'->dep t'<=D0->∃ t' g,run P (k+1) (O "_law_apart") [t.d,.ref m] h=.ok (T.d t') (h++g)/\Nm ns t'/\dep t'<=D0:=fun w ds e ne t' ht nt dt=>by
   refine ⟨t',g++[.lst (fr t++ss.map T.d)],?_,nt,dt⟩;rw [Zq H.law_apart rfl,ht,<- Oz];have w:xs2 (P.tbl k) Zaf (va t m none) h=.ok (.rt (.tup (fr t++ss.map T.d)),va t m (some (.ref (h++g).length))) (h++g++[.lst (fr t++ss.map T.d)]):=(Za x1).trans ((Za ((ZD (Zkf (ZK (ZcZ ((ZE rfl rfl).trans (by rw [e];exact Zlw)) rfl) (decide_eq_false ne)))).trans rfl)).trans (Zc (ZA (ZbN (Zg rfl rfl) (ZiW ql)))));exact congrArg Zm w
 cases t with
 | num z=>exact pl _ _ rfl (by simp) (.num z) (by have:ss=[]:=List.length_eq_zero_iff.mp l2;rw [this];rfl) trivial (Nat.zero_le _)
 | name x=>exact pl _ _ rfl (by simp) (.name x) (by have:ss=[]:=List.length_eq_zero_iff.mp l2;rw [this];rfl) hn (Nat.zero_le _)
 | fn x e =>
   obtain ⟨a,rfl⟩:=Zpn l2;have qa:=q2 a (.head _);exact pl _ _ rfl (by simp) (.fn x a) rfl ⟨hn.1,qa.1⟩ (by simp only [dep];lia)
 | call f e =>
   obtain ⟨a,b,rfl⟩:=Zpm l2;have qa:=q2 a (.head _);have qb:=q2 b (.tail _ (.head _));exact pl _ _ rfl (by simp) (.call a b) rfl ⟨qa.1,qb.1⟩ (by simp only [dep];lia)
 | op w f e =>
   obtain ⟨a,b,rfl⟩:=Zpm l2;have qa:=q2 a (.head _);have qb:=q2 b (.tail _ (.head _));exact pl _ _ rfl (by simp) (.op w a b) rfl ⟨qa.1,qb.1⟩ (by simp only [dep];lia)
 | iff c f e =>
   obtain ⟨a,b,d,rfl⟩:=ZqI l2;have qa:=q2 a (.head _);have qb:=q2 b (.tail _ (.head _));have qd:=q2 d (.tail _ (.tail _ (.head _)));exact pl _ _ rfl (by simp) (.iff a b d) rfl ⟨qa.1,qb.1,qd.1⟩ (by simp only [dep];lia)
 | rcc f x e =>
   obtain ⟨a,rfl⟩:=Zpn l2;have qa:=q2 a (.head _);have t2:tst (P.tbl k) Zbq (va (.rcc f x e) m (some (.ref (h++g).length))) (h++g++[.lst (fr (.rcc f x e)++[a].map T.d)])=.ok (decide (f=x)) (h++g++[.lst (fr (.rcc f x e)++[a].map T.d)]):=Zke (ZK (ZcZ (x:=O "rec") rfl rfl) (decide_eq_true rfl)) (ZcZ (x:=f) (y:=x) rfl rfl);by_cases fx:f=x
   . generalize eh:h++g++[DO.lst (fr (.rcc f x e)++[a].map T.d)]=h1 at *;have m1:h1[m]? = some (.lst (ns.map .str)):=by rw [<- eh,Oz,Oe (Gn.Zj hm)];exact hm
     have c:=ZdS (U:=P.tbl k) (e0:=[some (T.rcc f x e).d]) (p:=fun y=>decide (y≠x)) (tx:=.ex (.cmp .NotEq (.var 0) (.ix (.var 1) (.cst (.int 2))))) m1 (fun y=>(Zlo (x:=y) (y:=x) rfl rfl).trans (by rw [Zmr Iff.rfl])) ns [] (by simp;lia);rw [OB] at c;rcases ef:ns.filter (fun y=>decide (y≠x)) with _|⟨y,r⟩
     . obtain ⟨p,hp,q,hq,ne⟩:=two;have fl:=List.filter_eq_nil_iff.mp ef;have:p=x:=by have:=fl p hp;simpa using this
       have:q=x:=by have:=fl q hq;simpa using this
       exact absurd (by rw [‹p=x›,‹q=x›]) ne
     have hy:y∈ns:=(List.mem_filter.mp (by rw [ef];exact .head _)).1;rw [ef] at c;have z:ev (P.tbl k) (.ix (.comp [(O "_law_name"),(O "_law_told")] [none,some 0] (.pl (.var 1)) (.nm 0) (some (.ex (.cmp .NotEq (.var 0) (.ix (.var 1) (.cst (.int 2)))))) (.var 0)) (.cst (.int 0))) (va (.rcc f x e) m (some (.ref (h++g).length))) h1=.ok (.str y) (h1++[.lst ((y::r).map .str)]):=(ZE (ZeG (Zfc rfl m1) c) rfl).trans ((Zx (xs:=(y::r).map .str) (by simp)).trans (by rw [Op,Zkd];rfl));have l1:=Gn.Zj ql;have ql':(h1++[DO.lst ((y::r).map .str)])[(h++g).length]? = some (.lst (.str (O "rec")::.str f::[.str x,a.d])):=by rw [Oe l1];exact ql
     have y2:xs1 (P.tbl k) ZbG (va (.rcc f x e) m (some (.ref (h++g).length))) h1=.ok (.nx,va (.rcc f x e) m (some (.ref (h++g).length))) ((h1++[DO.lst ((y::r).map .str)]).set (h++g).length (DO.lst (.str (O "rec")::.str y::[.str x,a.d]))):=(Z0 (ZK t2 (decide_eq_true fx))).trans ((Za (Zjg z rfl rfl (ZkK ql'))).trans rfl);have y3:((h1++[DO.lst ((y::r).map .str)]).set (h++g).length (DO.lst (.str (O "rec")::.str y::[.str x,a.d])))[(h++g).length]? = some (.lst (.str (O "rec")::.str y::[.str x,a.d])):=by rw [Ol (Gn.Zj ql')]
     obtain ⟨g',eg⟩:=kept (h:=h) (h':=(h1++[DO.lst ((y::r).map .str)]).set (h++g).length (DO.lst (.str (O "rec")::.str y::[.str x,a.d]))) (by rw [<- eh];simp) (fun j hj=>by
       rw [Oc (by rw [OA];lia),<- eh,Oz,Oz,Oe hj])
     rw [eg] at y2 y3;refine ⟨.rcc y x a,g',?_,⟨hy,hn.2.1,qa.1⟩,by simp only [dep];lia⟩;rw [Zq H.law_apart rfl];have w:xs2 (P.tbl k) Zaf (va (.rcc f x e) m none) h=.ok (.rt (T.rcc y x a).d,va (.rcc f x e) m (some (.ref (h++g).length))) (h++g'):=(Za x1).trans ((Za y2).trans (Zc (ZA (ZbN (Zg rfl rfl) (ZiW y3)))));exact congrArg Zm w
   . refine ⟨.rcc f x a,g++[.lst (fr (.rcc f x e)++[a].map T.d)],?_,⟨hn.1,hn.2.1,qa.1⟩,by simp only [dep];lia⟩;rw [Zq H.law_apart rfl,<- Oz];have w:xs2 (P.tbl k) Zaf (va (.rcc f x e) m none) h=.ok (.rt (T.rcc f x a).d,va (.rcc f x e) m (some (.ref (h++g).length))) (h++g++[.lst (fr (.rcc f x e)++[a].map T.d)]):=(Za x1).trans ((Za ((ZD (ZK t2 (decide_eq_false fx))).trans rfl)).trans (Zc (ZA (ZbN (Zg rfl rfl) (ZiW ql)))));exact congrArg Zm w
theorem Zlm{t s:T}(n:Nm ns t)(hs:s∈t.parts):Nm ns s:=by
 cases t<;>simp [T.parts] at hs
 . subst hs;exact n.2
 . subst hs;exact n.2.2
 . rcases hs with rfl|rfl;exact n.1;exact n.2
 . rcases hs with rfl|rfl|rfl;exact n.1;exact n.2.1;exact n.2.2
 . rcases hs with rfl|rfl;exact n.1;exact n.2
theorem Zho (H:Lw P) (two:∃ a∈ns,∃ b∈ns,a≠b) (h5:ns.length=5):∀ (D0 n:Nat) (t:T) (h:Hd),dep t<=D0->Nm ns t->h[m]? = some (.lst (ns.map .str))->∃ t' g,run P (n+D0+1) (O "_law_apart") [t.d,.ref m] h=.ok (T.d t') (h++g)/\Nm ns t'/\dep t'<=D0
 | 0,n,t,h,hd,hn,hm=>apart1 H (n+0) t hd hn two h5 hm fun s q=>by have:=Zy q;lia
 | D0+1,n,t,h,hd,hn,hm=>apart1 H (n+(D0+1)) t hd hn two h5 hm fun s q h' hm'=>by
   obtain ⟨t',g,a,b,c⟩:=Zho H two h5 D0 n s h' (by have:=Zy q;lia) (Zlm hn q) hm';exact ⟨t',g,a,b,by lia⟩
theorem ZqJ{U:Tb}{a b:Ex}(p:ev U a S h=.ok (.int x) h1)(q:ev U b S h1=.ok (.int y) h2):tst U (.ex (.cmp .LtE a b)) S h=.ok (decide (x<=y)) h2:=ZaI (Zo p q)
noncomputable def vl(s:D)(i m:Nat):Ev:=[some s,some (.ref i),some (.ref m)]
theorem Zmi(H:Lw P){ns:List Str}(two:∃ a∈ns,∃ b∈ns,a≠b)(h5:ns.length=5)(ok:∀ x∈ns,Wl 20 x)(im:m≠i):∀ (F a:Nat) (h:Hd),cs.length+1 - a<F->St2 h i j cs a->h[m]? = some (.lst (ns.map .str))->∃ h',ZO (tst (P.tbl 250) Zfm) (xs2 (P.tbl 250) ZhA) F (vl s i m) h=.ok (.nx,vl s i m) h'
 | 0,a,h,hf,_,_=>by lia
 | F+1,a,h,hf,st,hm=>by
   have tt:tst (P.tbl 250) Zfm (vl s i m) h=.ok (decide ((a:Int)<=(cs.map D.int).length)) h:=ZqJ ((ZE rfl rfl).trans ((Zx st.1).trans rfl)) (ZbN (Zg ((ZE rfl rfl).trans ((Zx st.1).trans rfl)) rfl) (ZeB st.2.1));rw [List.length_map] at tt;by_cases ha:a<=cs.length
   . obtain ⟨t,h1,a1,e1,u1,s1,l1,n1,d1⟩:=Zhn H (cs:=cs) (j:=j) h5 im 6 242 h a 6 rfl st hm;have m1:=u1.at hm im;obtain ⟨t',g1,e2,n2,d2⟩:=Zho H two h5 6 243 t h1 d1 n1 m1;have sz:=ZM 6 t' d2;have s4:t'.size<4000:=Nat.lt_of_le_of_lt (show t'.size<=2187 by have z:3 ^ (6+1)=2187:=rfl;lia) (by decide);obtain ⟨g2,e3⟩:=ZkF H 241 t' (h1++g1) d2 s4 (fun x hx=>(ok x (ZaN n2 x hx)).1) (by
       have:=ZjC (ddS (lf t')) ns (ZhQ _) fun x hx=>ZaN n2 x ((Zcq x _).mp hx)
       lia)
     obtain ⟨h',e4⟩:=Zmi H two h5 ok im (s:=s) (j:=j) (cs:=cs) F a1 (h1++g1++g2) (by lia) s1.app.app (by rw [Oz,Oe (Gn.Zj m1)];exact m1);have z:ev (P.tbl 250) (.call (O "_law_right") (.cons (.call (O "_law_apart") (.cons (.call (O "_law_drawn") (.cons (.var 1) (.cons (.var 2) (.cons (.cst (.int 6)) .nil)))) (.cons (.var 2) .nil))) .nil)) (vl s i m) h=.ok (.bl true) (h1++g1++g2):=ZN e3 (Zg (ZN e2 (Zg (ZN e1 rfl) rfl)) rfl);exact ⟨h',(Zg7 (ZK tt (decide_eq_true (by lia))) ((Za ((ZD (Znw (b:=true) (ZaI z))).trans rfl)).trans rfl)).trans e4⟩
   . exact ⟨h,Zg8 (ZK tt (decide_eq_false (by lia)))⟩
theorem ZdN(H:Lw P)(hk:h[k]? = some (.lst xs0)):∀ (xs:List Int) (j:Nat) (acc:List Int),acc.length+xs.length<=1000->j+xs.length<=900->∃ cs:List Int,cs.length=acc.length+xs.length /\
   Zv [(k,xs0)] (.two 0 1) (tsto (P.tbl (n+1)) none) (ev (P.tbl (n+1)) (.call (O "_law_mixed") (.cons (.var 1) (.cons (.var 0) .nil)))) (xs.mapIdx fun q x=>D.tup [.int ((q+j:Nat):Int),.int x]) [none,none] (acc.map .int) h
     = .ok (cs.map .int) h
 | [],j,acc,_,_=>⟨acc,by simp,by simp [Zv,Wk.stays,hk]⟩
 | x::xs,j,acc,h1,h2=>by
   simp only [Os] at h1 h2;obtain ⟨cs,q1,q2⟩:=ZdN H (n:=n) hk xs (j+1) (acc++[mix x (j:Int)]) (by simp;lia) (by lia);refine ⟨cs,by simp at q1;simp;lia,?_⟩;have e1:=Zhl H n x (j:Int) h ⟨by lia,by lia⟩;have hz:acc.length<sizeLine:=by rw [sizeLine_eq];lia
   have ei:(fun (q:Nat) (x:Int)=>D.tup [.int ((q+1+j:Nat):Int),.int x])=fun q x=>D.tup [.int ((q+(j+1):Nat):Int),.int x]:=by
     funext q x;rw [show q+1+j=q+(j+1) by lia]
   have st:Wk.stays [(k,xs0)] h=true:=by simp [Wk.stays,hk]
   have z:ev (P.tbl (n+1)) (.call (O "_law_mixed") (.cons (.var 1) (.cons (.var 0) .nil))) [some (.int ((0+j:Nat):Int)),some (.int x)] h=.ok (.int (mix x (j:Int))) h:=by rw [Nat.zero_add];exact ZN e1 rfl
   rw [List.mapIdx_cons,Zay,if_pos ⟨st,by rw [List.length_map];exact hz⟩];show (ev (P.tbl (n+1)) (.call (O "_law_mixed") (.cons (.var 1) (.cons (.var 0) .nil))) [some (.int ((0+j:Nat):Int)),some (.int x)] h).plain.bnd _=_;rw [z];show Zv [(k,xs0)] (.two 0 1) (tsto (P.tbl (n+1)) none) (ev (P.tbl (n+1)) (.call (O "_law_mixed") (.cons (.var 1) (.cons (.var 0) .nil)))) _ [none,none] (acc.map .int++[.int (mix x (j:Int))]) h=_;rw [ei];rw [List.map_append] at q2;exact q2
theorem ZoI (H:Lw P) (ns:List Int) (hl:ns.length<=63):∃ h',run P (250+1) (O "law") [.ro (ns.map .int)] []=.ok (.bl true) h':=by
 rw [Zq H.law rfl];obtain ⟨zs,ez,lz⟩:∃ zs:List Int,cutD (ns.map .int) none (some 96)=zs.map .int/\zs.length<=63:=by
   unfold cutD;rw [<- List.map_drop,<- List.map_take];exact ⟨_,rfl,by simp;lia⟩
 have e0:ev (P.tbl 250) (.bin .Add (.lstl (.cons (.cst (.int 0)) .nil)) (.sl (.var 0) none (some (.cst (.int 96))))) [some (.ro (ns.map .int)),none,none] []=.ok (.ref 2) [.lst [.int 0],.lst (zs.map .int),.lst ((0::zs).map .int)]:=by
   refine (Zb (ZgY (xs:=[.int 0]) rfl (by decide)) (y:=.ref 1) (h2:=[.lst [.int 0],.lst (zs.map .int)]) ?_).trans ?_
   . show Zao (.lst (cutD (ns.map .int) none (some 96))) [.lst [.int 0]]=_;rw [ez];rfl
   . exact (add_l (h:=[.lst [.int 0],.lst (zs.map .int)]) (i:=0) (j:=1) rfl rfl (by simp;lia)).trans rfl
 obtain ⟨cs,lc,ec⟩:=ZdN H (n:=249) (h:=[.lst [.int 0],.lst (zs.map .int),.lst ((0::zs).map .int)]) (k:=2) (xs0:=(0::zs).map .int) rfl (0::zs) 0 [] (by simp;lia) (by simp;lia);have ei:evi (P.tbl 250) (.enu (.bin .Add (.lstl (.cons (.cst (.int 0)) .nil)) (.sl (.var 0) none (some (.cst (.int 96)))))) [some (.ro (ns.map .int)),none,none] []=.ok ⟨[(2,(0::zs).map .int)],(0::zs).mapIdx fun q x=>D.tup [.int ((q+0:Nat):Int),.int x]⟩ [.lst [.int 0],.lst (zs.map .int),.lst ((0::zs).map .int)]:=by
   rw [ZlE,e0,Zn];show R.ok (⟨[(2,(0::zs).map .int)],ZaS ((0::zs).map .int)⟩:Wk) _=_;have en:∀ ys:List Int,ZaS (ys.map D.int)=ys.mapIdx fun q x=>D.tup [.int ((q+0:Nat):Int),.int x]:=fun ys=>by
     unfold ZaS;apply List.ext_getElem?;intro q;simp [List.getElem?_mapIdx];cases ys[q]?<;>rfl
   rw [en]
 have x1:xs1 (P.tbl 250) Zh1 [some (.ro (ns.map .int)),none,none] []=.ok (.nx,[some (.ro (ns.map .int)),some (.ref 4),none]) [.lst [.int 0],.lst (zs.map .int),.lst ((0::zs).map .int),.lst (cs.map .int),.lst [.ref 3,.int 1]]:=Zu (i:=1) ((ZgY (h1:=[.lst [.int 0],.lst (zs.map .int),.lst ((0::zs).map .int),.lst (cs.map .int)]) (xs:=[.ref 3,.int 1]) (Zg ((ZeG (h2:=[.lst [.int 0],.lst (zs.map .int),.lst ((0::zs).map .int)]) (xs:=cs.map .int) ei ec).trans rfl) rfl) (by decide)).trans rfl);have st:St2 [.lst [.int 0],.lst (zs.map .int),.lst ((0::zs).map .int),.lst (cs.map .int),.lst [.ref 3,.int 1]] 4 3 cs 1:=⟨rfl,rfl,by decide⟩
 generalize [DO.lst [.int 0],.lst (zs.map .int),.lst ((0::zs).map .int),.lst (cs.map .int),.lst [.ref 3,.int 1]]=h1 at *;obtain ⟨c,cr,rfl⟩:∃ c r,cs=c::r:=by
   rcases cs with _|⟨c,r⟩
   . simp at lc
   . exact ⟨c,r,rfl⟩
 obtain ⟨nn,l5,ok,two,e2⟩:=ZkG H 248 c h1;have x2:xs1 (P.tbl 250) Zh0 [some (.ro (ns.map .int)),some (.ref 4),none] h1=.ok (.nx,vl (.ro (ns.map .int)) 4 h1.length) (h1++[.lst (nn.map .str)]):=Zu (i:=2) (ZN e2 (Zg ((ZE ((ZE rfl rfl).trans ((Zx st.1).trans rfl)) rfl).trans ((Zx st.2.1).trans (by rw [Op,Zkd];rfl))) rfl));obtain ⟨h',e3⟩:=Zmi H two l5 ok (m:=h1.length) (i:=4) (j:=3) (cs:=c::cr) (s:=.ro (ns.map .int)) (by have:=Gn.Zj st.1;lia) P.L 1 (h1++[.lst (nn.map .str)]) (by have:=H.t.big;simp at lc ⊢;lia) st.app (by simp);have x3:xs1 (P.tbl 250) ZhZ (vl (.ro (ns.map .int)) 4 h1.length) (h1++[.lst (nn.map .str)])=.ok (.nx,vl (.ro (ns.map .int)) 4 h1.length) h':=e3;have w:xs2 (P.tbl 250) Zmy [some (.ro (ns.map .int)),none,none] []=.ok (.rt (.bl true),vl (.ro (ns.map .int)) 4 h1.length) h':=(Za x1).trans ((Za x2).trans ((Za x3).trans (Zc (ZA rfl))));exact ⟨h',congrArg Zm w⟩
end Fr
end
section
set_option maxHeartbeats 4000000
namespace K02
open PySem L2 IV PyProof.Rows
noncomputable def cG:List (Str×D):=[((O "FORMS"),.kd (O "FORMS"))]
noncomputable def cD:List (Str×List (Key×D)):=[((O "FORMS"),[(.inr (O "fn"),(.tup [(.int 1),(.int 1)])),(.inr (O "rec"),(.tup [(.int 2),(.int 1)])),(.inr (O "call"),(.tup [(.int 0),(.int 2)])),(.inr (O "if"),(.tup [(.int 0),(.int 3)])),(.inr (O "+"),(.tup [(.int 0),(.int 2)])),(.inr (O "-"),(.tup [(.int 0),(.int 2)])),(.inr (O "*"),(.tup [(.int 0),(.int 2)])),(.inr (O "<"),(.tup [(.int 0),(.int 2)]))])]
noncomputable def dl:List (Str×Fd×Nat):=[((O "bound_names"),K02L.Zbj,2),((O "parts_of"),Gn.ZdI,3),((O "places"),Gn.ZbZ,4),((O "free_names"),K02L.Zb1,5),((O "_law_mixed"),K02L.ZcM,7),((O "_law_next"),K02L.ZdJ,8),((O "_law_names"),K02L.ZcL,9),((O "_law_drawn"),K02L.ZcN,10),((O "_law_apart"),K02L.ZcO,11),((O "_law_walked"),K02L.Zb0,12),((O "_law_free"),K02L.ZdK,13),((O "_law_right"),K02L.ZcK,14),((O "law"),K02L.Zgb,15)]
noncomputable def tb:List (Str×Fd):=dl.map fun p=>(p.1,p.2.1)
noncomputable def ms:List (Str×Fd):=[]
noncomputable def pg:Pg:=⟨tb,fun x=>cG.lookup x,fun x=>cD.lookup x,1000000,ms⟩
noncomputable def kl:Kl:=⟨[],[],[],[],[],[]⟩
noncomputable abbrev Zgb:Fd:=K02L.Zgb
noncomputable def top(i:Nat):Stmt:=PySem.Challenge.pw_samestride_k02_places_and_free_names.main.body.getD i (.Pass ⟨0,0,0,0⟩)
noncomputable def fs:List Str:=tb.map (·.1)
local macro_rules|`(tactic| wtm_at "al")=>`(tactic| repeat' first|exact trivial|refine' And.intro ?_ ?_)
local macro_rules|`(tactic| wtm_at "chk")=>`(tactic| exact ⟨by constructor<;>decide +kernel,fun _ _ _ _ _ _ us hl=>by
   first
   | (have e:=Zom (show us.length=0 from hl);subst e;rfl)
   | (obtain ⟨a0,e⟩:=Zol (show us.length=1 from hl);subst e;rfl)
   | (obtain ⟨a0,a1,e⟩:=Zok (show us.length=2 from hl);subst e;rfl)
   | (obtain ⟨a0,a1,a2,e⟩:=Zp6 (show us.length=3 from hl);subst e;rfl)
   | (obtain ⟨a0,a1,a2,a3,e⟩:=us_4 (show us.length=4 from hl);subst e;rfl)
   | (obtain ⟨a0,a1,a2,a3,a4,e⟩:=us_5 (show us.length=5 from hl);subst e;rfl)
   | (obtain ⟨a0,a1,a2,a3,a4,a5,e⟩:=us_6 (show us.length=6 from hl);subst e;rfl)
   | (obtain ⟨a0,a1,a2,a3,a4,a5,a6,e⟩:=us_7 (show us.length=7 from hl);subst e;rfl),by decide +kernel⟩)
theorem kd:All (fun p:Str×Fd×Nat=>Chk kl fs p.1 p.1 p.2.1 (top p.2.2)) dl:=by
 wtm_at "al"
 all_goals wtm_at "chk"
end K02
end
section
namespace K02
open PySem L2 IV
theorem ZnE:pg.tb.lookup (O "law")=some Zgb:=by kernel_rfl
theorem tre:Gn.Tre pg:=by
 constructor
 all_goals (first|kernel_rfl|decide)
theorem lw:K02L.Lw pg:=by
 constructor;exact tre
 all_goals kernel_rfl
theorem runs:∀ ns:List Int,ns.length<=63->∃ h',run pg (250+1) (O "law") [.ro (ns.map .int)] []=.ok (.bl true) h':=fun ns hl=>Fr.ZoI lw ns hl
end K02
end
section
set_option maxHeartbeats 4000000
namespace K02
open PySem L2 IV PyProof.Rows
theorem tp2 {K:PySem.W.Frag} (h:K.lookup a=some ⟨.type "tuple",od,.seq #[.int x t,.int y u] n,sl⟩):RD ⟨K,mg⟩ H B (.tup [.int x,.int y]) (.ref a):=.tup (ZoE (vs:=[.int x,.int y]) h (by show 2<=sizeLine;decide) (.cons ZfL (.cons ZfL .nil))) (.cons (.int _) (.cons (.int _) .nil))
theorem md{Pr:Program}{w:World}{K:PySem.W.Frag}{h:Heap}{mg:Str->Option Value}(X:K.In h)(G:h.Ns mainGlobals mg)
   (tb0:Zdi K=true)
   (dd:All (fun p:Str×Fd×Nat=>Zoa K p.1 (top p.2.2)) dl)
   (zz:All (fun x:Str=>PySem.W.nsIn K mainGlobals x=some none) ZhY)
   (h112:K.lookup q108=some ⟨.type "tuple",r109,.seq #[.int 1 t113,.int 1 t114] n110,v111⟩)
   (h121:K.lookup q117=some ⟨.type "tuple",r118,.seq #[.int 2 t122,.int 1 t123] n119,v120⟩)
   (h130:K.lookup q126=some ⟨.type "tuple",r127,.seq #[.int 0 t131,.int 2 t132] n128,v129⟩)
   (h139:K.lookup q135=some ⟨.type "tuple",r136,.seq #[.int 0 t140,.int 3 t141] n137,v138⟩)
   (h148:K.lookup q144=some ⟨.type "tuple",r145,.seq #[.int 0 t149,.int 2 t150] n146,v147⟩)
   (h157:K.lookup q153=some ⟨.type "tuple",r154,.seq #[.int 0 t158,.int 2 t159] n155,v156⟩)
   (h166:K.lookup q162=some ⟨.type "tuple",r163,.seq #[.int 0 t167,.int 2 t168] n164,v165⟩)
   (h175:K.lookup q171=some ⟨.type "tuple",r172,.seq #[.int 0 t176,.int 2 t177] n173,v174⟩)
   (g103:PySem.W.nsIn K mainGlobals (O "FORMS")=some (some (.ref q101)))
   (h104:K.lookup q101=some ⟨.type "dict",none,.dict #[⟨j106,.str (O "fn") t107,.ref q108⟩,⟨j115,.str (O "rec") t116,.ref q117⟩,⟨j124,.str (O "call") t125,.ref q126⟩,⟨j133,.str (O "if") t134,.ref q135⟩,⟨j142,.str (O "+") t143,.ref q144⟩,⟨j151,.str (O "-") t152,.ref q153⟩,⟨j160,.str (O "*") t161,.ref q162⟩,⟨j169,.str (O "<") t170,.ref q171⟩] e102,#[]⟩)
   (x178:j106=hashStr w (O "fn"))
   (x179:j115=hashStr w (O "rec"))
   (x180:j124=hashStr w (O "call"))
   (x181:j133=hashStr w (O "if"))
   (x182:j142=hashStr w (O "+"))
   (x183:j151=hashStr w (O "-"))
   (x184:j160=hashStr w (O "*"))
   (x185:j169=hashStr w (O "<"))
   (w105:(q101==sysModules)=false):Md Pr w K mg pg kl:=by
 have D_FORMS:∃ a kvs',mg (O "FORMS")=some (.ref a)/\DkK Pr w K a kvs'/\∀ H B,RKs ⟨K,mg⟩ H B (cD.lookup (O "FORMS") |>.getD []) kvs':=by
   refine ⟨q101,[(Sum.inr (O "fn"),(.ref q108)),(Sum.inr (O "rec"),(.ref q117)),(Sum.inr (O "call"),(.ref q126)),(Sum.inr (O "if"),(.ref q135)),(Sum.inr (O "+"),(.ref q144)),(Sum.inr (O "-"),(.ref q153)),(Sum.inr (O "*"),(.ref q162)),(Sum.inr (O "<"),(.ref q171))],PySem.W.mg_of X G g103,⟨_,_,_,[(Sum.inr (O "fn"),.ref q108),(Sum.inr (O "rec"),.ref q117),(Sum.inr (O "call"),.ref q126),(Sum.inr (O "if"),.ref q135),(Sum.inr (O "+"),.ref q144),(Sum.inr (O "-"),.ref q153),(Sum.inr (O "*"),.ref q162),(Sum.inr (O "<"),.ref q171)],h104,⟨rfl,rfl,rfl⟩,rfl,?_,(.cons (Zi _ t107) rfl (.cons (Zi _ t116) rfl (.cons (Zi _ t125) rfl (.cons (Zi _ t134) rfl (.cons (Zi _ t143) rfl (.cons (Zi _ t152) rfl (.cons (Zi _ t161) rfl (.cons (Zi _ t170) rfl .nil)))))))),(by show ([Sum.inr (O "fn"),Sum.inr (O "rec"),Sum.inr (O "call"),Sum.inr (O "if"),Sum.inr (O "+"),Sum.inr (O "-"),Sum.inr (O "*"),Sum.inr (O "<")]:List Key).Nodup;decide +kernel),(.cons ⟨rfl,ZY⟩ (.cons ⟨rfl,ZY⟩ (.cons ⟨rfl,ZY⟩ (.cons ⟨rfl,ZY⟩ (.cons ⟨rfl,ZY⟩ (.cons ⟨rfl,ZY⟩ (.cons ⟨rfl,ZY⟩ (.cons ⟨rfl,ZY⟩ .nil)))))))),(by show 8<=sizeLine;decide),w105⟩,fun _ _=>(.cons (tp2 h112) (.cons (tp2 h121) (.cons (tp2 h130) (.cons (tp2 h139) (.cons (tp2 h148) (.cons (tp2 h157) (.cons (tp2 h166) (.cons (tp2 h175) .nil))))))))⟩;exact (by
       intro e he;simp only [List.mem_toArray,O2,List.not_mem_nil,or_false] at he;rcases he with rfl|rfl|rfl|rfl|rfl|rfl|rfl|rfl
       . exact ⟨Sum.inr (O "fn"),Zi (O "fn") t107,x178⟩
       . exact ⟨Sum.inr (O "rec"),Zi (O "rec") t116,x179⟩
       . exact ⟨Sum.inr (O "call"),Zi (O "call") t125,x180⟩
       . exact ⟨Sum.inr (O "if"),Zi (O "if") t134,x181⟩
       . exact ⟨Sum.inr (O "+"),Zi (O "+") t143,x182⟩
       . exact ⟨Sum.inr (O "-"),Zi (O "-") t152,x183⟩
       . exact ⟨Sum.inr (O "*"),Zi (O "*") t161,x184⟩
       . exact ⟨Sum.inr (O "<"),Zi (O "<") t170,x185⟩
     )
 refine ⟨tb0,fun x kvs hx=>?_,fun x d hx=>?_,?_,fun x fd hx=>?_,?_,?_,?_,?_,?_⟩
 . have hm:(x,kvs)∈cD:=lookup_mem hx;have e:(x,kvs)=((O "FORMS"),(cD.lookup (O "FORMS") |>.getD [])):=by
     simp only [cD,O2,List.not_mem_nil,or_false] at hm;exact hm
   cases e;exact D_FORMS
 . have hm:(x,d)∈cG:=lookup_mem hx;have all:All (fun p:Str×D=>∃ v u,mg p.1=some u/\RelV v u/\∀ H B,RD ⟨K,mg⟩ H B p.2 v) cG:=⟨⟨.ref q101,_,PySem.W.mg_of X G g103,rfl,fun _ _=>.kd (PySem.W.mg_of X G g103)⟩,trivial⟩
   exact all.mem _ hm
 . exact (ZfY X G zz).mem
 . exact (ZhP X G dd kd).mem _ (lookup_mem hx)
 . have all:All (fun C=>∃ a,mg C=some (.ref a)/\Cls K a/\∀ f∈kl.ats,ZcF K a f) kl.cs:=trivial;exact all.mem
 . exact (show All _ kl.ms from trivial).mem
 . have all:All (fun C:Str=>∃ a f fdd fd st q,mg C=some (.ref a)/\Mk K a f/\pg.look (mnm C (O "__init__"))=some fd/\BodyOk K kl (pg.tb.map (·.1)) (O "__init__") q fd st f fdd) kl.is:=trivial;exact all.mem
 . have all:All (fun C:Str=>∃ a,mg C=some (.ref a)/\XOk K a) kl.xs:=trivial;exact all.mem
 . have all:All (fun p:Str×Str=>∃ a b,mg p.1=some (.ref a)/\mg p.2=some (.ref b)/\XAs K a b) kl.xa:=trivial;exact all.mem
end K02
end
section
set_option maxHeartbeats 4000000
open PySem PySem.W PyProof.Rows
local macro_rules|`(tactic| wtm_at "al")=>`(tactic| repeat' first|exact trivial|refine' And.intro ?_ ?_)
local macro_rules|`(tactic| wtm_at "dg")=>`(tactic| (refine' ⟨_,_,?na,L2.ZjV ?l ?c ?k⟩;(case na=>k_is);(case l=>k_is);(case c=>k_is);(case k=>k_is)))
local macro_rules|`(tactic| wtm_at "mg")=>`(tactic| (refine' ⟨_,_,?na,?f,?k,L2.ZjV ?l ?c ?kk⟩;(case na=>k_is);(case f=>k_is);(case l=>k_is);(case c=>k_is);(case k=>k_is);(case kk=>k_is)))
set_option maxRecDepth 100000 in
set_option maxHeartbeats 0 in
theorem PySem.Challenge.cw_samestride_k02_places_and_free_names_holds : PySem.Challenge.rw_samestride_k02_places_and_free_names.Holds := by
 refine K02hd ?_
 k_fill
 refine IV.Zoj (l:=PySem.Challenge.rw_samestride_k02_places_and_free_names) (P:=K02.pg) 250 rfl rfl rfl ⟨rfl,by decide,by decide,rfl⟩ (kl:=K02.kl) (fun w h Y=>PySem.W.kIn_of Y) K02.ZnE rfl K02.runs ?MM0
 case MM0 =>
   intro w mg h KX G;refine' K02.md KX G ?tb0 ?dd ?zz ?h112 ?h121 ?h130 ?h139 ?h148 ?h157 ?h166 ?h175 ?g103 ?h104 ?x178 ?x179 ?x180 ?x181 ?x182 ?x183 ?x184 ?x185 ?w105
   (case tb0=>(first|k_is|kernel_rfl|decide +kernel))
   (case dd=>(wtm_at "al";all_goals wtm_at "dg"))
   (case zz=>(wtm_at "al";all_goals (dsimp only;k_is)))
   (case g103=>k_is)
   (case h104=>k_is)
   (case h112=>k_is)
   (case h121=>k_is)
   (case h130=>k_is)
   (case h139=>k_is)
   (case h148=>k_is)
   (case h157=>k_is)
   (case h166=>k_is)
   (case h175=>k_is)
   (case x178=>(first|rfl|k_is|fail))
   (case x179=>(first|rfl|k_is|fail))
   (case x180=>(first|rfl|k_is|fail))
   (case x181=>(first|rfl|k_is|fail))
   (case x182=>(first|rfl|k_is|fail))
   (case x183=>(first|rfl|k_is|fail))
   (case x184=>(first|rfl|k_is|fail))
   (case x185=>(first|rfl|k_is|fail))
   (case w105=>rfl)
end
