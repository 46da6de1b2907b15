import PyProof.Rows.All
import Wide.All
import OpenK.AllK
import Wide.FinOn
import PyProof.EqAt
import PyProof.EqKinds
import PyProof.TupleCall
import Lean
import PySem.Challenge.RW_samestride_k44_graph_shares
set_option Elab.async false
set_option linter.all false
set_option maxRecDepth 100000
open PySem.Str renaming ofString->O
open Bool renaming and_eq_true->Oa
open List renaming getElem?_eq_some_iff->Ob
open List renaming getElem?_set_ne->Oc
open PySem.Heap renaming get?_push_of_some->Od
open List renaming getElem?_append_left->Oe
open List renaming size_toArray->Of
open List renaming getElem?_eq_getElem->Og
open List renaming mem_cons_of_mem->Oh
open List renaming mem_cons_self->Oi
open PySem.Heap renaming get?_push_size->Oj
open List renaming mem_of_getElem?->O1
open List renaming getElem?_set_self->Ol
open List renaming getElem?_append_right->Om
open List renaming getElem?_map->On
open Option renaming map_eq_some_iff->Oo
open List renaming map_cons->Op
open Nat renaming le_refl->Oq
open List renaming mem_cons->O2
open List renaming length_cons->Os
open Nat renaming lt_of_lt_of_le->Ot
open Nat renaming ne_of_lt->Ou
open List renaming mem_append_right->Ov
open Bool renaming false_ne_true->Ow
open List renaming mem_singleton->Ox
open List renaming map_nil->Oy
open List renaming append_assoc->Oz
open List renaming length_append->OA
open List renaming nil_append->OB
open List renaming all_eq_true->OC
open List renaming mem_append->OD
open Nat renaming le_trans->OE
open List renaming lookup_cons->OF
open Bool renaming false_eq_true->OG
open Nat renaming lt_succ_self->OH
open List renaming sum_cons->OI
open List renaming getElem?_cons_zero->OJ
open List renaming getElem?_cons_succ->O0
set_option genSizeOf false
section
open PySem PySem.W PyProof.Rows
set_option maxHeartbeats 0
namespace PySem.W.Fast
def tw12004148600502369873:=Nat
def tw3910299014267779358:=Nat
def tw1868895336114798508:=Nat
def tw15652160937359391939:=Nat
def tw4850809188444882824:=Nat
def tw4720151372120473735:=Nat
def tw499377122123698396:=Nat
def tw7629501545822600868:=Nat
def tw538061551438866592:=Nat
def tw6883880414542850633:=Nat
def tw5550327498167375830:=Nat
def tw7727130500068556751:=Nat
def tw7881268862364841182:=Nat
def tw8424835715151455726:=Nat
def tw5401048275808749827:=Nat
def tw10761942839547965288:=Nat
def tw18392985673243737515:=Nat
def tw11467448081275642595:=Nat
def tw14345724933021896339:=Nat
def tw6060830701184278208:=Nat
def tw5971413546007088132:=Nat
def tw4326137241508382745:=Nat
def tw5195254524192749410:=Nat
def tw15906670554099398130:=Nat
def tw11543920375431139848:=Nat
def tw483946488352186856:=Nat
def tw13367793711308795329:=Nat
def tw14840975281630265326:=Nat
def tw5705010642802007209:=Nat
def tw10600433760496068487:=Nat
def tw4677258984609800141:=Nat
def tw14434987506974740373:=Nat
def tw6298225811461679182:=Nat
def tw11279267935990447999:=Nat
def tw1279336050875352646:=Nat
def tw12645218296334493545:=Nat
def tw18013136534886011371:=Nat
def tw6288315912452751400:=Nat
def tw3505966144638577796:=Nat
def tw6683418851388213688:=Nat
def tw6498962982900331203:=Nat
def tw12557908257792538343:=Nat
def tw6372090653135235278:=Nat
def tw16435149897246300586:=Nat
def tw1595275644978827827:=Nat
def tw16806393561602295218:=Nat
def tw532984908510698002:=Nat
def tw10953888238122926152:=Nat
def tw140143817290898576:=Nat
def tw15937228622731911655:=Nat
def tw17469754694297538326:=Nat
def tw16881960398360144545:=Nat
def tw16785203602679667197:=Nat
def tw3321473025197230665:=Nat
def tw786613158797550492:=Nat
def tw10692880822633124453:=Nat
def tw1807371839779634325:=Nat
def tw5024703313064938947:=Nat
def tw124326939852585900:=Nat
def tw2501611695650021748:=Nat
def tw16985906478136799559:=Nat
def tw11436971487654146933:=Nat
def tw6969029431727776374:=Nat
def tw1013167104889159737:=Nat
def tw6010041552319137429:=Nat
def tw8784080866031261786:=Nat
def tw2923007099078622732:=Nat
def tw16897950391388216676:=Nat
def tw7820230959930829971:=Nat
def tw5100232084041210321:=Nat
def tw7247597127082048956:=Nat
def tw14747120743734765602:=Nat
def tw6688603483554120279:=Nat
def tw1559237802745662175:=Nat
def tw7257904507818913766:=Nat
def tw688538108299127522:=Nat
def tw239829342154241009:=Nat
def tw13949737156686390034:=Nat
def tw7948947488557845863:=Nat
def tw18147145433313497949:=Nat
def tw1786058605885345601:=Nat
def tw14600881173187337304:=Nat
def tw12241736778291937474:=Nat
def tw9746787074669594798:=Nat
def tw17111829181041981763:=Nat
def tw14935522162464221113:=Nat
def tw4342665921008080656:=Nat
def tw16274341265825650023:=Nat
def tw7395147034700277308:=Nat
def tw17170416089686705349:=Nat
end PySem.W.Fast
open_top K44hd for PySem.Challenge.rw_samestride_k44_graph_shares
end
section
namespace L2
open PySem PySem.Spec PyProof.Rows
noncomputable abbrev NK:=Int×List Str
section
variable {prog:Program}{w:World}{A:Around}{E:Value->Shared->Prop}{s:Shared}
noncomputable def ZcB (prog:Program) (w:World) (h:Heap) (k:NK) (a:Addr):Prop:=∃ o t b m,h.get? a=some o/\o.cls=.type "tuple" /\ o.data=.seq #[.int k.1 t,.ref b] m/\IsTupleKey (PySem.strKind prog w) h k.2 b
theorem ZcB.typeIs {k:NK} (x:ZcB prog w s.heap k a):s.TypeIs (.ref a) "tuple" := let ⟨o,_,_,_,ho,hc,_⟩:=x;⟨o,ho,hc⟩
theorem ZcB.inj{h:Heap}{x y:NK}(hx:ZcB prog w h x a)(hy:ZcB prog w h y a):x=y:=by
 obtain ⟨o,t,b,m,ho,_,hd,hi⟩:=hx;obtain ⟨o',t',b',m',ho',_,hd',hi'⟩:=hy;obtain rfl:o=o':=Option.some.inj (ho.symm.trans ho');rw [hd] at hd';injection hd' with h1 _;have h1:=congrArg Array.toList h1;simp at h1;obtain ⟨⟨h2,_⟩,rfl⟩:=h1;exact Prod.ext h2 (hi.inj hi')
theorem ZcB.keeps{h h':Heap}{k:NK}{a d:Addr}{o:Obj}{es ep}(x:ZcB prog w h k a)(ho:h.get? d=some o)(hd:o.data=.dict es ep)(hs:Heap.SameBut d h h'):ZcB prog w h' k a:=by
 obtain ⟨o',t,b,m,ho',hc,hd',hi⟩:=x;have hne:a≠d:=by
   rintro rfl;obtain rfl:o'=o:=Option.some.inj (ho'.symm.trans ho);rw [hd] at hd';exact nomatch hd'
 exact ⟨o',t,b,m,(hs.2 a hne).trans ho',hc,hd',hi.keeps ho hd hs⟩
noncomputable def Zib(w:World)(k:NK):Int:=reduceHash (Builtin.Tuple.tupleHashOf [hashInt k.1,reduceHash (Builtin.Tuple.tupleHashOf (k.2.map (hashStr w)))])
theorem ZnK{k:NK}{a:Addr}{Q:Int->Shared->Prop}(hu:A.units+1<cLine)(hk:ZcB prog w s.heap k a)(h:Q (Zib w k) {s with toks:=s.toks+(k.2.length+3)}) :
   wpAny (model prog w) A (pyHash (.ref a)) Q E s:=by
 have hT:=hk.typeIs;obtain ⟨o,t,b,m,ho,_,hd,hi⟩:=hk;unfold pyHash
 first|unfold pyHashByItsType|skip
 first|refine wpAny_bind (wpAny_cRoomFor_or (.inr (by lia)) ?_)|skip
 refine wpAny_bind (wpAny_specialOf hT PySem.F.slot_tuple_hash.lookup ?_);show wpAny _ _ (if (some (Value.builtin "tuple.__hash__")==some Value.none)=true then _ else _) Q E s;rw [if_neg (by rw [beq_builtin_none];exact Ow)];refine wpAny_bind (wpAny_specialOf hT PySem.F.slot_tuple_hash.lookup ?_);show wpAny _ _ (callSpecialIfBoundUnlessNone? (.ref a) "__hash__" _ >>= _) Q E s;refine wpAny_bind (wpAny_callSpecialIfBoundUnlessNone?_slot hT PySem.F.slot_tuple_hash (wpAny_call_entry PySem.F.slot_tuple_hash hT PySem.F.entry_tuple_hash ?_ (PySem.F.args_tuple_hash_1 _)));show wpAny _ _ (Builtin.Tuple.tupleItemsOf (.ref a) >>= _) _ _ s;refine wpAny_bind (wpAny_tupleItemsOf ho hd ?_);refine wpAny_bind ?_;rw [<- Array.forIn_toList];refine wpAny_forIn_list _
   (fun rest (r:Array Int) s'=>(rest=[.int k.1 t,.ref b]/\r=#[]/\s'=s)\/(rest=[.ref b]/\r.toList=[hashInt k.1]/\s'={s with toks:=s.toks+1})\/(rest=[]/\r.toList=[hashInt k.1,reduceHash (Builtin.Tuple.tupleHashOf (k.2.map (hashStr w)))]/\s'={s with toks:=s.toks+1+(k.2.length+1)}))
   _ ?_ ?_ _ _ (.inl ⟨rfl,rfl,rfl⟩)
 . rintro x rest r s' (⟨e,rfl,rfl⟩|⟨e,hr,rfl⟩|⟨e,_⟩)
   . cases e;refine wpAny_bind (wpAny_pyHash_int ?_)
     first
       | exact wpAny_pure (.inr (.inl ⟨rfl,rfl,rfl⟩))
       | exact wpAny_bind (wpAny_pure (wpAny_pure (.inr (.inl ⟨rfl,rfl,rfl⟩))))
   . cases e;refine wpAny_bind (wpAny_pyHash_tuple (knd:=PySem.strKind prog w) (ks:=k.2) ?_ hi ?_)
     . first|exact hu|lia
     . first
         | exact wpAny_pure (.inr (.inr ⟨rfl,by simp [hr];rfl,rfl⟩))
         | exact wpAny_bind (wpAny_pure (wpAny_pure (.inr (.inr ⟨rfl,by simp [hr];rfl,rfl⟩))))
   . cases e
 . rintro r s' (⟨e,_⟩|⟨e,_⟩|⟨_,hr,rfl⟩)
   . cases e
   . cases e
   . show wpAny _ _ (retInt (Builtin.Tuple.tupleHashOf r.toList)) _ _ _;rw [hr];refine wpAny_ret_mkInt ?_;unfold Zib at h;generalize Builtin.Tuple.tupleHashOf [hashInt k.1,reduceHash (Builtin.Tuple.tupleHashOf (k.2.map (hashStr w)))]=z at h;show wpAny _ _ (if (decide (-(2:Int) ^ 63<=z)&&decide (z<2 ^ 63))=true then _ else _) Q E _;unfold reduceHash at h;have e:s.toks+1+(k.2.length+1)+1=s.toks+(k.2.length+3):=by lia
     by_cases hr:(decide (-(2:Int) ^ 63<=z)&&decide (z<2 ^ 63))=true
     . rw [if_pos hr];rw [if_pos hr] at h;exact wpAny_pure (by simpa [e] using h)
     . rw [if_neg hr];rw [if_neg hr] at h;exact wpAny_bind (wpAny_rule (wpAny_pure (by simpa [e] using h)))
theorem ZiA{x y:NK}{a b:Addr}{P:Fin->Shared->Prop}(hu:A.units<cLine)(hx:ZcB prog w s.heap x a)(hy:ZcB prog w s.heap y b)(h:P (.done (.ret (.bool (decide (x=y))))) s) :
   wpAny (model prog w) A (Builtin.«tuple.__eq__» ⟨[.ref a,.ref b],[]⟩) P E s:=by
 have hTb:=hy.typeIs;obtain ⟨oa,ta,ba,na,hoa,_,hda,hia⟩:=hx;obtain ⟨ob,tb,bb,nb,hob,_,hdb,hib⟩:=hy;show wpAny _ _ (isInstance (.ref b) (.type "tuple") >>= _) _ _ s;refine wpAny_bind (wpAny_isInstance hTb isSubtype_tuple_tuple ?_);simp only [Bool.not_true,OG,if_false];refine wpAny_bind (wpAny_tupleItemsOf hoa hda ?_);refine wpAny_bind (wpAny_tupleItemsOf hob hdb ?_);refine wpAny_bind ?_;refine wpAny_forIn_list _
   (fun rest r s'=>r.1=none/\s'=s/\(rest=[(Value.int x.1 ta,Value.int y.1 tb),(.ref ba,.ref bb)]\/(rest=[(.ref ba,.ref bb)]/\x.1=y.1)\/(rest=[]/\x=y)))
   _ ?_ ?_ _ _ ⟨rfl,rfl,.inl rfl⟩
 . rintro ⟨u,v⟩ rest r s' ⟨hr,rfl,e|⟨e,e1⟩|⟨e,_⟩⟩
   . cases e;refine wpAny_bind (wpAny_eqBool_int ?_);by_cases hk:x.1=y.1
     . rw [show (x.1==y.1)=true by simpa using hk];simp only [Bool.not_true,OG,if_false];exact wpAny_pure ⟨rfl,rfl,by first|exact .inr (.inl ⟨trivial,hk⟩)|simp [hk]⟩
     . rw [show (x.1==y.1)=false by simpa using hk];simp only [Bool.not_false,if_true];have hf:decide (x=y)=false:=decide_eq_false fun e=>hk (by rw [e]);rw [hf] at h;exact wpAny_bind (wpAny_pure (wpAny_pure (wpAny_pure h)))
   . cases e;refine wpAny_bind (wpAny_eqBool_tuple (knd:=PySem.strKind prog w) hu hia hib ?_);by_cases hk:x.2=y.2
     . rw [decide_eq_true hk];simp only [Bool.not_true,OG,if_false];exact wpAny_pure ⟨rfl,rfl,by first|exact .inr (.inr ⟨trivial,Prod.ext e1 hk⟩)|simp [Prod.ext e1 hk]⟩
     . rw [decide_eq_false hk];simp only [Bool.not_false,if_true];have hf:decide (x=y)=false:=decide_eq_false fun e=>hk (by rw [e]);rw [hf] at h;exact wpAny_bind (wpAny_pure (wpAny_pure (wpAny_pure h)))
   . cases e
 . rintro ⟨r1,r2⟩ s' ⟨hr,rfl,e|⟨e,_⟩|⟨_,e⟩⟩
   . cases e
   . cases e
   . simp only at hr;subst hr;refine wpAny_pure ?_;rw [decide_eq_true e] at h;exact h
theorem ZsP{x y:NK}{a b:Addr}{Q:Bool->Shared->Prop}(hu:A.units+1<cLine)(hx:ZcB prog w s.heap x a)(hy:ZcB prog w s.heap y b)(h:Q (decide (x=y)) s) :
   wpAny (model prog w) A (eqBool (.ref a) (.ref b)) Q E s:=by
 unfold eqBool
 try with_reducible refine wpAny_holding ?_
 show wpAny _ _ (if (Value.ref a==Value.ref b)=true then _ else _) Q E s;by_cases hab:(Value.ref a==Value.ref b)=true
 . rw [if_pos hab];have e:a=b:=by have:=eq_of_beq hab;injection this
   subst e;obtain rfl:=hx.inj hy;exact wpAny_bind (wpAny_rule (wpAny_pure (by simpa using h)))
 . rw [if_neg hab];exact wpAny_bind (wpAny_richCompare_same_room (op:=.Eq) hx.typeIs hy.typeIs PySem.F.slot_tuple_eq
     (wpAny_call_entry PySem.F.slot_tuple_eq hx.typeIs PySem.F.entry_tuple_eq (ZiA (by first|exact hu|lia) hx hy ⟨_,rfl,(fun e=>nomatch e),wpAny_truthy_bool h⟩) (PySem.F.args_tuple_eq_2 _ _)) (by lia))
theorem Zk6{n:Nat}{ks:List Str}{a:Addr}{Q:Bool->Shared->Prop}(hk:IsTupleKey (PySem.strKind prog w) s.heap ks a)(h:Q true s):wpAny (model prog w) A (eqIsQuiet (n+1) (.ref a)) Q E s:=by
 have hT:=hk.typeIs;obtain ⟨o,items,n,ho,_,hd,hi⟩:=hk;unfold eqIsQuiet;refine wpAny_bind (wpAny_specialOf hT PySem.F.slot_tuple_eq.lookup ?_);show wpAny _ _ (isInstance (.ref a) (.type "tuple") >>= _) _ _ s;refine wpAny_bind (wpAny_isInstance hT isSubtype_tuple_tuple ?_);simp only [Bool.not_true,OG,if_false];refine wpAny_bind (wpAny_seqItems ho hd ?_);refine wpAny_bind ?_;show wpAny _ _ (forIn items _ _) _ _ s;rw [<- Array.forIn_toList];refine wpAny_forIn_list _ (fun rest r s'=>r.1=none/\s'=s/\∀ v∈rest,carriedByValue v=true) _ ?_ ?_ _ _ ⟨rfl,rfl,hi.byValue⟩
 . rintro v rest r s' ⟨hr,rfl,hall⟩;rw [eqIsQuiet_byValue _ (hall v Oi)];refine wpAny_bind (wpAny_pure ?_);simp only [Bool.not_true,OG,if_false];exact wpAny_pure ⟨rfl,rfl,fun u hu'=>hall u (Oh _ hu')⟩
 . rintro ⟨r1,r2⟩ s' ⟨hr,rfl,_⟩;simp only at hr;subst hr;exact wpAny_pure h
theorem Zk5{k:NK}{a:Addr}{Q:Bool->Shared->Prop}(hk:ZcB prog w s.heap k a)(h:Q true s):wpAny (model prog w) A (eqIsQuiet 8 (.ref a)) Q E s:=by
 have hT:=hk.typeIs;obtain ⟨o,t,b,n,ho,_,hd,hi⟩:=hk;unfold eqIsQuiet;refine wpAny_bind (wpAny_specialOf hT PySem.F.slot_tuple_eq.lookup ?_);show wpAny _ _ (isInstance (.ref a) (.type "tuple") >>= _) _ _ s;refine wpAny_bind (wpAny_isInstance hT isSubtype_tuple_tuple ?_);simp only [Bool.not_true,OG,if_false];refine wpAny_bind (wpAny_seqItems ho hd ?_);refine wpAny_bind ?_;show wpAny _ _ (forIn #[Value.int k.1 t,.ref b] _ _) _ _ s;rw [<- Array.forIn_toList];refine wpAny_forIn_list _ (fun rest r s'=>r.1=none/\s'=s/\(rest=[Value.int k.1 t,.ref b]\/rest=[.ref b]\/rest=[])) _ ?_ ?_ _ _ ⟨rfl,rfl,.inl rfl⟩
 . rintro v rest r s' ⟨hr,rfl,e|e|e⟩
   . cases e;rw [eqIsQuiet_byValue _ rfl];refine wpAny_bind (wpAny_pure ?_);simp only [Bool.not_true,OG,if_false];exact wpAny_pure ⟨rfl,rfl,by first|exact .inr (.inl trivial)|simp⟩
   . cases e;refine wpAny_bind (Zk6 hi ?_);simp only [Bool.not_true,OG,if_false];exact wpAny_pure ⟨rfl,rfl,by first|exact .inr (.inr trivial)|simp⟩
   . cases e
 . rintro ⟨r1,r2⟩ s' ⟨hr,rfl,_⟩;simp only at hr;subst hr;exact wpAny_pure h
end
noncomputable def ZcX(prog:Program)(w:World):HeapKind prog w NK where
 is:=ZcB prog w
 hash:=Zib w
 draws:=fun k=>k.2.length+3
 room:=fun A=>A.units+1<cLine
 inj:=fun hx hy=>hx.inj hy
 keeps:=fun x ho hd hs=>x.keeps ho hd hs
 pyHash:=fun hu hk h=>ZnK hu hk h
 eqBool:=fun hu hx hy h=>ZsP hu hx hy h
 quiet:=fun hk h=>Zk5 hk h
end L2
end
section
namespace L2
open PySem PySem.Spec PyProof.Rows
noncomputable abbrev Key:=Sum Int Str
noncomputable def ZfU:Key->Value->Bool
 | .inl k,v=>Value.isInt k v
 | .inr x,v=>Value.isStrOf x v
noncomputable def Zt6(w:World):Key->Int
 | .inl k=>hashInt k
 | .inr x=>hashStr w x
theorem Zz:∀ {k:Key}{v:Value},ZfU k v=true->(∃ i t,k=Sum.inl i/\v=Value.int i t)\/(∃ x t,k=Sum.inr x/\v=Value.str x t)
 | .inl i,v,h=>by
   obtain ⟨t,e⟩:=Value.isInt_shape (k:=i) (v:=v) h;exact .inl ⟨i,t,rfl,e⟩
 | .inr x,v,h=>by
   obtain ⟨t,e⟩:=Value.isStrOf_shape (x:=x) (v:=v) h;exact .inr ⟨x,t,rfl,e⟩
theorem Zkj(i:Int)(t:Tok):ZfU (.inl i) (.int i t)=true:=by simp [ZfU,Value.isInt]
theorem Zn(x:Str)(t:Tok):ZfU (.inr x) (.str x t)=true:=by simp [ZfU,Value.isStrOf]
theorem Zqg(a b:Int):decide ((Sum.inl a:Key)=Sum.inl b)=(a==b):=by
 by_cases e:a=b
 . subst e;simp
 . have h:¬ (Sum.inl a:Key)=Sum.inl b:=fun q=>e (Sum.inl.inj q);rw [decide_eq_false h];exact (beq_eq_false_iff_ne.mpr e).symm
theorem Zqd(a b:Str):decide ((Sum.inr a:Key)=Sum.inr b)=decide (a=b):=by
 by_cases e:a=b
 . subst e;simp
 . have h:¬ (Sum.inr a:Key)=Sum.inr b:=fun q=>e (Sum.inr.inj q);rw [decide_eq_false h,decide_eq_false e]
theorem Zqf(a:Int)(b:Str):decide ((Sum.inl a:Key)=Sum.inr b)=false:=decide_eq_false (fun q=>nomatch q)
theorem Zqe(a:Str)(b:Int):decide ((Sum.inr a:Key)=Sum.inl b)=false:=decide_eq_false (fun q=>nomatch q)
noncomputable def ZF(prog:Program)(w:World):PySem.KeyKind prog w Key where
 is:=ZfU
 hash:=Zt6 w
 inj:=fun v a b ha hb=>by
   rcases Zz ha with ⟨i,t,rfl,rfl⟩|⟨x,t,rfl,rfl⟩
   . rcases Zz hb with ⟨j,u,rfl,e⟩|⟨y,u,rfl,e⟩
     . injection e with e1 _;rw [e1]
     . exact nomatch e
   . rcases Zz hb with ⟨j,u,rfl,e⟩|⟨y,u,rfl,e⟩
     . exact nomatch e
     . injection e with e1 _;rw [e1]
 byValue:=fun k v h=>by
   rcases Zz h with ⟨i,t,rfl,rfl⟩|⟨x,t,rfl,rfl⟩<;>rfl
 pyHash:=fun hv h=>by
   rcases Zz hv with ⟨i,t,rfl,rfl⟩|⟨x,t,rfl,rfl⟩
   . exact wpAny_pyHash_int h
   . exact wpAny_pyHash_str h
 eqBool:=fun hu hv h=>by
   rcases Zz hu with ⟨i,t,rfl,rfl⟩|⟨x,t,rfl,rfl⟩
   . rcases Zz hv with ⟨j,u,rfl,rfl⟩|⟨y,u,rfl,rfl⟩
     . rw [Zqg] at h;exact wpAny_eqBool_int h
     . rw [Zqf] at h;exact SeqAt.EqAt.int_str i t y u _ _ _ _ h
   . rcases Zz hv with ⟨j,u,rfl,rfl⟩|⟨y,u,rfl,rfl⟩
     . rw [Zqe] at h;exact SeqAt.EqAt.str_int x t j u _ _ _ _ h
     . rw [Zqd] at h;exact wpAny_eqBool_str h
 «strs»:=fun k x t v h=>by
   rcases Zz h with ⟨i,u,rfl,e⟩|⟨y,u,rfl,e⟩
   . exact nomatch e
   . injection e with e1 _;subst e1;cases v<;>rfl
theorem Zg3(prog:Program)(w:World)(i:Int)(t:Tok):(ZF prog w).is (.inl i) (.int i t)=true:=Zkj i t
theorem Zg2(prog:Program)(w:World)(x:Str)(t:Tok):(ZF prog w).is (.inr x) (.str x t)=true:=Zn x t
end L2
namespace L2
open PySem PySem.Spec PyProof.Rows
inductive V where
 | non|bl (b:Bool)|int (i:Int)|str (x:Str)|byt (b:Array UInt8)|flt (b:UInt64)|ref (a:Addr)|ty (n:String)
 deriving DecidableEq
noncomputable def RelV:V->Value->Prop
 | .non,u=>u=Value.none
 | .bl b,u=>u=Value.bool b
 | .int i,u=>∃ t,u=Value.int i t
 | .str x,u=>∃ t,u=Value.str x t
 | .byt b,u=>∃ t,u=Value.bytes b t
 | .flt b,u=>∃ t,u=Value.float b t
 | .ref a,u=>u=Value.ref a
 | .ty n,u=>u=Value.type n
noncomputable abbrev Zf:List V->List Value->Prop:=Paired RelV
theorem Zf.length(r:Zf xs us):xs.length=us.length:=Paired.length r
theorem Zf.get:∀ {xs:List V}{us:List Value}{i:Nat}{x:V},Zf xs us->xs[i]? = some x->∃ u,us[i]? = some u/\RelV x u
 | _,_,_,_,.nil,e=>by simp at e
 | _,_,0,_,.cons r _,e=>by simp at e;subst e;exact ⟨_,rfl,r⟩
 | _,_,i+1,x,.cons _ t,e=>by
   obtain ⟨u,h1,h2⟩:=Zf.get (i:=i) (x:=x) t (by simpa using e);exact ⟨u,by simpa using h1,h2⟩
theorem Zf.set(r:RelV x u):∀ {xs:List V}{us:List Value} (i:Nat),Zf xs us->Zf (xs.set i x) (us.set i u)
 | _,_,_,.nil=>.nil
 | _,_,0,.cons _ t=>.cons r t
 | _,_,i+1,.cons q t=>.cons q (Zf.set r i t)
theorem Zf.append:∀ {xs ys:List V}{us ws:List Value},Zf xs us->Zf ys ws->Zf (xs++ys) (us++ws)
 | _,_,_,_,.nil,s=>s
 | _,_,_,_,.cons r t,s=>.cons r (Zf.append t s)
theorem Zf.take:∀ {xs:List V}{us:List Value} (n:Nat),Zf xs us->Zf (xs.take n) (us.take n)
 | _,_,0,_=>.nil
 | _,_,_+1,.nil=>.nil
 | _,_,n+1,.cons r t=>.cons r (Zf.take n t)
theorem Zf.drop:∀ {xs:List V}{us:List Value} (n:Nat),Zf xs us->Zf (xs.drop n) (us.drop n)
 | _,_,0,r=>r
 | _,_,_+1,.nil=>.nil
 | _,_,n+1,.cons _ t=>Zf.drop n t
noncomputable def ZcA:Option V->Option Value->Prop
 | some v,some u=>RelV v u
 | none,none=>True
 | _,_=>False
noncomputable def KV:List (κ×V)->List (κ×Value)->Prop:=Paired fun (p:κ×V) (q:κ×Value)=>p.1=q.1/\RelV p.2 q.2
noncomputable def kV:Key->V
 | .inl i=>.int i
 | .inr x=>.str x
inductive HO where
 | lst (xs:List V)
 | tup (xs:List V)
 | dK (kvs:List (Key×V))|dT (kvs:List (NK×Addr×Value))
 | set (S_:Int->Bool) (n:Nat)
 | ins (C dx:Addr) (fs:List (Str×V))
 | own (x:Addr)
 | xd (fs:List (Str×V))
 | met (f x:Addr)
 | rng (lo hi:Int)
 | frz (o:Obj) (u:HO)
 | tbl (ps:Array Value)
 | ext (φ:Heap->Prop)
noncomputable abbrev Hp:=Addr->Option HO
noncomputable def upd(H:Hp)(a:Addr)(o:HO):Hp:=fun b=>if b=a then some o else H b
theorem Zg:upd H a o a=some o:=by unfold upd;rw [if_pos rfl]
theorem Zm(h:b≠a):upd H a o b=H b:=by unfold upd;rw [if_neg h]
theorem ZaX{H:Hp}(h:H a=some o)(h':H b=none):a≠b:=by
 intro e;subst e;rw [h] at h';cases h'
section
variable (P:Program) (w:World)
noncomputable def ZbJ (h:Heap) (a:Addr) (items:Array Value):Prop:=∃ o,h.get? a=some o/\o.cls=.type "tuple" /\ o.dict=none/\∃ n,o.data=.seq items n
theorem ZbJ.tup(x:ZbJ h a items):IsTup h a items:=let ⟨o,ho,hc,_,r⟩:=x;⟨o,ho,hc,r⟩
theorem ZbJ.fresh (h:Heap) (items:Array Value):ZbJ (h.push {cls:=.type "tuple",data:=.seq items}) h.objs.size items:=⟨_,Oj _ rfl,rfl,rfl,_,rfl⟩
noncomputable def ZH(H:Hp)(h:Heap)(a:Addr):HO->Prop
 | .lst xs=>xs.length<=sizeLine/\∃ (its:List Value) (n:Nat),Zf xs its/\h.get? a=some {cls:=.type "list",data:=.seq its.toArray n}
 | .tup xs=>xs.length<=sizeLine/\∃ its:List Value,Zf xs its/\ZbJ h a its.toArray
 | .dK kvs=>kvs.length<=sizeLine/\(a==sysModules)=false/\∃ vs,KV kvs vs/\h.DictOf (ZF P w) a vs
 | .dT kvs=>kvs.length<=sizeLine/\(a==sysModules)=false/\∃ o es ep,h.get? a=some o/\o.ExactDict/\o.data=.dict es ep/\es.toList=kvs.map (entryOfKey (ZcX P w))/\(kvs.map (·.1)).Nodup
 | .set S_ n=>h.SetOf (intKind P w) a S_ n
 | .ins C dx fs=>H dx=some (.own a)/\fs.length<=1000/\dx≠a/\h.get? a=some (PySem.W.instObj C dx) /\
     ∃ mA,h.Ns1 dx mA/\(∀ f,ZcA (fs.lookup f) (mA f))/\PySem.Within mA (fs.map (·.1))
 | .own _=>∃ o,h.get? a=some o
 | .xd fs=>∃ mA,h.Ns1 a mA/\∀ f,ZcA (fs.lookup f) (mA f)
 | .rng lo hi=>∃ t u v,h.get? a=some {cls:=.type "range",data:=.fields #[.int lo t,.int hi u,.int 1 v]}
 | .frz o u=>h.get? a=some o/\ZH H h a u
 | .tbl ps=>h.get? a=some {cls:=.none,data:=.fields ps}
 | .met f x=>h.get? a=some (PySem.W.methodObj (.ref f) (.ref x))
 | .ext φ=>φ h/\(∃ o,h.get? a=some o)/\∀ h1 h2:Heap,φ h1->(∀ o,h1.get? a=some o->h2.get? a=some o)->φ h2
noncomputable def HOk(H:Hp)(h:Heap):Prop:=∀ a o,H a=some o->ZH P w H h a o
end
section
variable {P:Program}{w:World}{H H':Hp}{h h':Heap}{a:Addr}{o:HO}
theorem ZH.lt(x:ZH P w H h a o):a<h.objs.size:=by
 cases o with
 | lst xs=>obtain ⟨_,_,_,_,e⟩:=x;exact Heap.lt_size e
 | tup xs=>obtain ⟨_,_,_,p⟩:=x;exact p.tup.lt
 | dK kvs=>obtain ⟨_,_,_,_,o,_,_,e,_⟩:=x;exact Heap.lt_size e
 | dT kvs=>obtain ⟨_,_,o,_,_,e,_⟩:=x;exact Heap.lt_size e
 | set S_ n=>obtain ⟨o,_,_,_,e,_⟩:=x;exact Heap.lt_size e
 | ins C dx fs=>obtain ⟨_,_,_,e,_⟩:=x;exact Heap.lt_size e
 | own y=>obtain ⟨_,e⟩:=x;exact Heap.lt_size e
 | xd fs=>obtain ⟨_,⟨_,_,_,e,_⟩,_⟩:=x;exact Heap.lt_size e
 | rng lo hi=>obtain ⟨_,_,_,e⟩:=x;exact Heap.lt_size e
 | frz ob u=>obtain ⟨e,_⟩:=x;exact Heap.lt_size e
 | tbl ps=>exact Heap.lt_size (show h.get? a=some _ from x)
 | met f y=>exact Heap.lt_size (show h.get? a=some _ from x)
 | ext φ=>obtain ⟨_,⟨_,e⟩,_⟩:=x;exact Heap.lt_size e
theorem Paired.mapP:∀ {l₁:List α}{l₂:List β},Paired F l₁ l₂->(∀ a b,F a b->G a b)->Paired G l₁ l₂
 | _,_,.nil,_=>.nil
 | _,_,.cons r t,f=>.cons (f _ _ r) (Paired.mapP t f)
theorem ZH.stay(x:ZH P w H h a o)(k:∀ b u,(b=a\/H b=some (.own a))->h.get? b=some u->h'.get? b=some u)
   (ho:∀ b,H b=some (.own a)->H' b=some (.own a)) (ht:∀ b xs,H b=some (.tup xs)->H' b=some (.tup xs)):ZH P w H' h' a o:=by
 induction o with
 | lst xs=>obtain ⟨z,its,n,r,e⟩:=x;exact ⟨z,its,n,r,k _ _ (.inl rfl) e⟩
 | tup xs=>obtain ⟨z,its,r,ob,e,c⟩:=x;exact ⟨z,its,r,ob,k _ _ (.inl rfl) e,c⟩
 | dK kvs=>obtain ⟨z,y,vs,r,ob,es,ep,e,c⟩:=x;exact ⟨z,y,vs,r,ob,es,ep,k _ _ (.inl rfl) e,c⟩
 | dT kvs=>obtain ⟨z,y,ob,es,ep,e,c⟩:=x;exact ⟨z,y,ob,es,ep,k _ _ (.inl rfl) e,c⟩
 | set S_ n=>obtain ⟨ob,es,ep,t,e,c⟩:=x;exact ⟨ob,es,ep,t,k _ _ (.inl rfl) e,c⟩
 | ins C dx fs =>
   obtain ⟨d,z,ne,e,mA,⟨od,es,ep,e2,c⟩,r⟩:=x;exact ⟨ho _ d,z,ne,k _ _ (.inl rfl) e,mA,⟨od,es,ep,k _ _ (.inr d) e2,c⟩,r⟩
 | own y=>obtain ⟨ob,e⟩:=x;exact ⟨ob,k _ _ (.inl rfl) e⟩
 | xd fs=>obtain ⟨mA,⟨od,es,ep,e,c⟩,r⟩:=x;exact ⟨mA,⟨od,es,ep,k _ _ (.inl rfl) e,c⟩,r⟩
 | rng lo hi=>obtain ⟨t,u,v,e⟩:=x;exact ⟨t,u,v,k _ _ (.inl rfl) e⟩
 | frz ob u ih=>obtain ⟨e,q⟩:=x;exact ⟨k _ _ (.inl rfl) e,ih q⟩
 | tbl ps =>
   have e:h.get? a=some {cls:=.none,data:=.fields ps}:=x;show h'.get? a=some {cls:=.none,data:=.fields ps};exact k a _ (.inl rfl) e
 | met f y =>
   have e:h.get? a=some (PySem.W.methodObj (.ref f) (.ref y)):=x;show h'.get? a=some (PySem.W.methodObj (.ref f) (.ref y));exact k a _ (.inl rfl) e
 | ext φ=>obtain ⟨p,⟨o,e⟩,st⟩:=x;exact ⟨st _ _ p fun o q=>k _ _ (.inl rfl) q,⟨o,k _ _ (.inl rfl) e⟩,st⟩
theorem HOk.lt(x:HOk P w H h)(e:H a=some o):a<h.objs.size:=(x a o e).lt
theorem HOk.fresh(x:HOk P w H h)(e:h.objs.size<=a):H a=none:=by
 cases q:H a with
 | none=>rfl
 | some u=>exact absurd (Ot (x.lt q) e) (Nat.lt_irrefl _)
theorem HOk.kept(x:HOk P w H h)(k:∀ b u,h.get? b=some u->h'.get? b=some u):HOk P w H h':=fun a o e =>
 (x a o e).stay (fun b u _ q=>k b u q) (fun _ q=>q) fun _ _ q=>q
theorem HOk.laid(x:HOk P w H h)(k:∀ b u,h.get? b=some u->h'.get? b=some u)(hp:h.objs.size<=a)(new:ZH P w (upd H a o) h' a o):HOk P w (upd H a o) h':=fun b u e=>by
 have hn:=x.fresh hp;by_cases hb:b=a
 . subst hb;rw [Zg] at e;cases e;exact new
 . rw [Zm hb] at e;exact (x b u e).stay (fun c v _ q=>k c v q) (fun c q=>by rw [Zm (ZaX q hn)];exact q) fun c xs q=>by rw [Zm (ZaX q hn)];exact q
end
noncomputable def Rd(H:Hp)(a:Addr)(u:HO):Prop:=H a=some u\/∃ o,H a=some (.frz o u)
theorem Rd.ok{P:Program}{w:World}{H:Hp}{h:Heap}{a:Addr}{u:HO}(r:Rd H a u)(x:HOk P w H h):ZH P w H h a u:=by
 rcases r with r|⟨o,r⟩
 . exact x a u r
 . obtain ⟨_,q⟩:=x a _ r;exact q
noncomputable def Mut:Option HO->Prop
 | some (.lst _)=>True
 | some (.dK _)=>True
 | some (.dT _)=>True
 | some (.set _ _)=>True
 | some (.ins _ _ _)=>True
 | some (.ext _)=>True
 | _=>False
section
variable {P:Program}{w:World}{H:Hp}{h h':Heap}{x e:Addr}{o':HO}
theorem HOk.write(ok:HOk P w H h)(mu:Mut (H x))(he:e=x\/H e=some (.own x))(k:∀ b u,b≠e->h.get? b=some u->h'.get? b=some u)(heo:∃ u,h'.get? e=some u)
   (new:ZH P w (upd H x o') h' x o'):HOk P w (upd H x o') h':=fun b u q=>by
 have nown:∀ c y,H c=some (.own y)->c≠x:=fun c y r z=>by subst z;rw [r] at mu;exact mu
 have ntup:∀ c xs,H c=some (.tup xs)->c≠x:=fun c xs r z=>by subst z;rw [r] at mu;exact mu
 by_cases hb:b=x
 . subst hb;rw [Zg] at q;cases q;exact new
 . rw [Zm hb] at q;by_cases hbe:b=e
   . have q':H b=some (.own x):=by
       rcases he with z|z
       . exact absurd (hbe.trans z) hb
       . rw [hbe];exact z
     rw [q] at q';cases q';obtain ⟨v,hv⟩:=heo;exact ⟨v,by rw [hbe];exact hv⟩
   . refine (ok b u q).stay (fun c v hc r=>k c v ?_ r) (fun c r=>by rw [Zm (nown c b r)];exact r) fun c xs r=>by rw [Zm (ntup c xs r)];exact r
     rcases hc with rfl|hc
     . exact hbe
     . rintro rfl;rcases he with z|z
       . exact nown c b hc z
       . rw [hc] at z;cases z;exact hb rfl
end
structure Un(fs ex:List Addr)(H H':Hp)(h h':Heap):Prop where
 keep:∀ b o,h.get? b=some o->H b=none->b ∉ fs->b ∉ ex->h'.get? b=some o
 slot:∀ b o,h.get? b=some o->H b=none->b∈fs->b ∉ ex->∃ sl,h'.get? b=some {o with slots:=sl}
 free:∀ b o,h.get? b=some o->H b=none->b ∉ ex->H' b=none
 there:∀ b o,h.get? b=some o->b ∉ ex->∃ o',h'.get? b=some o'
 tups:∀ b xs,H b=some (.tup xs)->H' b=some (.tup xs)
 frzs:∀ b o u,H b=some (.frz o u)->H' b=some (.frz o u)
 tbls:∀ b ps,H b=some (.tbl ps)->∃ more,H' b=some (.tbl (ps++more))
section
variable {fs fs' ex ex':List Addr}{H H1 H2:Hp}{h h1 h2 h':Heap}{a x e:Addr}{o:HO}
theorem Un.any(u:Un fs ex H H1 h h1)(q:h.get? b=some ob)(n:H b=none)(hx:b ∉ ex):∃ sl,h1.get? b=some {ob with slots:=sl}:=by
 by_cases hb:b∈fs
 . exact u.slot b ob q n hb hx
 . exact ⟨ob.slots,u.keep b ob q n hb hx⟩
theorem Un.trans(a:Un fs ex H H1 h h1)(b:Un fs ex H1 H2 h1 h2):Un fs ex H H2 h h2 where
 keep:=fun c ob q n hc hx=>b.keep c ob (a.keep c ob q n hc hx) (a.free c ob q n hx) hc hx
 slot:=fun c ob q n hc hx=>by
   obtain ⟨sl,e1⟩:=a.slot c ob q n hc hx;obtain ⟨sl',e2⟩:=b.slot c _ e1 (a.free c ob q n hx) hc hx;exact ⟨sl',e2⟩
 free:=fun c ob q n hx=>by
   obtain ⟨o',e1⟩:=a.there c ob q hx;exact b.free c o' e1 (a.free c ob q n hx) hx
 there:=fun c ob q hx=>by
   obtain ⟨o',e1⟩:=a.there c ob q hx;exact b.there c o' e1 hx
 tups:=fun c xs q=>b.tups c xs (a.tups c xs q)
 frzs:=fun c ob xs q=>b.frzs c ob xs (a.frzs c ob xs q)
 tbls:=fun c ps q=>by
   obtain ⟨m1,e1⟩:=a.tbls c ps q;obtain ⟨m2,e2⟩:=b.tbls c _ e1;exact ⟨m1++m2,by rw [e2,Array.append_assoc]⟩
theorem Un.kept(k:∀ b u,h.get? b=some u->h'.get? b=some u):Un fs ex H H h h' :=
 ⟨fun b ob q _ _ _=>k b ob q,fun b ob q _ _ _=>⟨ob.slots,k b ob q⟩,fun _ _ _ n _=>n,fun b ob q _=>⟨ob,k b ob q⟩,fun _ _ q=>q,fun _ _ _ q=>q,fun _ ps q=>⟨#[],by rw [q];simp⟩⟩
theorem Un.refl:Un fs ex H H h h:=Un.kept fun _ _ q=>q
theorem Un.laid(k:∀ b u,h.get? b=some u->h'.get? b=some u)(hp:h.objs.size<=a)(hn:H a=none):Un fs ex H (upd H a o) h h' where
 keep:=fun b u q _ _ _=>k b u q
 slot:=fun b u q _ _ _=>⟨u.slots,k b u q⟩
 free:=fun b u q n _=>by rw [Zm (Ou (Ot (Heap.lt_size q) hp))];exact n
 there:=fun b u q _=>⟨u,k b u q⟩
 tups:=fun b xs q=>by rw [Zm (ZaX q hn)];exact q
 frzs:=fun b u xs q=>by rw [Zm (ZaX q hn)];exact q
 tbls:=fun b ps q=>⟨#[],by rw [Zm (ZaX q hn),q];simp⟩
theorem Un.write(mu:Mut (H x))(he:e=x\/H e=some (.own x))(k:∀ b u,b≠e->h.get? b=some u->h'.get? b=some u)(heo:∃ u,h'.get? e=some u):Un fs ex H (upd H x o) h h':=by
 have hx:∀ b,H b=none->b≠x:=fun b n z=>by subst z;rw [n] at mu;exact mu
 have hb:∀ b,H b=none->b≠e:=fun b n z=>by
   subst z;rcases he with r|r
   . exact hx b n r
   . rw [n] at r;cases r
 have hm:∀ b u,H b=some u->¬ Mut (some u)->b≠x:=fun b u q nm z=>by subst z;rw [q] at mu;exact nm mu
 refine ⟨fun b u q n _ _=>k b u (hb b n) q,fun b u q n _ _=>⟨u.slots,k b u (hb b n) q⟩,fun b u q n _=>by rw [Zm (hx b n)];exact n,fun b u q _=>?_,
   fun b xs q=>by rw [Zm (hm b _ q fun z=>z)];exact q,fun b u xs q=>by rw [Zm (hm b _ q fun z=>z)];exact q,fun b ps q=>⟨#[],by rw [Zm (hm b _ q fun z=>z),q];simp⟩⟩
 by_cases hbe:b=e
 . subst hbe;exact heo
 . exact ⟨u,k b u hbe q⟩
end
noncomputable def trk(h:Heap)(H:Hp):List Addr:=(List.range h.objs.size).filter fun a=>(H a).isSome
noncomputable def Zgp(h:Heap)(H:Hp):Heap:=PySem.W.hideAll h (trk h H)
theorem Zkl(h:Heap)(H:Hp):(Zgp h H).objs.size=h.objs.size:=PySem.W.hideAll_size _ _
theorem ZlR(e:h.get? b=some o)(n:H b=none):(Zgp h H).get? b=some o :=
 PySem.W.hideAll_get _ e fun hm=>by
   have q:(H b).isSome=true:=(List.mem_filter.mp hm).2;rw [n] at q;simp at q
theorem Zns(e:(Zgp h H).get? b=some o):h.get? b=some o/\H b=none:=by
 have e':h.get? b=some o:=PySem.W.of_hideAll (trk h H) e;refine ⟨e',?_⟩;cases q:H b with
 | none=>rfl
 | some x =>
   have hm:b∈trk h H:=List.mem_filter.mpr ⟨List.mem_range.mpr (Heap.lt_size e'),by simp [q]⟩;have z:(Zgp h H).get? b=none:=PySem.W.hideAll_none (trk h H) hm;rw [z] at e;cases e
end L2
namespace L2
open PySem PySem.Spec PyProof.Rows
structure Mod(K:PySem.W.Frag)(mg:Str->Option Value)(base:Heap):Prop where
 kin:K.In base
 glob:base.Ns mainGlobals mg
 blt:∃ mb,base.Ns builtinsNs mb/\∀ x:Str,x ≠ "__name__" -> mb x=bootBuiltins x
 nolimit:base.NoLimit
structure Cx where
 prog:Program
 w:World
 K:PySem.W.Frag
 mg:Str->Option Value
 base:Heap
 A:Around
 N:List Str
 s₀:Shared
 H₀:Hp
 env:Env
 outer:List Env
 stack:List Env
 ex:List Addr
 fn:Str->Bool
 calm:Bool
 pn:List (Addr×Obj)
 xe:Value->Shared->Prop
noncomputable def frs(l:List Env):List Addr:=l.filterMap (·.frame)
noncomputable abbrev Cx.fs(X:Cx):List Addr:=frs X.outer
noncomputable def Vis(sc:Scope)(x:Str):Prop:=sc.names.lookup x=some .local\/sc.names.lookup x=some .cell\/sc.names.lookup x=some .free
noncomputable def Loc(sc:Scope)(x:Str):Prop:=sc.names.lookup x=some .local\/sc.names.lookup x=some .cell
noncomputable def Look(env:Env)(h:Heap)(m:Str->Option Value)(x:Str)(u:Value):Prop :=
 (env.kindOf x=some .local/\m x=some u)\/((env.kindOf x=some .cell\/env.kindOf x=some .free)/\∃ c,env.cells.lookup x=some c/\h.IsCell c (some u))
structure Cx.Ok(X:Cx):Prop where
 mod:Mod X.K X.mg X.base
 kind:X.env.scope.kind=.function
 glob:X.env.globals=mainGlobals
 blt:X.env.builtins=builtinsNs
 above:X.s₀.heap.objs.size<=X.env.locals
 inj:∀ x y c,X.env.cells.lookup x=some c->X.env.cells.lookup y=some c->x=y
 has:∀ x,(X.env.kindOf x=some .cell\/X.env.kindOf x=some .free)->∃ c,X.env.cells.lookup x=some c
 cab:∀ x c,X.fn x=true->X.env.cells.lookup x=some c->X.s₀.heap.objs.size<=c
 hd:X.calm=true->X.A.handled=none
 frames:X.A.frames=some X.stack
 stk:X.stack=X.outer\/(X.stack=X.env::X.outer/\X.env.frame=some X.env.locals)
 exf:∀ b∈X.ex,b≠X.env.locals/\∀ x c,X.env.cells.lookup x=some c->c≠b
 bs:∀ b o,X.base.get? b=some o->X.s₀.heap.get? b=some o/\X.H₀ b=none
 bsz:X.base.objs.size<=X.s₀.heap.objs.size
 noex:∀ b o,X.base.get? b=some o->b ∉ X.ex
 exfs:∀ b∈X.ex,b ∉ X.fs
 funs:X.s₀.heap.FunFrames X.base X.outer
 frf:∀ b∈X.fs,X.H₀ b=none
structure Inv(X:Cx)(pins:List (Addr×Obj))(Z:List (Option V))(H:Hp)(s:Shared):Prop where
 ok:X.Ok
 os:s.os=X.s₀.os
 bare:AllBare s.gens
 base:Un X.fs X.ex X.H₀ H X.s₀.heap s.heap
 loc:∃ m,s.heap.Ns X.env.locals m/\∀ (i:Nat) (x:Str) (v:V),X.N[i]? = some x->Z[i]? = some (some v)->Vis X.env.scope x->∃ u,RelV v u/\Look X.env s.heap m x u
 cell:∀ x c,X.env.cells.lookup x=some c->∃ v,s.heap.IsCell c v
 free:H X.env.locals=none
 freeC:∀ x c,X.env.cells.lookup x=some c->H c=none
 pin:∀ p∈X.pn++pins,s.heap.get? p.1=some p.2/\H p.1=none/\p.1≠X.env.locals/\p.1 ∉ X.fs/\∀ v,p.2.data≠.cell v
 hok:HOk X.prog X.w H s.heap
 len:Z.length=X.N.length
section
variable {X:Cx}{pins:List (Addr×Obj)}{Z:List (Option V)}{H H':Hp}{s:Shared}{h':Heap}
theorem Cx.Ok.nofr(ok:X.Ok)(e:X.base.get? b=some o):b ∉ X.fs:=fun hb=>by
 have:=(ok.funs.mem hb).1;rw [e] at this;cases this
theorem Inv.bs(I:Inv X pins Z H s):∀ b o,X.base.get? b=some o->s.heap.get? b=some o/\H b=none:=fun b o e =>
 ⟨I.base.keep b o (I.ok.bs b o e).1 (I.ok.bs b o e).2 (I.ok.nofr e) (I.ok.noex b o e),I.base.free b o (I.ok.bs b o e).1 (I.ok.bs b o e).2 (I.ok.noex b o e)⟩
theorem Inv.bk(I:Inv X pins Z H s):∀ b o,X.base.get? b=some o->s.heap.get? b=some o:=fun b o e=>(I.bs b o e).1
theorem Inv.mod(I:Inv X pins Z H s):Mod X.K X.mg X.base:=I.ok.mod
theorem Inv.kIn(I:Inv X pins Z H s):X.K.In s.heap:=I.ok.mod.kin.keeps I.bk
theorem Inv.lt(I:Inv X pins Z H s):X.env.locals<s.heap.objs.size:=let ⟨_,hn,_⟩:=I.loc;hn.lt
theorem Inv.sz(I:Inv X pins Z H s):X.s₀.heap.objs.size<=s.heap.objs.size:=OE I.ok.above (Nat.le_of_lt I.lt)
theorem Inv.nofs(I:Inv X pins Z H s)(h:s.heap.objs.size<=a):a ∉ X.fs:=fun hb=>by
 obtain ⟨_,o,ho,_⟩:=I.ok.funs.mem hb;exact absurd (Ot (Heap.lt_size ho) (OE I.sz h)) (Nat.lt_irrefl _)
theorem Inv.cne(I:Inv X pins Z H s):∀ x c,X.env.cells.lookup x=some c->c≠X.env.locals:=fun x c e z=>by
 obtain ⟨v,o,ho,hd⟩:=I.cell x c e;obtain ⟨m,⟨o',es,ep,ho',hd',_⟩,_⟩:=I.loc;rw [z,ho'] at ho;cases ho;rw [hd'] at hd;cases hd
theorem Inv.funs(I:Inv X pins Z H s):s.heap.FunFrames X.base X.outer:=by
 have all:∀ (l:List Env),(∀ b∈frs l,b∈X.fs)->X.s₀.heap.FunFrames X.base l->s.heap.FunFrames X.base l:=by
   intro l;induction l with
   | nil=>intro _ _;trivial
   | cons env r ih =>
     intro hs hl;obtain ⟨hk,⟨L,o,hf,hn,ho,hd⟩,hr⟩:=hl;have hL:L∈X.fs:=hs L (by unfold frs;rw [List.filterMap_cons,hf];exact Oi);obtain ⟨sl,e⟩:=I.base.slot L o ho (I.ok.frf L hL) hL fun z=>I.ok.exfs L z hL;exact ⟨hk,⟨L,_,hf,hn,e,hd⟩,ih (fun b hb=>hs b (by unfold frs;rw [List.filterMap_cons,hf];exact Oh _ hb)) hr⟩
 exact all X.outer (fun _ hb=>hb) I.ok.funs
theorem Inv.stack(I:Inv X pins Z H s):s.heap.FunFrames X.base X.stack:=by
 rcases I.ok.stk with e|⟨e,hf⟩
 . rw [e];exact I.funs
 . rw [e];obtain ⟨m,hn,_⟩:=I.loc;refine .cons (by rw [I.ok.kind];decide) hf hn ?_ I.funs;exact Heap.get?_none_of_le (OE I.ok.bsz I.ok.above)
theorem Inv.stkSub(I:Inv X pins Z H s):∀ b∈frs X.stack,b∈X.env.locals::X.fs:=fun b hb=>by
 rcases I.ok.stk with e|⟨e,hf⟩
 . rw [e] at hb;exact Oh _ hb
 . rw [e] at hb;unfold frs at hb;rw [List.filterMap_cons,hf] at hb;exact hb
theorem Inv.stkFree(I:Inv X pins Z H s):∀ b∈frs X.stack,H b=none:=fun b hb=>by
 rcases O2.mp (I.stkSub b hb) with e|hb
 . rw [e];exact I.free
 . obtain ⟨_,o,ho,_⟩:=I.ok.funs.mem hb;exact I.base.free b o ho (I.ok.frf b hb) fun z=>I.ok.exfs b z hb
theorem Inv.step{g':Array GenState}{t':Nat}{d':Drawn}{ch:List Addr}(I:Inv X pins Z H s)
   (hch:∀ b∈ch,(b∈X.ex\/X.s₀.heap.objs.size<=b)/\b≠X.env.locals/\(∀ x c,X.env.cells.lookup x=some c->c≠b)/\∀ p∈X.pn++pins,p.1≠b)
   (keep:∀ b o,b≠X.env.locals->b ∉ X.fs->b ∉ ch->s.heap.get? b=some o->H b=none->h'.get? b=some o)
   (slot:∀ b o,b≠X.env.locals->b∈X.fs->b ∉ ch->s.heap.get? b=some o->H b=none->∃ sl,h'.get? b=some {o with slots:=sl}) (free:∀ b o,b ∉ ch->s.heap.get? b=some o->H b=none->H' b=none)
   (there:∀ b o,b ∉ ch->s.heap.get? b=some o->∃ o',h'.get? b=some o')
   (tups:∀ b xs,H b=some (.tup xs)->H' b=some (.tup xs)) (frzs:∀ b o u,H b=some (.frz o u)->H' b=some (.frz o u)) (tbls:∀ b ps,H b=some (.tbl ps)->∃ more,H' b=some (.tbl (ps++more)))
   (ns:∀ m,s.heap.Ns X.env.locals m->h'.Ns X.env.locals m) (hok:HOk X.prog X.w H' h') (hg:AllBare g') :
   Inv X pins Z H' {s with heap:=h',gens:=g',drawn:=d',toks:=t'}:=by
 have neL:∀ b o,X.s₀.heap.get? b=some o->b≠X.env.locals:=fun b o e=>Ou (Ot (Heap.lt_size e) I.ok.above);have neC:∀ b o,X.s₀.heap.get? b=some o->b ∉ X.ex->b ∉ ch:=fun b o e hx hb=>by
   rcases (hch b hb).1 with z|z
   . exact hx z
   . exact absurd (Ot (Heap.lt_size e) z) (Nat.lt_irrefl _)
 have cellK:∀ x c,X.env.cells.lookup x=some c->∀ v,s.heap.IsCell c v->h'.IsCell c v:=fun x c e v ⟨o,ho,hd⟩=>by
   have nch:c ∉ ch:=fun z=>(hch c z).2.2.1 x c e rfl;by_cases hc:c∈X.fs
   . obtain ⟨sl,q⟩:=slot c o (I.cne x c e) hc nch ho (I.freeC x c e);exact ⟨_,q,hd⟩
   . exact ⟨o,keep c o (I.cne x c e) hc nch ho (I.freeC x c e),hd⟩
 refine ⟨I.ok,I.os,hg,⟨fun b o e n hb hx=>?_,fun b o e n hb hx=>?_,fun b o e n hx=>?_,fun b o e hx=>?_,fun b xs e=>tups b xs (I.base.tups b xs e),fun b o xs e=>frzs b o xs (I.base.frzs b o xs e),fun b ps e=>?_⟩,?_,fun x c e=>?_,?_,fun x c e=>?_,fun p hp=>?_,hok,I.len⟩
 . exact keep b o (neL b o e) hb (neC b o e hx) (I.base.keep b o e n hb hx) (I.base.free b o e n hx)
 . obtain ⟨sl,e1⟩:=I.base.slot b o e n hb hx;obtain ⟨sl',e2⟩:=slot b _ (neL b o e) hb (neC b o e hx) e1 (I.base.free b o e n hx);exact ⟨sl',e2⟩
 . obtain ⟨o',e1⟩:=I.base.there b o e hx;exact free b o' (neC b o e hx) e1 (I.base.free b o e n hx)
 . obtain ⟨o',e1⟩:=I.base.there b o e hx;exact there b o' (neC b o e hx) e1
 . obtain ⟨m1,e1⟩:=I.base.tbls b ps e;obtain ⟨m2,e2⟩:=tbls b _ e1;exact ⟨m1++m2,by rw [e2,Array.append_assoc]⟩
 . obtain ⟨m,hn,hl⟩:=I.loc;refine ⟨m,ns m hn,fun i x v e1 e2 e3=>?_⟩;obtain ⟨u,r,l⟩:=hl i x v e1 e2 e3;refine ⟨u,r,?_⟩;rcases l with l|⟨k,c,e,z⟩
   . exact .inl l
   . exact .inr ⟨k,c,e,cellK x c e _ z⟩
 . obtain ⟨v,z⟩:=I.cell x c e;exact ⟨v,cellK x c e v z⟩
 . obtain ⟨m,⟨o,_,_,ho,_⟩,_⟩:=I.loc;exact free _ o (fun z=>(hch _ z).2.1 rfl) ho I.free
 . obtain ⟨v,o,ho,hd⟩:=I.cell x c e;exact free c o (fun z=>(hch c z).2.2.1 x c e rfl) ho (I.freeC x c e)
 . obtain ⟨e,n,ne,nf,d⟩:=I.pin p hp;have nch:p.1 ∉ ch:=fun z=>(hch p.1 z).2.2.2 p hp rfl;exact ⟨keep p.1 p.2 ne nf nch e n,free p.1 p.2 nch e n,ne,nf,d⟩
theorem Inv.un{t':Nat}(I:Inv X pins Z H s)(u:Un X.fs [] H H' s.heap h')(hok:HOk X.prog X.w H' h'):Inv X pins Z H' {s with heap:=h',toks:=t'}:=by
 obtain ⟨m,⟨o,es,ep,ho,r⟩,_⟩:=id I.loc;obtain ⟨sl,hL⟩:=u.any ho I.free (by simp);exact I.step (g':=s.gens) (d':=s.drawn) (ch:=[]) (fun _ z=>nomatch z) (fun b o _ hb _ e n=>u.keep b o e n hb (by simp)) (fun b o _ hb _ e n=>u.slot b o e n hb (by simp)) (fun b o _ e n=>u.free b o e n (by simp)) (fun b o _ e=>u.there b o e (by simp)) u.tups u.frzs u.tbls (fun m' hm=>by
   obtain ⟨o',es',ep',ho',r'⟩:=hm;rw [ho] at ho';cases ho';exact ⟨_,es',ep',hL,r'⟩) hok I.bare
theorem Inv.call{g':Array GenState}{t':Nat}{d':Drawn}{ch:List Addr}(I:Inv X pins Z H s)(u:Un (frs X.stack) ch H H' s.heap h')(hok:HOk X.prog X.w H' h')(hg:AllBare g')
   (hch:∀ b∈ch,(b∈X.ex\/X.s₀.heap.objs.size<=b)/\b≠X.env.locals/\(∀ x c,X.env.cells.lookup x=some c->c≠b)/\∀ p∈X.pn++pins,p.1≠b) :
   Inv X pins Z H' {s with heap:=h',gens:=g',drawn:=d',toks:=t'}:=by
 obtain ⟨m,⟨o,es,ep,ho,r⟩,_⟩:=id I.loc;obtain ⟨sl,hL⟩:=u.any ho I.free fun z=>(hch _ z).2.1 rfl;exact I.step (ch:=ch) hch (fun b o hL hb hc e n=>u.keep b o e n (fun z=>(O2.mp (I.stkSub b z)).elim hL hb) hc) (fun b o _ _ hc e n=>u.any e n hc) (fun b o hc e n=>u.free b o e n hc) (fun b o hc e=>u.there b o e hc) u.tups u.frzs u.tbls (fun m' hm=>by
   obtain ⟨o',es',ep',ho',r'⟩:=hm;rw [ho] at ho';cases ho';exact ⟨_,es',ep',hL,r'⟩) hok hg
theorem Inv.turned{t':Nat}{it:Addr}(I:Inv X pins Z H s)(k:∀ b o,b≠it->s.heap.get? b=some o->h'.get? b=some o)(hn:H it=none)(hL:it≠X.env.locals)
   (h1:it∈X.ex\/X.s₀.heap.objs.size<=it) (h2:∀ x c,X.env.cells.lookup x=some c->c≠it) (h3:∀ p∈X.pn++pins,p.1≠it):Inv X pins Z H {s with heap:=h',toks:=t'}:=by
 have nit:∀ b u,H b=some u->b≠it:=fun b u e z=>by rw [z,hn] at e;cases e
 refine I.step (g':=s.gens) (d':=s.drawn) (ch:=[it]) (fun b hb=>?_) (fun b o _ _ hc e _=>k b o (fun z=>hc (by simp [z])) e) (fun b o _ _ hc e _=>⟨o.slots,k b o (fun z=>hc (by simp [z])) e⟩) (fun _ _ _ _ n=>n)
   (fun b o hc e=>⟨o,k b o (fun z=>hc (by simp [z])) e⟩) (fun _ _ e=>e) (fun _ _ _ e=>e) (fun b ps e=>⟨#[],by rw [e];simp⟩) (fun m hm=>?_) (fun b u e=>?_) I.bare
 . have e:b=it:=by simpa using hb
   subst e;exact ⟨h1,hL,h2,h3⟩
 . obtain ⟨o,es,ep,ho,r⟩:=hm;exact ⟨o,es,ep,k _ o (Ne.symm hL) ho,r⟩
 . refine (I.hok b u e).stay (fun c v hc q=>k c v ?_ q) (fun _ q=>q) fun _ _ q=>q;rcases hc with z|z
   . rw [z];exact nit b u e
   . exact nit c _ z
theorem Inv.tok(I:Inv X pins Z H s)(t:Nat):Inv X pins Z H {s with toks:=t}:=I.un (h':=s.heap) (t':=t) Un.refl I.hok
theorem Inv.kept{t':Nat}(I:Inv X pins Z H s)(k:∀ b u,s.heap.get? b=some u->h'.get? b=some u):Inv X pins Z H {s with heap:=h',toks:=t'}:=I.un (Un.kept k) (I.hok.kept k)
theorem Inv.laid{a:Addr}{o:HO}{t':Nat}(I:Inv X pins Z H s)(k:∀ b u,s.heap.get? b=some u->h'.get? b=some u)(hp:s.heap.objs.size<=a)(new:ZH X.prog X.w (upd H a o) h' a o) :
   Inv X pins Z (upd H a o) {s with heap:=h',toks:=t'}:=I.un (Un.laid k hp (I.hok.fresh hp)) (I.hok.laid k hp new)
theorem Inv.write(I:Inv X pins Z H s)(mu:Mut (H x))(he:e=x\/H e=some (.own x))(k:∀ b u,b≠e->s.heap.get? b=some u->h'.get? b=some u)(heo:∃ u,h'.get? e=some u)
   (new:ZH X.prog X.w (upd H x o) h' x o):Inv X pins Z (upd H x o) {s with heap:=h',toks:=t'}:=I.un (Un.write mu he k heo) (I.hok.write mu he k heo new)
theorem Inv.weak(I:Inv X pins Z H s)(hl:σ'.length=Z.length)(w:∀ (i:Nat) v,σ'[i]? = some (some v)->Z[i]? = some (some v)):Inv X pins σ' H s :=
 ⟨I.ok,I.os,I.bare,I.base,let ⟨m,hn,hl'⟩:=I.loc;⟨m,hn,fun i x v e1 e2 e3=>hl' i x v e1 (w i v e2) e3⟩,I.cell,I.free,I.freeC,I.pin,I.hok,hl.trans I.len⟩
theorem Inv.pins_of(I:Inv X pins Z H s)(h:∀ p∈pins',s.heap.get? p.1=some p.2/\H p.1=none/\p.1≠X.env.locals/\p.1 ∉ X.fs/\∀ v,p.2.data≠.cell v):Inv X pins' Z H s :=
 ⟨I.ok,I.os,I.bare,I.base,I.loc,I.cell,I.free,I.freeC,fun p hp=>(OD.mp hp).elim (fun z=>I.pin p (List.mem_append_left _ z)) (h p),I.hok,I.len⟩
theorem Zg1{N:List Str}(hN:N.Nodup){i j:Nat}{x:Str}(a:N[i]? = some x)(b:N[j]? = some x):i=j:=by
 obtain ⟨h1,e1⟩:=Ob.mp a;obtain ⟨h2,e2⟩:=Ob.mp b;exact (List.getElem_inj hN).mp (e1.trans e2.symm)
theorem ZfN{M:Model}{A:Around}{Q:Unit->Shared->Prop}(I:Inv X pins Z H s)(hN:X.N.Nodup)(hi:X.N[i]? = some x)(hx:Loc X.env.scope x)(r:RelV v u)
   (h:∀ s',Inv X pins (Z.set i (some v)) H s'->(∃ a,Heap.SameBut a s.heap s'.heap/\(a=X.env.locals\/X.env.cells.lookup x=some a))->Q () s') (hf:X.fn x=true\/X.env.scope.names.lookup x=some .local:=by first|exact .inl rfl|exact .inr rfl|assumption):wpAny M A (storeName X.env x u) Q E s:=by
 obtain ⟨m,hn,hl⟩:=id I.loc;have hcls:(X.env.scope.kind==.class || (X.env.scope.kind==.module&&X.env.locals != X.env.globals))=false:=by rw [I.ok.kind];rfl
 have hiσ:i<Z.length:=by rw [I.len];exact (Ob.mp hi).1
 have cne:=I.cne;have tracked:∀ {a:Addr}{h':Heap},(∃ o,s.heap.get? a=some o/\H a=none)->Heap.SameBut a s.heap h'->HOk X.prog X.w H h':=fun {a h'} ha hs b ob e=>by
   obtain ⟨_,_,hfree⟩:=ha;refine (I.hok b ob e).stay (fun c w' hc q=>(hs.2 c ?_).trans q) (fun _ q=>q) fun _ _ q=>q;rintro rfl;rcases hc with rfl|hc
   . rw [hfree] at e;cases e
   . rw [hfree] at hc;cases hc
 rcases hx with hk|hk
 . refine wpAny_storeName_local hk hn (fun h' hn' hs=>?_) hcls;obtain ⟨oL,_,_,hoL,_⟩:=id hn;refine h _ ⟨I.ok,I.os,I.bare,⟨fun b o e n hb hx=>?_,fun b o e n hb hx=>?_,I.base.free,fun b o e hx=>?_,I.base.tups,I.base.frzs,I.base.tbls⟩,⟨_,hn',fun j y v' e1 e2 e3=>?_⟩,fun y c e=>?_,I.free,I.freeC,fun p hp=>?_,tracked ⟨oL,hoL,I.free⟩ hs,by simpa using I.len⟩ ⟨_,hs,.inl rfl⟩
   . exact (hs.2 b (Ou (Ot (Heap.lt_size e) I.ok.above))).trans (I.base.keep b o e n hb hx)
   . obtain ⟨sl,e1⟩:=I.base.slot b o e n hb hx;exact ⟨sl,(hs.2 b (Ou (Ot (Heap.lt_size e) I.ok.above))).trans e1⟩
   . obtain ⟨o',e1⟩:=I.base.there b o e hx;exact ⟨o',(hs.2 b (Ou (Ot (Heap.lt_size e) I.ok.above))).trans e1⟩
   . by_cases hj:j=i
     . subst hj;rw [hi] at e1;cases e1;rw [Ol hiσ] at e2;cases e2;exact ⟨u,r,.inl ⟨hk,by simp⟩⟩
     . rw [Oc (Ne.symm hj)] at e2;obtain ⟨u',r',q⟩:=hl j y v' e1 e2 e3;refine ⟨u',r',?_⟩;rcases q with ⟨k,e⟩|⟨k,c,e,z⟩
       . refine .inl ⟨k,?_⟩;have:y≠x:=fun e=>hj (Zg1 hN e1 (e ▸ hi));simp [this,e]
       . exact .inr ⟨k,c,e,z.sameBut hs (cne y c e)⟩
   . obtain ⟨w',z⟩:=I.cell y c e;exact ⟨w',z.sameBut hs (cne y c e)⟩
   . obtain ⟨e,n,ne,nf,d⟩:=I.pin p hp;exact ⟨(hs.2 p.1 ne).trans e,n,ne,nf,d⟩
 . have hfn:X.fn x=true:=by
     rcases hf with z|z
     . exact z
     . rw [z] at hk;cases hk
   obtain ⟨c,hc⟩:=I.ok.has x (.inl hk);obtain ⟨w',z⟩:=I.cell x c hc;refine wpAny_storeName_cell I.ok.kind hk hc z (fun h' hc' hs=>?_);obtain ⟨oc,hoc,hocd⟩:=id z;refine h {s with heap:=h'} ⟨I.ok,I.os,I.bare,⟨fun b o e n hb hx=>?_,fun b o e n hb hx=>?_,I.base.free,fun b o e hx=>?_,I.base.tups,I.base.frzs,I.base.tbls⟩,⟨m,hn.sameBut hs (Ne.symm (cne x c hc)),fun j y v' e1 e2 e3=>?_⟩,fun y c' e=>?_,I.free,I.freeC,fun p hp=>?_,tracked ⟨oc,hoc,I.freeC x c hc⟩ hs,by simpa using I.len⟩ ⟨c,hs,.inr hc⟩
   . exact (hs.2 b (Ou (Ot (Heap.lt_size e) (I.ok.cab x c hfn hc)))).trans (I.base.keep b o e n hb hx)
   . obtain ⟨sl,e1⟩:=I.base.slot b o e n hb hx;exact ⟨sl,(hs.2 b (Ou (Ot (Heap.lt_size e) (I.ok.cab x c hfn hc)))).trans e1⟩
   . obtain ⟨o',e1⟩:=I.base.there b o e hx;exact ⟨o',(hs.2 b (Ou (Ot (Heap.lt_size e) (I.ok.cab x c hfn hc)))).trans e1⟩
   . by_cases hj:j=i
     . subst hj;rw [hi] at e1;cases e1;rw [Ol hiσ] at e2;cases e2;exact ⟨u,r,.inr ⟨.inl hk,c,hc,hc'⟩⟩
     . rw [Oc (Ne.symm hj)] at e2;obtain ⟨u',r',q⟩:=hl j y v' e1 e2 e3;refine ⟨u',r',?_⟩;rcases q with q|⟨k,c',e,z'⟩
       . exact .inl q
       . refine .inr ⟨k,c',e,z'.sameBut hs ?_⟩;rintro rfl;exact hj (Zg1 hN e1 (I.ok.inj _ _ _ e hc ▸ hi))
   . by_cases hcc:c'=c
     . subst hcc;exact ⟨_,hc'⟩
     . obtain ⟨w2,z2⟩:=I.cell y c' e;exact ⟨w2,z2.sameBut hs hcc⟩
   . obtain ⟨e,n,ne,nf,d⟩:=I.pin p hp;refine ⟨(hs.2 p.1 ?_).trans e,n,ne,nf,d⟩;intro q;rw [q,hoc] at e;have q':oc=p.2:=Option.some.inj e;exact d w' (by rw [<- q'];exact hocd)
theorem Zew(I:Inv X pins Z H s)(hN:X.N.Nodup)(hi:X.N[i]? = some x)(hx:Loc X.env.scope x)(r:RelV v u)
   (h:∀ s',Inv X pins (Z.set i (some v)) H s'->Q () s') (hf:X.fn x=true\/X.env.scope.names.lookup x=some .local:=by first|exact .inl rfl|exact .inr rfl|assumption):wpAny M A (storeName X.env x u) Q E s :=
 ZfN I hN hi hx r (fun s' I' _=>h s' I') hf
theorem Inv.call'(I:Inv X pins Z H s)(ho:s'.os=s.os)(u:Un (frs X.stack) ch H H' s.heap s'.heap)(hok:HOk X.prog X.w H' s'.heap)(hg:AllBare s'.gens)
   (hch:∀ b∈ch,(b∈X.ex\/X.s₀.heap.objs.size<=b)/\b≠X.env.locals/\(∀ x c,X.env.cells.lookup x=some c->c≠b)/\∀ p∈X.pn++pins,p.1≠b):Inv X pins Z H' s':=by
 obtain ⟨h',g',d',t',o'⟩:=s';have e:o'=s.os:=ho;subst e;exact I.call (g':=g') (t':=t') (d':=d') u hok hg hch
end
noncomputable abbrev XK:=Value->Option Addr->Hp->Prop
noncomputable abbrev St:=List (Option V)
noncomputable abbrev VK:=V->Hp->Prop
noncomputable abbrev TE:=St->Hp->VK->Prop
noncomputable abbrev TT:=St->Hp->(Bool->Hp->Prop)->Prop
noncomputable abbrev TA:=St->Hp->(List V->Hp->Prop)->Prop
structure Ends where
 nx:St->Hp->Prop
 rt:VK
 bk:St->Hp->Prop:=fun _ _=>False
 ct:St->Hp->Prop:=fun _ _=>False
noncomputable abbrev TS:=Ends->St->Hp->Prop
noncomputable def EP(X:Cx)(pins:List (Addr×Obj))(Z:St)(Q:VK)(u:Value)(s':Shared):Prop:=∃ v H',Inv X pins Z H' s'/\RelV v u/\Q v H'
noncomputable def TP(X:Cx)(pins:List (Addr×Obj))(Z:St)(Q:Bool->Hp->Prop)(b:Bool)(s':Shared):Prop:=∃ H',Inv X pins Z H' s'/\Q b H'
noncomputable def AP(X:Cx)(pins:List (Addr×Obj))(Z:St)(Q:List V->Hp->Prop)(us:List Value)(s':Shared):Prop:=∃ vs H',Inv X pins Z H' s'/\Zf vs us/\Q vs H'
noncomputable def SP(X:Cx)(pins:List (Addr×Obj))(D:Ends)(f:Flow)(s':Shared):Prop :=
 match f with
 | .next=>∃ σ' H',Inv X pins σ' H' s'/\D.nx σ' H'
 | .brk=>∃ σ' H',Inv X pins σ' H' s'/\D.bk σ' H'
 | .cont=>∃ σ' H',Inv X pins σ' H' s'/\D.ct σ' H'
 | .ret u=>∃ v σ' H',Inv X pins σ' H' s'/\RelV v u/\D.rt v H'
noncomputable def PE(X:Cx)(e:Expr)(t:TE):Prop :=
 ∀ (pins:List (Addr×Obj)) (s:Shared) (Z:St) (H:Hp) (Q:VK),Inv X pins Z H s->t Z H Q->wpAny (model X.prog X.w) X.A (eval e X.env) (EP X pins Z Q) X.xe s
noncomputable def PT(X:Cx)(e:Expr)(t:TT):Prop :=
 ∀ (pins:List (Addr×Obj)) (s:Shared) (Z:St) (H:Hp) (Q:Bool->Hp->Prop),Inv X pins Z H s->t Z H Q->wpAny (model X.prog X.w) X.A (isTrue e X.env (eval e X.env)) (TP X pins Z Q) X.xe s
noncomputable def PW(X:Cx)(e:Expr)(t:TT):Prop :=
 ∀ (whole:Sem Value) (pins:List (Addr×Obj)) (s:Shared) (Z:St) (H:Hp) (Q:Bool->Hp->Prop),Inv X pins Z H s->t Z H Q->wpAny (model X.prog X.w) X.A (isTrue e X.env whole) (TP X pins Z Q) X.xe s
theorem PW.pt(h:PW X e t):PT X e t:=h _
noncomputable def PA(X:Cx)(es:List Expr)(t:TA):Prop :=
 ∀ (pos:Pos) (pins:List (Addr×Obj)) (s:Shared) (Z:St) (H:Hp) (Q:List V->Hp->Prop),Inv X pins Z H s->t Z H Q->wpAny (model X.prog X.w) X.A (spliced (backTo pos (starEach es X.env))) (AP X pins Z Q) X.xe s
noncomputable def PS(X:Cx)(st:Stmt)(t:TS):Prop :=
 ∀ (pins:List (Addr×Obj)) (s:Shared) (Z:St) (H:Hp) (D:Ends),Inv X pins Z H s->t D Z H->wpAny (model X.prog X.w) X.A (exec st X.env) (SP X pins D) X.xe s
noncomputable def PSs(X:Cx)(st:List Stmt)(t:TS):Prop :=
 ∀ (pins:List (Addr×Obj)) (s:Shared) (Z:St) (H:Hp) (D:Ends),Inv X pins Z H s->t D Z H->wpAny (model X.prog X.w) X.A (execs st X.env) (SP X pins D) X.xe s
theorem thn(h:wpAny M A t Q E s)(hQ:∀ a s,Q a s->Q' a s):wpAny M A t Q' E s:=wpAny_mono h hQ fun _ _ x=>x
end L2
namespace L2
open PySem PySem.Spec PyProof.Rows
section
variable {X:Cx}
noncomputable def Ztt(i:Nat):TE:=fun Z H Q=>∃ v,Z[i]? = some (some v)/\Q v H
noncomputable def tC(v:V):TE:=fun _ H Q=>Q v H
theorem Zpu (hN:X.N[i]? = some x) (hv:Vis X.env.scope x) (hd:(x==("__debug__" : Str))=false:=by decide) (hcd:(x==("__classdict__" : Str))=false:=by decide):PE X (.Name x pos) (Ztt i):=by
 intro pins s Z H Q I h;obtain ⟨v,e,h⟩:=h;obtain ⟨m,hn,hl⟩:=I.loc;obtain ⟨u,r,l⟩:=hl i x v hN e hv;have fin:EP X pins Z Q u s:=⟨v,H,I,r,h⟩
 rcases l with ⟨hk,hm⟩|⟨hk,c,hc,hcell⟩
 . exact wpAny_Name (wpAny_loadName_local I.ok.kind hk hn hm fin) hd
 . rcases hk with hk|hk
   . exact wpAny_Name (wpAny_loadName_cell I.ok.kind hk hc hcell fin) hd
   . exact wpAny_Name (wpAny_loadName_free I.ok.kind hk hc hcell fin hcd) hd
theorem ZpA{i j pos}:PE X (.Constant (.int i) j pos) (tC (.int i)):=fun _ _ _ H _ I h=>wpAny_Constant_int ⟨.int i,H,I.tok _,⟨_,rfl⟩,h⟩
theorem ZrX{b j pos}:PE X (.Constant (.bool b) j pos) (tC (.bl b)):=fun _ _ _ H _ I h=>Constant_bool ⟨.bl b,H,I,rfl,h⟩
theorem Zpy{j pos}:PE X (.Constant .none j pos) (tC .non):=fun _ _ _ H _ I h=>Constant_none ⟨.non,H,I,rfl,h⟩
theorem Zpw{x j pos}:PE X (.Constant (.str x) j pos) (tC (.str x)):=fun _ _ _ H _ I h=>Calls.Constant_str ⟨.str x,H,I.tok _,⟨_,rfl⟩,h⟩
noncomputable def Gl(X:Cx)(x:Str):Prop:=X.env.kindOf x=some .globalImplicit
theorem Zem(I:Inv X pins Z H s)(hg:Gl X x)(hm:X.mg x=some u)(h:Q u s)
   (hd:(x==("__debug__" : Str))=false:=by decide):wpAny (model X.prog X.w) X.A (eval (.Name x pos) X.env) Q E s :=
 Calls.Name_function_global I.ok.kind hg (Calls.loadGlobal_global (by rw [I.ok.glob];exact I.mod.glob.keeps I.bk) hm h) hd
theorem ZeQ(I:Inv X pins Z H s)(hg:Gl X x)(hm:X.mg x=none)(hv:bootBuiltins x=some u)(h:Q u s)
   (hn:x ≠ "__name__" := by decide) (hd:(x==("__debug__" : Str))=false:=by decide):wpAny (model X.prog X.w) X.A (eval (.Name x pos) X.env) Q E s:=by
 obtain ⟨mb,h1,h2⟩:=I.mod.blt;exact Calls.Name_function_global I.ok.kind hg (Calls.loadGlobal_builtin (by rw [I.ok.glob];exact I.mod.glob.keeps I.bk) hm (by rw [I.ok.blt];exact h1.keeps I.bk) ((h2 x hn).trans hv) h) hd
theorem Zm7 (hg:Gl X x) (hm:X.mg x=some u) (r:RelV v u) (hd:(x==("__debug__" : Str))=false:=by decide):PE X (.Name x pos) (tC v) :=
 fun _ _ _ H _ I h=>Zem I hg hm ⟨v,H,I,r,h⟩ hd
theorem Znb (hg:Gl X x) (hm:X.mg x=none) (hv:bootBuiltins x=some u) (r:RelV v u) (hn:x ≠ "__name__" := by decide) (hd:(x==("__debug__" : Str))=false:=by decide):PE X (.Name x pos) (tC v) :=
 fun _ _ _ H _ I h=>ZeQ I hg hm hv ⟨v,H,I,r,h⟩ hn hd
variable {a b:Expr}{ta tb:TE}{pos:Pos}
variable {tA tB':TT}{rest:List Expr}
noncomputable def ZtG(t u:TT):TT:=fun Z H Q=>t Z H fun c H1=>if c=true then u Z H1 Q else Q false H1
noncomputable def tOr(t u:TT):TT:=fun Z H Q=>t Z H fun c H1=>if c=true then Q true H1 else u Z H1 Q
noncomputable def Zty(t:TT):TT:=fun Z H Q=>t Z H fun c H1=>Q (!c) H1
theorem ZmV(ha:PT X a tA):PW X (.BoolOp .And [a] pos) tA:=by
 intro wh pins s Z H Q I h;refine isTrue_and (thn (ha pins s Z H Q I h) fun c s1 e=>?_);cases c with
 | true=>exact isTrue_and_nil e
 | false=>exact e
theorem Zpl(ha:PT X a tA):PW X (.BoolOp .Or [a] pos) tA:=by
 intro wh pins s Z H Q I h;refine isTrue_or (thn (ha pins s Z H Q I h) fun c s1 e=>?_);cases c with
 | false=>exact isTrue_or_nil e
 | true=>exact e
theorem Zpm(ha:PT X a tA)(hb:PW X (.BoolOp .And (b::rest) pos) tB'):PW X (.BoolOp .And (a::b::rest) pos) (ZtG tA tB'):=by
 intro wh pins s Z H Q I h;refine isTrue_and (thn (ha pins s Z H _ I h) fun c s1 ⟨H1,I1,q1⟩=>?_);cases c with
 | true=>exact hb wh pins s1 Z H1 Q I1 q1
 | false=>exact ⟨H1,I1,q1⟩
theorem ZrO(ha:PT X a tA)(hb:PW X (.BoolOp .Or (b::rest) pos) tB'):PW X (.BoolOp .Or (a::b::rest) pos) (tOr tA tB'):=by
 intro wh pins s Z H Q I h;refine isTrue_or (thn (ha pins s Z H _ I h) fun c s1 ⟨H1,I1,q1⟩=>?_);cases c with
 | true=>exact ⟨H1,I1,q1⟩
 | false=>exact hb wh pins s1 Z H1 Q I1 q1
theorem Zpo(ha:PT X a tA):PT X (.UnaryOp .Not a pos) (Zty tA):=by
 intro pins s Z H Q I h;exact isTrue_not (ha pins s Z H (fun c H1=>Q (!c) H1) I h)
noncomputable def Zrq(ta tb:TE):TE:=fun Z H Q=>ta Z H fun x H1=>∃ c,x=.bl c/\if c=true then tb Z H1 Q else Q (.bl false) H1
noncomputable def Ztx(ta tb:TE):TE:=fun Z H Q=>ta Z H fun x H1=>∃ c,x=.bl c/\if c=true then Q (.bl true) H1 else tb Z H1 Q
noncomputable def Zrl(ta:TE):TE:=fun Z H Q=>ta Z H fun x H1=>∃ c,x=.bl c/\Q (.bl (!c)) H1
theorem Zlj{op}(h:PE X a t):PE X (.BoolOp op [a] pos) t:=fun pins s Z H Q I hw=>BoolOp_one (h pins s Z H Q I hw)
theorem ZpE(ha:PE X a ta)(hb:PE X (.BoolOp .And (b::rest) pos) tb):PE X (.BoolOp .And (a::b::rest) pos) (Zrq ta tb):=by
 intro pins s Z H Q I h;refine BoolOp_and (thn (ha pins s Z H _ I h) fun v s1 ⟨x,H1,I1,r1,q1⟩=>?_);obtain ⟨c,rfl,q1⟩:=q1;cases r1;refine wpAny_truthy_bool ?_;cases c with
 | true=>exact hb pins s1 Z H1 Q I1 q1
 | false=>exact ⟨.bl false,H1,I1,rfl,q1⟩
theorem ZrU(ha:PE X a ta)(hb:PE X (.BoolOp .Or (b::rest) pos) tb):PE X (.BoolOp .Or (a::b::rest) pos) (Ztx ta tb):=by
 intro pins s Z H Q I h;refine BoolOp_or (thn (ha pins s Z H _ I h) fun v s1 ⟨x,H1,I1,r1,q1⟩=>?_);obtain ⟨c,rfl,q1⟩:=q1;cases r1;refine wpAny_truthy_bool ?_;cases c with
 | false=>exact hb pins s1 Z H1 Q I1 q1
 | true=>exact ⟨.bl true,H1,I1,rfl,q1⟩
theorem Zpx(ha:PE X a ta):PE X (.UnaryOp .Not a pos) (Zrl ta):=by
 intro pins s Z H Q I h;refine UnaryOp_ (thn (ha pins s Z H _ I h) fun v s1 ⟨x,H1,I1,r1,q1⟩=>?_);obtain ⟨c,rfl,q1⟩:=q1;cases r1;exact not_of (wpAny_truthy_bool ⟨.bl (!c),H1,I1,rfl,q1⟩)
noncomputable def tIf(t:TT)(ta tb:TE):TE:=fun Z H Q=>t Z H fun c H1=>if c=true then ta Z H1 Q else tb Z H1 Q
theorem Zlm(hc:PT X c tA)(ha:PE X a ta)(hb:PE X b tb):PE X (.IfExp c a b pos) (tIf tA ta tb):=by
 intro pins s Z H Q I h;refine wpAny_IfExp (thn (hc pins s Z H _ I h) fun d s1 ⟨H1,I1,q1⟩=>?_);cases d with
 | true=>exact ha pins s1 Z H1 Q I1 q1
 | false=>exact hb pins s1 Z H1 Q I1 q1
end
end L2
namespace L2
open PySem PySem.Spec PyProof.Rows
noncomputable def SqL(K:PySem.W.Frag)(H:Hp)(a:Addr)(xs:List V):Prop :=
 Rd H a (.lst xs) \/
   ∃ (o:Obj) (its:Array Value) (n:Nat),K.lookup a=some o/\o.cls=.type "list" /\ o.dict=none/\o.data=.seq its n/\its.size<=sizeLine/\Zf xs its.toList
noncomputable def SqT(K:PySem.W.Frag)(H:Hp)(a:Addr)(xs:List V):Prop :=
 Rd H a (.tup xs) \/
   ∃ (o:Obj) (its:Array Value) (n:Nat),K.lookup a=some o/\o.cls=.type "tuple" /\ o.data=.seq its n/\its.size<=sizeLine/\Zf xs its.toList
noncomputable def ZuE:Value->Option V
 | .none=>some .non
 | .bool b=>some (.bl b)
 | .int i _=>some (.int i)
 | .str x _=>some (.str x)
 | .bytes b _=>some (.byt b)
 | .float b _=>some (.flt b)
 | .ref a=>some (.ref a)
 | .type n=>some (.ty n)
 | _=>none
theorem RelV.abs(r:RelV x u):ZuE u=some x:=by
 cases x with
 | non=>cases r;rfl
 | bl _=>cases r;rfl
 | int _=>obtain ⟨t,rfl⟩:=r;rfl
 | str _=>obtain ⟨t,rfl⟩:=r;rfl
 | byt _=>obtain ⟨t,rfl⟩:=r;rfl
 | flt _=>obtain ⟨t,rfl⟩:=r;rfl
 | ref _=>cases r;rfl
 | ty _=>cases r;rfl
theorem RelV.inj(r:RelV x u)(q:RelV y u):x=y:=Option.some.inj (r.abs.symm.trans q.abs)
theorem Zf.inj:∀ {xs ys:List V}{us:List Value},Zf xs us->Zf ys us->xs=ys
 | _,_,_,.nil,.nil=>rfl
 | _,_,_,.cons r t,.cons r' t'=>by rw [r.inj r',Zf.inj t t']
section
variable {X:Cx}{pins:List (Addr×Obj)}{Z:St}{H:Hp}{s:Shared}{a:Addr}{xs ys:List V}
theorem SqL.of{K:PySem.W.Frag}(h:H a=some (.lst xs)):SqL K H a xs:=.inl (.inl h)
theorem Inv.list(I:Inv X pins Z H s)(h:SqL X.K H a xs):∃ its:List Value,Zf xs its/\PlainL s.heap a its.toArray/\xs.length<=sizeLine:=by
 rcases h with h|⟨o,its,n,hk,hc,hd,hs,hz,r⟩
 . obtain ⟨z,its,n,r,e⟩:=h.ok I.hok;exact ⟨its,r,⟨_,n,e,rfl,rfl,rfl⟩,z⟩
 . refine ⟨its.toList,r,⟨o,n,I.kIn a o hk,hc,hd,by simpa using hs⟩,?_⟩;have e:=r.length;simp only [Array.length_toList] at e
   lia
theorem Inv.tuple(I:Inv X pins Z H s)(h:SqT X.K H a xs):∃ its:List Value,Zf xs its/\IsTup s.heap a its.toArray/\xs.length<=sizeLine:=by
 rcases h with h|⟨o,its,n,hk,hc,hs,hz,r⟩
 . obtain ⟨z,its,r,p⟩:=h.ok I.hok;exact ⟨its,r,p.tup,z⟩
 . refine ⟨its.toList,r,⟨o,I.kIn a o hk,hc,n,by simpa using hs⟩,?_⟩;have e:=r.length;simp only [Array.length_toList] at e
   lia
theorem Inv.list_inj(I:Inv X pins Z H s)(h:SqL X.K H a xs)(h':SqL X.K H a ys):xs=ys:=by
 obtain ⟨its,r,⟨o,n,e,_,_,d⟩,_⟩:=I.list h;obtain ⟨its',r',⟨o',n',e',_,_,d'⟩,_⟩:=I.list h';rw [e] at e';cases e';rw [d] at d';injection d' with d1 _;have:its=its':=by simpa using congrArg Array.toList d1
 subst this;exact r.inj r'
theorem Inv.tuple_inj(I:Inv X pins Z H s)(h:SqT X.K H a xs)(h':SqT X.K H a ys):xs=ys:=by
 obtain ⟨its,r,⟨o,e,_,n,d⟩,_⟩:=I.tuple h;obtain ⟨its',r',⟨o',e',_,n',d'⟩,_⟩:=I.tuple h';rw [e] at e';cases e';rw [d] at d';injection d' with d1 _;have:its=its':=by simpa using congrArg Array.toList d1
 subst this;exact r.inj r'
end
section
variable {X:Cx}{st:Stmt}{rest:List Stmt}{t u:TS}{e:Expr}{te:TE}{pos:Pos}
noncomputable def Zot:TS:=fun D Z H=>D.nx Z H
noncomputable def Ztv(t u:TS):TS:=fun D Z H=>t {D with nx:=u D} Z H
theorem ZmW:PSs X [] Zot:=fun _ _ Z H _ I h=>wpAny_execs_nil ⟨Z,H,I,h⟩
theorem Zk9(h1:PS X st t)(h2:PSs X rest u):PSs X (st::rest) (Ztv t u):=by
 intro pins s Z H D I h;refine wpAny_execs_cons (thn (h1 pins s Z H {D with nx:=u D} I h) fun f s1 q=>?_);cases f with
 | next =>
   obtain ⟨σ',H',I',q⟩:=q;exact h2 pins s1 σ' H' D I' q
 | ret v=>exact q
 | brk=>exact q
 | cont=>exact q
noncomputable def Zo9:TS:=fun D Z H=>D.bk Z H
noncomputable def Zro:TS:=fun D Z H=>D.ct Z H
theorem ZmX:PS X (.Pass pos) Zot:=fun _ _ Z H _ I h=>wpAny_Pass ⟨Z,H,I,h⟩
theorem Zlc:PS X (.Break pos) Zo9:=fun _ _ Z H _ I h=>wpAny_Break ⟨Z,H,I,h⟩
theorem ZgV:PS X (.Continue pos) Zro:=fun _ _ Z H _ I h=>wpAny_Continue ⟨Z,H,I,h⟩
theorem Inv.quiet(I:Inv X pins Z H s):interactive X.env=false:=by simp [interactive,I.ok.kind]
noncomputable def Zrm(te:TE):TS:=fun D Z H=>te Z H fun _ H1=>D.nx Z H1
theorem ZmY(he:PE X e te)(hs:swapsWith e none pos.line X.env=pure false:=by rfl):PS X (.Expr e pos) (Zrm te):=by
 intro pins s Z H D I h;exact wpAny_Expr_any (thn (he pins s Z H _ I h) fun v s1 ⟨x,H1,I1,r1,q1⟩=>⟨Z,H1,I1,q1⟩) I.quiet hs
noncomputable def Ztw(te:TE):TS:=fun D Z H=>te Z H D.rt
theorem Zpp(he:PE X e te):PS X (.Return (some e) pos) (Ztw te):=by
 intro pins s Z H D I h;exact wpAny_Return_some (thn (he pins s Z H _ I h) fun v s1 ⟨x,H1,I1,r1,q1⟩=>⟨x,Z,H1,I1,r1,q1⟩)
noncomputable def ZtA(c:TT)(t u:TS):TS:=fun D Z H=>c Z H fun b H1=>if b=true then t D Z H1 else u D Z H1
theorem ZrR(hc:PT X c tc)(ha:PSs X a t)(hb:PSs X b u):PS X (.If c a b pos) (ZtA tc t u):=by
 intro pins s Z H D I h;refine wpAny_If (thn (hc pins s Z H _ I h) fun d s1 ⟨H1,I1,q1⟩=>?_);cases d with
 | true=>exact ha pins s1 Z H1 D I1 q1
 | false=>exact hb pins s1 Z H1 D I1 q1
end
noncomputable abbrev TG:=V->St->Hp->(St->Hp->Prop)->Prop
noncomputable abbrev TGs:=List V->St->Hp->(St->Hp->Prop)->Prop
noncomputable def PG(X:Cx)(target:Expr)(t:TG):Prop :=
 ∀ (pins:List (Addr×Obj)) (s:Shared) (Z:St) (H:Hp) (v:V) (u:Value) (Q:St->Hp->Prop),Inv X pins Z H s->RelV v u->t v Z H Q ->
   wpAny (model X.prog X.w) X.A (assign target X.env u) (fun _ s'=>∃ σ' H',Inv X pins σ' H' s'/\Q σ' H') X.xe s
noncomputable def PGs(X:Cx)(ts:List Expr)(t:TGs):Prop :=
 ∀ (pins:List (Addr×Obj)) (s:Shared) (Z:St) (H:Hp) (vs:List V) (us:List Value) (Q:St->Hp->Prop),Inv X pins Z H s->Zf vs us->t vs Z H Q ->
   wpAny (model X.prog X.w) X.A (assignInOrder ((assignEach ts X.env).map (·.2)) us) (fun _ s'=>∃ σ' H',Inv X pins σ' H' s'/\Q σ' H') X.xe s
noncomputable abbrev Zkx:=V->V->V->Hp->(Hp->Prop)->Prop
noncomputable def Zky(X:Cx)(t:Zkx):Prop :=
 ∀ (pins:List (Addr×Obj)) (s:Shared) (Z:St) (H:Hp) (o i v:V) (ov iv u:Value) (Q:Hp->Prop),Inv X pins Z H s->RelV o ov->RelV i iv->RelV v u->t o i v H Q ->
   wpAny (model X.prog X.w) X.A (setItem ov iv u) (fun _ s'=>∃ H',Inv X pins Z H' s'/\Q H') X.xe s
noncomputable abbrev TIp:=V->V->Hp->VK->Prop
noncomputable def PIp(X:Cx)(op:Operator)(t:TIp):Prop :=
 ∀ (pins:List (Addr×Obj)) (s:Shared) (Z:St) (H:Hp) (x y:V) (v u:Value) (Q:VK),Inv X pins Z H s->RelV x v->RelV y u->t x y H Q ->
   wpAny (model X.prog X.w) X.A (inplaceOp op v u) (EP X pins Z Q) X.xe s
section
variable {X:Cx}{pos:Pos}
noncomputable def ZbL(i:Nat):TG:=fun v Z H Q=>Q (Z.set i (some v)) H
theorem Zjh(hN:X.N.Nodup)(hi:X.N[i]? = some x)(hx:Loc X.env.scope x)(hf:X.fn x=true\/X.env.scope.names.lookup x=some .local:=by first|exact .inl rfl|exact .inr rfl|assumption):PG X (.Name x pos) (ZbL i):=by
 intro pins s Z H v u Q I r h;exact wpAny_assign_Name (Zew I hN hi hx r (fun s' I'=>⟨_,H,I',h⟩) hf)
noncomputable def ZnN:TGs:=fun vs Z H Q=>vs=[]/\Q Z H
noncomputable def Zhg(t:TG)(u:TGs):TGs:=fun vs Z H Q=>∃ v r,vs=v::r/\t v Z H fun σ' H'=>u r σ' H' Q
theorem Zjf:PGs X [] ZnN:=by
 intro pins s Z H vs us Q I r h;obtain ⟨e,h⟩:=h;subst e;cases r;exact assignInOrder_nil ⟨Z,H,I,h⟩
theorem ZeH(h1:PG X e t)(h2:PGs X es u)
   (hs:(assignEach (e::es) X.env).map (·.2)=assign e X.env::(assignEach es X.env).map (·.2):=by rfl):PGs X (e::es) (Zhg t u):=by
 intro pins s Z H vs us Q I r h;obtain ⟨v,vr,e1,h⟩:=h;subst e1;cases r with
 | cons r rr =>
   rw [hs];refine assignInOrder_cons (thn (h1 pins s Z H _ _ _ I r h) fun _ s1 ⟨σ1,H1,I1,q1⟩=>?_);exact h2 pins s1 σ1 H1 _ _ Q I1 rr q1
noncomputable def ZnM(K:PySem.W.Frag)(n:Nat)(t:TGs):TG:=fun v Z H Q=>∃ a xs,v=.ref a/\SqT K H a xs/\xs.length=n/\t xs Z H Q
theorem Zlg(hc:X.calm=true)(h:PGs X es t)
   (hn:(assignEach es X.env).length=n:=by rfl) (hst:(assignEach es X.env).findIdx? (·.1)=none:=by rfl):PG X (.Tuple es k pos) (ZnM X.K n t):=by
 intro pins s Z H v u Q I r hw;obtain ⟨a,xs,e1,hq,hl,hw⟩:=hw;subst e1;cases r;obtain ⟨its,rv,ht,hz⟩:=I.tuple hq;refine assign_Tuple_tuple (I.ok.hd hc) ht (by simp [hn,<- hl,rv.length]) hst fun h' hx=>?_;have I1:Inv X pins Z H {s with heap:=h'}:=I.kept (t':=s.toks) fun b o e=>hx b o (Ou (Heap.lt_size e)) e;exact h pins _ Z H xs _ Q I1 (by simpa using rv) hw
noncomputable def Zt9(to ti:TE)(t:Zkx):TG:=fun v Z H Q=>to Z H fun o H1=>ti Z H1 fun i H2=>t o i v H2 fun H3=>Q Z H3
theorem Zlh(ho:PE X o to)(hi:PE X i ti)(hs:Zky X t)
   (ha:∀ v,assign (.Subscript o i pos) X.env v=(do
     let ov <- holding [v] (eval o X.env);let iv <- holding [v,ov] (eval i X.env)
     standAt pos
     holding [v,ov,iv] (setItem ov iv v)
     release [v,ov,iv] []):=by intro _;rfl):PG X (.Subscript o i pos) (Zt9 to ti t):=by
 intro pins s Z H v u Q I r h;rw [ha];refine wpAny_bind (wpAny_holding (thn (ho pins s Z H _ I h) fun ov s1 ⟨x,H1,I1,r1,q1⟩=>?_));refine wpAny_bind (wpAny_holding (thn (hi pins s1 Z H1 _ I1 q1) fun iv s2 ⟨y,H2,I2,r2,q2⟩=>?_));refine wpAny_bind (wpAny_standAt (wpAny_bind (wpAny_holding (thn (hs pins s2 Z H2 x y v ov iv u _ I2 r1 r2 r q2) fun _ s3 ⟨H3,I3,q3⟩=>?_))));exact wpAny_release ⟨Z,H3,I3,q3⟩
noncomputable def ZhV(te:TE)(g:TG):TS:=fun D Z H=>te Z H fun x H1=>g x Z H1 D.nx
theorem Zh3(he:PE X e te)(hg:PG X tg g)(hs:swapsWithSole [tg] e pos.line X.env=pure false:=by rfl)(hw:swappedStores [tg] e X.env=pure none:=by rfl)
   (h1:(assignEach [tg] X.env).map (·.2)=[assign tg X.env]:=by rfl):PS X (.Assign [tg] e pos) (ZhV te g):=by
 intro pins s Z H D I h;refine wpAny_Assign_stores (thn (he pins s Z H _ I h) fun v s1 ⟨x,H1,I1,r1,q1⟩=>?_) hs hw;rw [h1];exact thn (hg pins s1 Z H1 x v _ I1 r1 q1) fun _ s2 q=>q
theorem Zlb(hN:X.N.Nodup)(hi:X.N[i]? = some x)(hx:Loc X.env.scope x)(he:PE X e te)(hs:swapsWith e (some (.Name x pos')) pos.line X.env=pure false:=by rfl)(hf:X.fn x=true\/X.env.scope.names.lookup x=some .local:=by first|exact .inl rfl|exact .inr rfl|assumption) :
   PS X (.Assign [.Name x pos'] e pos) (ZhV te (ZbL i)):=by
 intro pins s Z H D I h;refine wpAny_Assign_Name (thn (he pins s Z H _ I h) fun v s1 ⟨y,H1,I1,r1,q1⟩=>?_) hs;exact Zew I1 hN hi hx r1 (fun s2 I2=>⟨_,H1,I2,q1⟩) hf
noncomputable def ZtF(i:Nat)(te:TE)(ti:TIp):TS:=fun D Z H=>∃ x,Z[i]? = some (some x)/\te Z H fun y H1=>ti x y H1 fun z H2=>D.nx (Z.set i (some z)) H2
theorem Zps(hN:X.N.Nodup)(hi:X.N[i]? = some x)(hx:Loc X.env.scope x)(he:PE X e te)(ho:PIp X op ti)(hf:X.fn x=true\/X.env.scope.names.lookup x=some .local:=by first|exact .inl rfl|exact .inr rfl|assumption) :
   PS X (.AugAssign (.Name x pos') op e pos) (ZtF i te ti):=by
 intro pins s Z H D I h;obtain ⟨v,e1,h⟩:=h;obtain ⟨m,hn,hl⟩:=I.loc;have vis:Vis X.env.scope x:=by rcases hx with k|k;exact .inl k;exact .inr (.inl k)
 obtain ⟨u,r,l⟩:=hl i x v hi e1 vis;refine wpAny_AugAssign_Name ?_;have go:wpAny (model X.prog X.w) X.A (eval e X.env) (fun w s₂=>wpAny (model X.prog X.w) X.A (inplaceOp op u w) (fun r s₃=>wpAny (model X.prog X.w) X.A (storeName X.env x r) (fun _=>SP X pins D .next) X.xe s₃) X.xe s₂) X.xe s:=by
   refine thn (he pins s Z H _ I h) fun w s1 ⟨y,H1,I1,r1,q1⟩=>?_;refine thn (ho pins s1 Z H1 v y u w _ I1 r r1 q1) fun z s2 ⟨zv,H2,I2,r2,q2⟩=>?_;exact Zew I2 hN hi hx r2 (fun s3 I3=>⟨_,H2,I3,q2⟩) hf
 rcases l with ⟨hk,hm⟩|⟨hk,c,hc,hcell⟩
 . exact wpAny_loadName_local I.ok.kind hk hn hm go
 . rcases hk with hk|hk
   . exact wpAny_loadName_cell I.ok.kind hk hc hcell go
   . rcases hx with k|k
     . have:X.env.scope.names.lookup x=some .free:=hk;rw [k] at this;cases this
     . have:X.env.scope.names.lookup x=some .free:=hk;rw [k] at this;cases this
noncomputable def ipI(f:Int->Int->Int):TIp:=fun x y H Q=>∃ i j,x=.int i/\y=.int j/\Q (.int (f i j)) H
theorem Zqn:PIp X .Add (ipI fun i j=>i+j):=by
 intro pins s Z H x y v u Q I r1 r2 h;obtain ⟨i,j,e1,e2,q⟩:=h;subst e1;subst e2;obtain ⟨t,rfl⟩:=r1;obtain ⟨t',rfl⟩:=r2;exact iadd_int ⟨.int _,H,I.tok _,⟨_,rfl⟩,q⟩
end
section
variable {X:Cx}{pos:Pos}
noncomputable def ZkK(c:TT)(tb:TS):TS:=fun D Z H=>∃ W:Nat->St->Hp->Prop,(∃ m,W m Z H)/\∀ m Z H,W m Z H ->
 c Z H fun b H1=>if b=true then ∃ N:St->Hp->Prop,(∀ σ' H',N σ' H'->∃ m',m'<m/\W m' σ' H')/\tb {D with nx:=N,ct:=N,bk:=D.nx} Z H1 else D.nx Z H1
theorem Zla(hp:PassesOwn (model X.prog X.w) X.A X.env X.xe)(hc:PT X c tc)(hb:PSs X body tb):PS X (.While c body [] pos) (ZkK tc tb):=by
 intro pins s Z H D I h;obtain ⟨W,⟨m0,w0⟩,turn⟩:=h;refine wpAny_While (codeAny_whileLoop (fun n s'=>∃ σ' H',Inv X pins σ' H' s'/\W n σ' H') ?_ m0 ⟨Z,H,I,w0⟩);rintro n s1 ⟨σ1,H1,I1,w1⟩;refine wpAny_passesOwn hp (thn (hc pins s1 σ1 H1 _ I1 (turn n σ1 H1 w1)) fun b s2 ⟨H2,I2,q2⟩=>?_);cases b with
 | true =>
   obtain ⟨N,hN,q2⟩:=q2;rw [if_pos rfl];refine wpAny_passesOwn hp (thn (hb pins s2 σ1 H2 _ I2 q2) fun f s3 q3=>?_);cases f with
   | next =>
     obtain ⟨σ3,H3,I3,n3⟩:=q3;obtain ⟨m',hm,w3⟩:=hN σ3 H3 n3;exact ⟨m',hm,σ3,H3,I3,w3⟩
   | cont =>
     obtain ⟨σ3,H3,I3,n3⟩:=q3;obtain ⟨m',hm,w3⟩:=hN σ3 H3 n3;exact ⟨m',hm,σ3,H3,I3,w3⟩
   | brk=>exact q3
   | ret v=>exact q3
 | false =>
   rw [if_neg Ow];exact wpAny_execs_nil ⟨σ1,H2,I2,q2⟩
end
structure It where
 go:Nat->Hp->Prop
 yld:Nat->Hp->V->Hp->Prop
 stop:Nat->Hp->Prop
noncomputable def ZcC(X:Cx)(pins:List (Addr×Obj))(H:Hp)(b:Addr):Prop :=
 H b=none/\b≠X.env.locals/\b ∉ X.fs/\(b∈X.ex\/X.s₀.heap.objs.size<=b)/\(∀ x c,X.env.cells.lookup x=some c->c≠b)/\∀ p∈X.pn++pins,p.1≠b
theorem Inv.fpOk(I:Inv X pins Z H s)(hb:s.heap.objs.size<=b)(hn:H' b=none):ZcC X pins H' b:=by
 refine ⟨hn,Nat.ne_of_gt (Ot I.lt hb),I.nofs hb,.inr (OE I.sz hb),fun x c e z=>?_,fun p hp z=>?_⟩
 . obtain ⟨v,q⟩:=I.cell x c e;exact absurd (Ot q.lt (by rw [z];exact hb)) (Nat.lt_irrefl _)
 . exact absurd (Ot (Heap.lt_size (I.pin p hp).1) (by rw [z];exact hb)) (Nat.lt_irrefl _)
structure Turn(P:Program)(w:World)(K:PySem.W.Frag)(tg:Expr)(J:It)(fp:List Addr)(it:Addr)(tn:Nat->Heap->Prop):Prop where
 mem:it∈fp
 obj:∀ i h,tn i h->∀ b∈fp,∃ o,h.get? b=some o/\∀ v,o.data≠.cell v
 keep:∀ i h h',tn i h->(∀ b∈fp,∀ o,h.get? b=some o->h'.get? b=some o)->tn i h'
 item:∀ (X:Cx),X.prog=P->X.w=w->X.K=K->X.calm=true->∀ (i:Nat) (pins:List (Addr×Obj)) (s:Shared) (Z:St) (H:Hp) (E:Value->Shared->Prop),Inv X pins Z H s->(∀ b∈fp,ZcC X pins H b)->tn i s.heap->J.go i H ->
   wpAny (model P w) X.A (pyNext (.ref it)) (fun r s1=>∃ u,r=some u /\
     wpAny (model P w) X.A (letOwnedTupleGo tg (.ref it) u) (fun _ s2=>∃ x H',Inv X pins Z H' s2/\RelV x u/\J.yld i H x H'/\tn (i+1) s2.heap/\∀ b∈fp,H' b=none) E s1) E s
 done:∀ (X:Cx),X.prog=P->X.w=w->X.K=K->X.calm=true->∀ (i:Nat) (pins:List (Addr×Obj)) (s:Shared) (Z:St) (H:Hp) (E:Value->Shared->Prop),Inv X pins Z H s->(∀ b∈fp,ZcC X pins H b)->tn i s.heap->J.stop i H ->
   wpAny (model P w) X.A (pyNext (.ref it)) (fun r s1=>r=none/\Inv X pins Z H s1) E s
 self:∀ (A:Around) (i:Nat) (s:Shared) (Q:Value->Shared->Prop) (E:Value->Shared->Prop),tn i s.heap->Q (.ref it) s->wpAny (model P w) A (pyIter (.ref it)) Q E s
noncomputable abbrev TI:=St->Hp->(It->Hp->Prop)->Prop
noncomputable def PIE(X:Cx)(pins:List (Addr×Obj))(Z:St)(tg:Expr)(R:It->Hp->Prop)(itv:Value)(s2:Shared):Prop :=
 ∃ (it:Addr) (fp:List Addr) (tn:Nat->Heap->Prop) (J:It) (H':Hp),itv=.ref it/\Inv X pins Z H' s2/\Turn X.prog X.w X.K tg J fp it tn/\tn 0 s2.heap/\(∀ b∈fp,ZcC X pins H' b)/\R J H'
noncomputable def PI(X:Cx)(tg iter:Expr)(wi:TI):Prop :=
 ∀ (pins:List (Addr×Obj)) (s:Shared) (Z:St) (H:Hp) (R:It->Hp->Prop),Inv X pins Z H s->wi Z H R ->
   wpAny (model X.prog X.w) X.A (eval iter X.env) (fun v s1=>wpAny (model X.prog X.w) X.A (pyIter v) (PIE X pins Z tg R) X.xe s1) X.xe s
theorem Zhe(ho:s.heap.get? it=some o)(hc:o.cls=.type n)(hd:o.data=.fields vs)
   (hn:["enumerate", "zip", "dict_itemiterator", "dict_reverseitemiterator", "odict_iterator", "itertools.zip_longest", "itertools.pairwise"].contains n=false) (hQ:Q () s):wpAny M A (letOwnedTupleGo tg (.ref it) u) Q E s:=by
 unfold letOwnedTupleGo;cases tg<;>first
   | exact wpAny_pure hQ
   | (cases u<;>first
       | exact wpAny_pure hQ
       | (refine wpAny_bind (wpAny_load ho ?_)
          rw [hc,hd];show wpAny M A (if (["enumerate", "zip", "dict_itemiterator", "dict_reverseitemiterator", "odict_iterator", "itertools.zip_longest", "itertools.pairwise"].contains n&&vs[0]?==some (rawInt _))=true then _ else _) Q E s;rw [if_neg (by intro h;rw [hn,Bool.false_and] at h;cases h)];exact wpAny_pure hQ))
noncomputable def Itl(K:PySem.W.Frag)(a:Addr):It :=
 ⟨fun i H=>∃ xs x,SqL K H a xs/\xs[i]? = some x,fun i H x H'=>H'=H/\∀ xs,SqL K H a xs->xs[i]? = some x,fun i H=>∃ xs,SqL K H a xs/\xs.length<=i⟩
noncomputable def Itt(K:PySem.W.Frag)(a:Addr):It :=
 ⟨fun i H=>∃ xs x,SqT K H a xs/\xs[i]? = some x,fun i H x H'=>H'=H/\∀ xs,SqT K H a xs->xs[i]? = some x,fun i H=>∃ xs,SqT K H a xs/\xs.length<=i⟩
noncomputable def Itr(lo:Int)(n:Nat):It:=⟨fun i _=>i<n,fun i H x H'=>H'=H/\x=.int (lo+i),fun i _=>n<=i⟩
theorem ZjU{P:Program}{w:World}{K:PySem.W.Frag}{tg:Expr}(a it:Addr):Turn P w K tg (Itl K a) [it] it (fun i h=>h.IsListIter it a i) where
 mem:=by simp
 obj:=fun i h st b hb=>by
   have e:b=it:=by simpa using hb
   subst e;obtain ⟨o,e,c,d⟩:=st;exact ⟨o,e,fun v z=>by rw [d] at z;cases z⟩
 keep:=fun i h h' st k=>st.at fun o e=>k it (by simp) o e
 item:=by
   intro X hP hw hK hc i pins s Z H E I hf st hg;subst hP hw hK;obtain ⟨xs,x,hq,hx⟩:=hg;obtain ⟨its,rv,p,hz⟩:=I.list hq;obtain ⟨u,hu,ru⟩:=rv.get hx;obtain ⟨f0,f1,f2,f3,f4,f5⟩:=hf it (by simp);refine wpAny_pyNext_list_item st p.isList (x:=u) (by simpa using hu) fun h' st' sb=>?_;have I1:Inv X pins Z H {s with heap:=h'}:=I.turned (t':=s.toks) (fun b o hb e=>(sb.2 b hb).trans e) f0 f1 f3 f4 f5;obtain ⟨o,e,c,d⟩:=id st';exact ⟨u,rfl,Zhe (s:={s with heap:=h'}) e c d (by decide) ⟨x,H,I1,ru,⟨rfl,fun ys hy=>by rw [I.list_inj hy hq];exact hx⟩,st',fun b hb=>(hf b hb).1⟩⟩
 done:=by
   intro X hP hw hK hc i pins s Z H E I hf st hg;subst hP hw hK;obtain ⟨xs,hq,hx⟩:=hg;obtain ⟨its,rv,p,hz⟩:=I.list hq;obtain ⟨f0,f1,f2,f3,f4,f5⟩:=hf it (by simp);have hl:=rv.length;exact wpAny_pyNext_list_end (I.ok.hd hc) st p.isList (by simp;lia) fun h' eb=>⟨rfl,I.turned (t':=s.toks) (fun b o hb e=>eb b o hb e) f0 f1 f3 f4 f5⟩
 self:=fun _ _ _ _ _ st h=>wpAny_pyIter_listiter st h
theorem ZhQ{P:Program}{w:World}{K:PySem.W.Frag}{tg:Expr}(a it:Addr):Turn P w K tg (Itt K a) [it] it (fun i h=>h.IsTupleIter it a i) where
 mem:=by simp
 obj:=fun i h st b hb=>by
   have e:b=it:=by simpa using hb
   subst e;obtain ⟨o,e,c,d⟩:=st;exact ⟨o,e,fun v z=>by rw [d] at z;cases z⟩
 keep:=fun i h h' st k=>st.at fun o e=>k it (by simp) o e
 item:=by
   intro X hP hw hK hc i pins s Z H E I hf st hg;subst hP hw hK;obtain ⟨xs,x,hq,hx⟩:=hg;obtain ⟨its,rv,p,hz⟩:=I.tuple hq;obtain ⟨u,hu,ru⟩:=rv.get hx;obtain ⟨f0,f1,f2,f3,f4,f5⟩:=hf it (by simp);refine wpAny_pyNext_tuple_item st (show s.heap.IsTuple a its.toArray from p) (x:=u) (by simpa using hu) fun h' st' sb=>?_;have I1:Inv X pins Z H {s with heap:=h'}:=I.turned (t':=s.toks) (fun b o hb e=>(sb.2 b hb).trans e) f0 f1 f3 f4 f5;obtain ⟨o,e,c,d⟩:=id st';exact ⟨u,rfl,Zhe (s:={s with heap:=h'}) e c d (by decide) ⟨x,H,I1,ru,⟨rfl,fun ys hy=>by rw [I.tuple_inj hy hq];exact hx⟩,st',fun b hb=>(hf b hb).1⟩⟩
 done:=by
   intro X hP hw hK hc i pins s Z H E I hf st hg;subst hP hw hK;obtain ⟨xs,hq,hx⟩:=hg;obtain ⟨its,rv,p,hz⟩:=I.tuple hq;obtain ⟨f0,f1,f2,f3,f4,f5⟩:=hf it (by simp);have hl:=rv.length;exact wpAny_pyNext_tuple_end (I.ok.hd hc) st (show s.heap.IsTuple a its.toArray from p) (by simp;lia) fun h' eb=>⟨rfl,I.turned (t':=s.toks) (fun b o hb e=>eb b o hb e) f0 f1 f3 f4 f5⟩
 self:=fun _ _ _ _ _ st h=>wpAny_pyIter_tupleiter st h
theorem ZhR{P:Program}{w:World}{K:PySem.W.Frag}{tg:Expr}(it:Addr)(lo:Int)(n:Nat):Turn P w K tg (Itr lo n) [it] it (fun i h=>IsRangeIter h it (lo+(i:Nat) * 1) ((n:Int) - (i:Nat)) 1) where
 mem:=by simp
 obj:=fun i h st b hb=>by
   have e:b=it:=by simpa using hb
   subst e;exact ⟨_,st,fun v z=>by
     have z':Data.fields _=Data.cell v:=z;cases z'⟩
 keep:=fun i h h' st k=>k it (by simp) _ st
 item:=by
   intro X hP hw hK hc i pins s Z H E I hf st hg;subst hP hw hK;obtain ⟨f0,f1,f2,f3,f4,f5⟩:=hf it (by simp);have W:=Walks.range (prog:=X.prog) (w:=X.w) (I.ok.hd hc) it lo 1 n;refine W.item i s _ _ hg st fun v h' tk hv st' kk=>?_;obtain ⟨t,rfl⟩:=hv;have I1:Inv X pins Z H {s with heap:=h',toks:=tk}:=I.turned (fun b o hb e=>kk b o (by simpa using hb) e) f0 f1 f3 f4 f5;refine ⟨_,rfl,Zhe (s:={s with heap:=h',toks:=tk}) (n := "range_iterator") st' rfl rfl (by decide) ⟨.int (lo+i),H,I1,⟨t,?_⟩,⟨rfl,rfl⟩,st',fun b hb=>(hf b hb).1⟩⟩;rw [Int.mul_one]
 done:=by
   intro X hP hw hK hc i pins s Z H E I hf st hg;subst hP hw hK;obtain ⟨f0,f1,f2,f3,f4,f5⟩:=hf it (by simp);exact wpAny_pyNext_range_end (I.ok.hd hc) st (by have:n<=i:=hg;lia) fun h' eb=>⟨rfl,I.turned (t':=s.toks) (fun b o hb e=>eb b o hb e) f0 f1 f3 f4 f5⟩
 self:=fun _ _ _ _ _ st h=>wpAny_pyIter_rangeiter st h
end L2
namespace L2
open PySem PySem.Spec PyProof.Rows
section
variable {X:Cx}{tg:Expr}
theorem ZkX{pins:List (Addr×Obj)}{Z:St}{H:Hp}{s:Shared}{R:It->Hp->Prop}{E:Value->Shared->Prop}{lo hi:Int}{t u v:Tok}{tk:Nat}(I:Inv X pins Z H s)(h1:-(2 ^ 62)<=lo)(h2:lo<2 ^ 62)(h3:-(2 ^ 62)<=hi)(h4:hi<2 ^ 62)
   (q:R (Itr lo (hi - lo).toNat) H):wpAny (model X.prog X.w) X.A (pyIter (.ref s.heap.objs.size)) (PIE X pins Z tg R) E {s with heap:=s.heap.push {cls:=.type "range",data:=.fields #[.int lo t,.int hi u,.int 1 v]},toks:=tk}:=by
 refine wpAny_pyIter_range (IsRange.new ..) (small_one h1 h2 h3 h4) ?_;have I1:Inv X pins Z H {s with heap:=s.heap.push {cls:=.type "range",data:=.fields #[.int lo t,.int hi u,.int 1 v]},toks:=tk}:=I.kept fun b o e=>Od _ e;refine ⟨(s.heap.push {cls:=.type "range",data:=.fields #[.int lo t,.int hi u,.int 1 v]}).objs.size,[(s.heap.push {cls:=.type "range",data:=.fields #[.int lo t,.int hi u,.int 1 v]}).objs.size],_,_,H,rfl,
   I1.kept (t':=tk) fun b o e=>Od _ e,ZhR _ lo (hi - lo).toNat,?_,fun b hb=>?_,q⟩
 . have e1:lo+((0:Nat):Int) * 1=lo:=by simp
   have e2:(((hi - lo).toNat:Nat):Int) - ((0:Nat):Int)=Builtin.Range.rangeSize lo hi 1:=by rw [rangeSize_one];split<;>lia
   show IsRangeIter _ _ (lo+((0:Nat):Int) * 1) ((((hi - lo).toNat:Nat):Int) - ((0:Nat):Int)) 1;rw [e1,e2];exact Oj _ rfl
 . have e:b=(s.heap.push {cls:=.type "range",data:=.fields #[.int lo t,.int hi u,.int 1 v]}).objs.size:=by simpa using hb
   subst e;exact I1.fpOk (Oq _) (I1.hok.fresh (Oq _))
noncomputable def ZsC(ta:TA):TI:=fun Z H R=>ta Z H fun vs H1=>∃ j:Int,vs=[.int j]/\-(2 ^ 62)<=j/\j<2 ^ 62/\R (Itr 0 j.toNat) H1
theorem Zj5 {a:Expr}{ta:TA}{p pos:Pos} (hg:Gl X "range") (hm:X.mg "range" = none) (ha:PA X [a] ta) (hs:starEach [a] X.env=[(false,eval a X.env)]:=by rfl):PI X tg (.Call (.Name "range" p) [a] [] pos) (ZsC ta):=by
 intro pins s Z H R I h;refine Call_ (ZeQ I hg hm boot_range (PyProof.Rows.callWith_type1 (thn (ha pos pins s Z H _ I h) fun us s1 ⟨vs,H1,I1,r1,q1⟩=>?_) hs rfl));obtain ⟨j,e,q1,q2,q⟩:=q1;subst e;cases r1 with
 | cons r rr =>
   cases rr;obtain ⟨t,rfl⟩:=r;exact call_range_1 (ZkX I1 (by lia) (by lia) q1 q2 (by simpa using q))
noncomputable def ZtB(wi:TI)(g:TG)(tb:TS):TS:=fun D Z H=>wi Z H fun J H1=>∃ W:Nat->Nat->St->Hp->Prop,(∃ m,W 0 m Z H1)/\∀ i m Z H,W i m Z H ->
 (J.stop i H/\D.nx Z H)\/(J.go i H/\∃ N:St->Hp->Prop,(∀ σ' H',N σ' H'->∃ m',m'<m/\W (i+1) m' σ' H')/\∀ x H',J.yld i H x H'->g x Z H' fun σ2 H2=>tb {D with nx:=N,ct:=N,bk:=D.nx} σ2 H2)
noncomputable def ZeG(fp:List Addr)(h:Heap):List (Addr×Obj):=fp.filterMap fun b=>(h.get? b).map fun o=>(b,o)
theorem Zbz(hb:b∈fp)(e:h.get? b=some o):(b,o)∈ZeG fp h:=List.mem_filterMap.mpr ⟨b,hb,by rw [e];rfl⟩
theorem Zkc(hp:p∈ZeG fp h):p.1∈fp/\h.get? p.1=some p.2:=by
 obtain ⟨b,hb,e⟩:=List.mem_filterMap.mp hp;cases q:h.get? b with
 | none=>rw [q] at e;cases e
 | some o =>
   rw [q] at e;have e':(b,o)=p:=Option.some.inj e;subst e';exact ⟨hb,q⟩
theorem Inv.pinned(I:Inv X pins Z H s)(hf:∀ b∈fp,ZcC X pins H b)(ho:∀ b∈fp,∃ o,s.heap.get? b=some o/\∀ v,o.data≠.cell v):Inv X (pins++ZeG fp s.heap) Z H s :=
 I.pins_of fun p hp=>(OD.mp hp).elim (fun z=>I.pin p (Ov _ z)) fun z=>by
   obtain ⟨hb,e⟩:=Zkc z;obtain ⟨f0,f1,f2,_⟩:=hf p.1 hb;obtain ⟨o,e',d⟩:=ho p.1 hb;rw [e] at e';cases e';exact ⟨e,f0,f1,f2,d⟩
theorem Inv.unpinned(I:Inv X (pins++pl) Z H s):Inv X pins Z H s:=I.pins_of fun p hp=>I.pin p (Ov _ (List.mem_append_left _ hp))
theorem Zpq(hp:PassesOwn (model X.prog X.w) X.A X.env X.xe)(hc:X.calm=true)(hi:PI X tg iter wi)(hg:PG X tg g)(hb:PSs X body tb)
   (hs:∀ x,foldedSetIterable iter X.env x=pure x:=by intro _;rfl):PS X (.For tg iter body [] pos) (ZtB wi g tb):=by
 intro pins s Z H D I h;refine wpAny_For (thn (hi pins s Z H _ I h) fun v s1 h1=>thn h1 fun itv s2 h2=>?_) hs;obtain ⟨it,fp,tn,J,H2,e,I2,T,st2,f2,W,⟨m0,w0⟩,turn⟩:=h2;subst e;have stat:∀ {H':Hp},(∀ b∈fp,H' b=none)->∀ b∈fp,ZcC X pins H' b:=fun hn b hb=>⟨hn b hb,(f2 b hb).2⟩
 refine codeAny_forLoop_any (fun n s'=>∃ i σ' H',Inv X pins σ' H' s'/\tn i s'.heap/\(∀ b∈fp,H' b=none)/\W i n σ' H') ?_ m0 ⟨0,Z,H2,I2,st2,fun b hb=>(f2 b hb).1,w0⟩;rintro n s3 ⟨i,σ3,H3,I3,st3,fr3,w3⟩;rcases turn i n σ3 H3 w3 with ⟨stop,qn⟩|⟨go,N,hN,step⟩
 . refine wpAny_passesOwn hp (thn (T.done X rfl rfl rfl hc i pins s3 σ3 H3 X.xe I3 (stat fr3) st3 stop) fun r s4 ⟨hr,I4⟩=>?_);subst hr;exact wpAny_execs_nil ⟨σ3,H3,I4,qn⟩
 . refine wpAny_passesOwn hp (thn (T.item X rfl rfl rfl hc i pins s3 σ3 H3 X.xe I3 (stat fr3) st3 go) fun r s4 ⟨u,hr,h4⟩=>?_);subst hr;refine wpAny_passesOwn hp (thn h4 fun _ s5 ⟨x,H5,I5,r5,y5,st5,fr5⟩=>?_);have I5':=I5.pinned (stat fr5) (T.obj _ _ st5);refine wpAny_passesOwn hp (thn (hg _ s5 σ3 H5 x u _ I5' r5 (step x H5 y5)) fun _ s6 ⟨σ6,H6,I6,q6⟩=>?_);refine wpAny_passesOwn hp (thn (hb _ s6 σ6 H6 _ I6 q6) fun f s7 q7=>?_);have again:∀ {σ7:St}{H7:Hp},Inv X (pins++ZeG fp s5.heap) σ7 H7 s7->N σ7 H7->∃ m,m<n/\∃ i σ' H',Inv X pins σ' H' s7/\tn i s7.heap/\(∀ b∈fp,H' b=none)/\W i m σ' H':=fun {σ7 H7} I7 n7=>by
     obtain ⟨m',hm,w7⟩:=hN σ7 H7 n7;refine ⟨m',hm,i+1,σ7,H7,I7.unpinned,T.keep _ _ _ st5 fun b hb o e=>(I7.pin (b,o) (Ov _ (Ov _ (Zbz hb e)))).1,fun b hb=>?_,w7⟩;obtain ⟨o,e,d⟩:=T.obj _ _ st5 b hb;exact (I7.pin (b,o) (Ov _ (Ov _ (Zbz hb e)))).2.1
   cases f with
   | next=>obtain ⟨σ7,H7,I7,n7⟩:=q7;exact again I7 n7
   | cont=>obtain ⟨σ7,H7,I7,n7⟩:=q7;exact again I7 n7
   | brk=>obtain ⟨σ7,H7,I7,q7⟩:=q7;exact ⟨σ7,H7,I7.unpinned,q7⟩
   | ret v=>obtain ⟨x7,σ7,H7,I7,r7,q7⟩:=q7;exact ⟨x7,σ7,H7,I7.unpinned,r7,q7⟩
end
end L2
namespace L2
open PySem PySem.Spec PyProof.Rows
noncomputable abbrev R2:=V->V->Hp->VK->Prop
noncomputable def OpR(X:Cx)(f:Value->Value->Sem Value)(r:R2):Prop :=
 ∀ (pins:List (Addr×Obj)) (s:Shared) (Z:St) (H:Hp) (x y:V) (v u:Value) (Q:VK),Inv X pins Z H s->RelV x v->RelV y u->r x y H Q ->
   wpAny (model X.prog X.w) X.A (f v u) (EP X pins Z Q) X.xe s
noncomputable def UnR(X:Cx)(f:Value->Sem Value)(r:V->Hp->VK->Prop):Prop :=
 ∀ (pins:List (Addr×Obj)) (s:Shared) (Z:St) (H:Hp) (x:V) (v:Value) (Q:VK),Inv X pins Z H s->RelV x v->r x H Q ->
   wpAny (model X.prog X.w) X.A (f v) (EP X pins Z Q) X.xe s
noncomputable def Zae(X:Cx)(f:Value)(r:List V->Hp->VK->Prop):Prop :=
 ∀ (pins:List (Addr×Obj)) (s:Shared) (Z:St) (H:Hp) (xs:List V) (us:List Value) (Q:VK),Inv X pins Z H s->Zf xs us->r xs H Q ->
   wpAny (model X.prog X.w) X.A (call f us) (EP X pins Z Q) X.xe s
noncomputable def ZuF(X:Cx)(r:V->Hp->(Bool->Hp->Prop)->Prop):Prop :=
 ∀ (pins:List (Addr×Obj)) (s:Shared) (Z:St) (H:Hp) (x:V) (v:Value) (Q:Bool->Hp->Prop),Inv X pins Z H s->RelV x v->r x H Q ->
   wpAny (model X.prog X.w) X.A (truthy v) (TP X pins Z Q) X.xe s
noncomputable def tOp(r:R2)(ta tb:TE):TE:=fun Z H Q=>ta Z H fun x H1=>tb Z H1 fun y H2=>r x y H2 Q
noncomputable def tUn(r:V->Hp->VK->Prop)(ta:TE):TE:=fun Z H Q=>ta Z H fun x H1=>r x H1 Q
noncomputable def rI(C:Int->Int->Prop)(g:Int->Int->V):R2:=fun x y H Q=>∃ i j,x=.int i/\y=.int j/\C i j/\Q (g i j) H
noncomputable def rI0(g:Int->Int->V):R2:=fun x y H Q=>∃ i j,x=.int i/\y=.int j/\Q (g i j) H
noncomputable def rU(g:Int->V):V->Hp->VK->Prop:=fun x H Q=>∃ i,x=.int i/\Q (g i) H
section
variable {X:Cx}{a b c:Expr}{ta tb tc:TE}{pos:Pos}
theorem ZqL(ha:PE X a ta)(hb:PE X b tb){pins:List (Addr×Obj)}{s:Shared}{Z:St}{H:Hp}{R:V->V->Hp->Prop}(I:Inv X pins Z H s)
   (h:ta Z H fun x H1=>tb Z H1 fun y H2=>R x y H2) {Q:Value->Shared->Prop}{f:Value->Value->Sem Value}
   (hf:∀ v u s2 x y H2,Inv X pins Z H2 s2->RelV x v->RelV y u->R x y H2->wpAny (model X.prog X.w) X.A (f v u) Q X.xe s2) :
   wpAny (model X.prog X.w) X.A (eval a X.env) (fun v s₁=>wpAny (model X.prog X.w) X.A (eval b X.env) (fun u s₂=>wpAny (model X.prog X.w) X.A (f v u) Q X.xe s₂) X.xe s₁) X.xe s:=by
 refine thn (ha pins s Z H _ I h) fun v s1 ⟨x,H1,I1,r1,q1⟩=>?_;refine thn (hb pins s1 Z H1 _ I1 q1) fun u s2 ⟨y,H2,I2,r2,q2⟩=>?_;exact hf v u s2 x y H2 I2 r1 r2 q2
theorem ZrV{op:Operator}{r:R2}(ho:OpR X (binaryOp op) r)(ha:PE X a ta)(hb:PE X b tb):PE X (.BinOp a op b pos) (tOp r ta tb):=by
 intro pins s Z H Q I h;exact wpAny_BinOp (ZqL ha hb I h fun v u s2 x y H2 I2 rx ry q=>ho pins s2 Z H2 x y v u Q I2 rx ry q)
theorem ZrT{op:UnaryOp}{r:V->Hp->VK->Prop}(ho:UnR X (unaryOp op) r)(ha:PE X a ta):PE X (.UnaryOp op a pos) (tUn r ta):=by
 intro pins s Z H Q I h;exact UnaryOp_ (thn (ha pins s Z H _ I h) fun v s1 ⟨x,H1,I1,r1,q1⟩=>ho pins s1 Z H1 x v Q I1 r1 q1)
theorem opI{f:Value->Value->Sem Value}{C:Int->Int->Prop}{g:Int->Int->Int}
   (rule:∀ (i j:Int) (t u:Tok) (s:Shared) (Q:Value->Shared->Prop) (E:Value->Shared->Prop),C i j->Q (.int (g i j) s.toks) {s with toks:=s.toks+1}->wpAny (model X.prog X.w) X.A (f (.int i t) (.int j u)) Q E s) :
   OpR X f (rI C fun i j=>.int (g i j)):=by
 intro pins s Z H x y v u Q I rx ry h;obtain ⟨i,j,rfl,rfl,hc,q⟩:=h;obtain ⟨t,rfl⟩:=rx;obtain ⟨t',rfl⟩:=ry;exact rule i j t t' s _ _ hc ⟨.int (g i j),H,I.tok _,⟨_,rfl⟩,q⟩
theorem Zr6{g:Int->Int->Int}
   (rule:∀ (i j:Int) (t u:Tok) (s:Shared) (Q:Value->Shared->Prop) (E:Value->Shared->Prop),Q (.int (g i j) s.toks) {s with toks:=s.toks+1}->wpAny (model X.prog X.w) X.A (f (.int i t) (.int j u)) Q E s) :
   OpR X f (rI0 fun i j=>.int (g i j)):=by
 intro pins s Z H x y v u Q I rx ry h;obtain ⟨i,j,rfl,rfl,q⟩:=h;obtain ⟨t,rfl⟩:=rx;obtain ⟨t',rfl⟩:=ry;exact rule i j t t' s _ _ ⟨.int (g i j),H,I.tok _,⟨_,rfl⟩,q⟩
theorem Znr{g:Int->Int->Bool}
   (rule:∀ (i j:Int) (t u:Tok) (s:Shared) (Q:Value->Shared->Prop) (E:Value->Shared->Prop),Q (.bool (g i j)) s->wpAny (model X.prog X.w) X.A (f (.int i t) (.int j u)) Q E s) :
   OpR X f (rI0 fun i j=>.bl (g i j)):=by
 intro pins s Z H x y v u Q I rx ry h;obtain ⟨i,j,rfl,rfl,q⟩:=h;obtain ⟨t,rfl⟩:=rx;obtain ⟨t',rfl⟩:=ry;exact rule i j t t' s _ _ ⟨.bl (g i j),H,I,rfl,q⟩
noncomputable def ZuH(i j:Int):Prop:=0<j/\j<1073741824
noncomputable def ZuG(i j:Int):Prop:=0<=j/\j<=1000000/\i.natAbs<2 ^ 64
theorem ZpM:OpR X (binaryOp .Add) (rI0 fun i j=>.int (i+j)):=Zr6 fun _ _ _ _ _ _ _ q=>add_int q
theorem ZpF:OpR X (binaryOp .Sub) (rI0 fun i j=>.int (i - j)):=Zr6 fun _ _ _ _ _ _ _ q=>sub_int q
theorem Znh:OpR X (binaryOp .FloorDiv) (rI ZuH fun i j=>.int (i / j)):=opI fun i j _ _ _ _ _ hc q=>by
 have h1:(0:Int)<j:=hc.1;have h2:j<1073741824:=hc.2;exact floordiv_int (by lia) (by rw [Int.fdiv_eq_ediv_of_nonneg i (by lia)];exact q) (.inl (PyProof.noPylong_small (by lia)))
theorem ZpH:OpR X (binaryOp .Mod) (rI (fun _ j=>0<j) fun i j=>.int (i % j)):=opI fun i j _ _ _ _ _ hc q=>by
 have h1:(0:Int)<j:=hc;exact mod_int' (by lia) (by rw [Int.fmod_eq_emod_of_nonneg i (by lia)];exact q)
theorem ZpG:OpR X (binaryOp .Pow) (rI ZuG fun i j=>.int (i ^ j.toNat)):=opI fun _ _ _ _ _ _ _ hc q=>pow_int_small hc.1 hc.2.1 hc.2.2 q
theorem unI{g:Int->Int}
   (rule:∀ (i:Int) (t:Tok) (s:Shared) (Q:Value->Shared->Prop) (E:Value->Shared->Prop),Q (.int (g i) s.toks) {s with toks:=s.toks+1}->wpAny (model X.prog X.w) X.A (f (.int i t)) Q E s) :
   UnR X f (rU fun i=>.int (g i)):=by
 intro pins s Z H x v Q I rx h;obtain ⟨i,rfl,q⟩:=h;obtain ⟨t,rfl⟩:=rx;exact rule i t s _ _ ⟨.int (g i),H,I.tok _,⟨_,rfl⟩,q⟩
theorem Zo1:UnR X (unaryOp .USub) (rU fun i=>.int (-i)):=unI fun _ _ _ _ _ q=>neg_int q
end
section
variable {X:Cx}{a b c:Expr}{ta tb tc:TE}{pos:Pos}
theorem Zgs(I:Inv X pins Z H s)(q:Q (.bl k) H)(e:k=k'):EP X pins Z Q (.bool k') s:=by
 subst e;exact ⟨.bl k,H,I,rfl,q⟩
theorem ZrZ:OpR X (compareOp .Lt) (rI0 fun i j=>.bl (decide (i<j))):=Znr fun _ _ _ _ _ _ _ q=>lt_int q
theorem Zr0:OpR X (compareOp .LtE) (rI0 fun i j=>.bl (decide (i<=j))):=Znr fun _ _ _ _ _ _ _ q=>le_int q
theorem Zr1:OpR X (compareOp .Gt) (rI0 fun i j=>.bl (decide (j<i))):=Znr fun _ _ _ _ _ _ _ q=>gt_int q
theorem Zr2:OpR X (compareOp .GtE) (rI0 fun i j=>.bl (decide (j<=i))):=Znr fun _ _ _ _ _ _ _ q=>ge_int q
theorem ZpI:OpR X (compareOp .Is) (fun x y H Q=>y=.non/\Q (.bl (decide (x=.non))) H):=by
 intro pins s Z H x y v u Q I rx ry h;obtain ⟨rfl,q⟩:=h;cases ry;refine is_none_gen (Zgs I q ?_);cases x<;>first
   | (cases rx;rfl)
   | (obtain ⟨t,rfl⟩:=rx;rfl)
theorem Znf:OpR X (compareOp .IsNot) (fun x y H Q=>y=.non/\Q (.bl (!decide (x=.non))) H):=by
 intro pins s Z H x y v u Q I rx ry h;obtain ⟨rfl,q⟩:=h;cases ry;refine isnot_none_gen (Zgs I q ?_);cases x<;>first
   | (cases rx;rfl)
   | (obtain ⟨t,rfl⟩:=rx;rfl)
theorem Zgf{op:CmpOp}{r:R2}(ho:OpR X (compareOp op) r)(ha:PE X a ta)(hb:PE X b tb)(hm:behindInMarks op b=false):PE X (.Compare a [op] [b] pos) (tOp r ta tb):=by
 intro pins s Z H Q I h;exact wpAny_Compare1 (ZqL ha hb I h fun v u s2 x y H2 I2 rx ry q=>ho pins s2 Z H2 x y v u Q I2 rx ry q) hm
noncomputable def Zrj(t:TE):TT:=fun Z H Q=>t Z H fun x H'=>∃ k,x=.bl k/\Q k H'
theorem Zgd{op:CmpOp}{r:R2}(ho:OpR X (compareOp op) r)(ha:PE X a ta)(hb:PE X b tb)(hm:behindInMarks op b=false):PT X (.Compare a [op] [b] pos) (Zrj (tOp r ta tb)):=by
 intro pins s Z H Q I h;refine wpAny_isTrue_Compare1 (thn (ha pins s Z H _ I h) fun v s1 ⟨x,H1,I1,r1,q1⟩=>thn (hb pins s1 Z H1 _ I1 q1) fun u s2 ⟨y,H2,I2,r2,q2⟩ =>
   thn (ho pins s2 Z H2 x y v u _ I2 r1 r2 q2) fun c s3 ⟨z,H3,I3,r3,k,e,q3⟩=>?_) hm
 subst e;cases r3;exact wpAny_truthy_bool ⟨H3,I3,q3⟩
noncomputable def ZqW(K:PySem.W.Frag)(x:V)(H:Hp)(k:Bool):Prop :=
 match x with
 | .non=>k=false
 | .bl b=>k=b
 | .int i=>k=(i != 0)
 | .str y=>y.length<=sizeLine/\k=((y.length:Int) != 0)
 | .byt y=>y.size<=sizeLine/\k=((y.size:Int) != 0)
 | .ref p=>(∃ xs,SqL K H p xs/\k=!xs.isEmpty)\/(∃ xs,SqT K H p xs/\k=!xs.isEmpty)\/∃ kvs,H p=some (.dK kvs)/\k=!kvs.isEmpty
 | _=>False
theorem Ziq(r:KV kvs vs):(!vs.isEmpty)=!kvs.isEmpty:=by
 cases r<;>rfl
theorem ZeX(r:Zf xs its):(!its.toArray.isEmpty)=!xs.isEmpty:=by
 cases r<;>simp
theorem ZbA:(sizeLine:Nat)<2 ^ 63:=by rw [sizeLine_eq];decide
theorem Zo6:ZuF X (fun x H Q=>∃ k,ZqW X.K x H k/\Q k H):=by
 intro pins s Z H x v Q I rx h;obtain ⟨k,e,q⟩:=h;have hl:=ZbA;have hs:sizeLine=16777216:=sizeLine_eq;cases x with
 | non =>
   cases rx;have e':k=false:=e;subst e';exact truthy_none ⟨H,I,q⟩
 | bl b =>
   cases rx;have e':k=b:=e;subst e';exact wpAny_truthy_bool ⟨H,I,q⟩
 | int i =>
   obtain ⟨t,rfl⟩:=rx;have e':k=(i != 0):=e;subst e';exact PySem.P.truthy_int ⟨H,I,q⟩
 | str y =>
   obtain ⟨t,rfl⟩:=rx;obtain ⟨hy,e'⟩:y.length<=sizeLine/\k=((y.length:Int) != 0):=e;subst e';exact PySem.P.truthy_str (by lia) ⟨H,I.tok _,q⟩
 | byt y =>
   obtain ⟨t,rfl⟩:=rx;obtain ⟨hy,e'⟩:y.size<=sizeLine/\k=((y.size:Int) != 0):=e;subst e';exact PySem.W.truthy_bytes (by lia) ⟨H,I.tok _,q⟩
 | ref p =>
   cases rx;have e':(∃ xs,SqL X.K H p xs/\k=!xs.isEmpty)\/(∃ xs,SqT X.K H p xs/\k=!xs.isEmpty)\/∃ kvs,H p=some (.dK kvs)/\k=!kvs.isEmpty:=e;rcases e' with ⟨xs,hx,e'⟩|⟨xs,hx,e'⟩|⟨kvs,hx,e'⟩
   . subst e';obtain ⟨its,r,pl,hz⟩:=I.list hx;have hlen:=r.length;exact wpAny_truthy_list pl.isList (by simp only [Of];lia) ⟨H,I.tok _,by rw [ZeX r];exact q⟩
   . subst e';obtain ⟨its,r,pl,hz⟩:=I.tuple hx;have hlen:=r.length;exact truthy_tuple pl (by simp only [Of];lia) ⟨H,I.tok _,by rw [ZeX r];exact q⟩
   . subst e';obtain ⟨hz,hS,vs,r,m⟩:kvs.length<=sizeLine/\(p==sysModules)=false/\∃ vs,KV kvs vs/\s.heap.DictOf (ZF X.prog X.w) p vs:=I.hok p _ hx;have hlen:kvs.length=vs.length:=Paired.length r;exact wpAny_truthy_dict hS m (by lia) ⟨H,I.tok _,by rw [Ziq r];exact q⟩
 | _=>exact (show False from e).elim
theorem Zk8(ha:PE X a ta)(he:∀ whole,isTrue a X.env whole=(do let v <- whole;standAt a.pos;holding [v] (truthy v))) :
   PT X a (fun Z H Q=>ta Z H fun x H'=>∃ k,ZqW X.K x H' k/\Q k H'):=by
 intro pins s Z H Q I h;exact isTrue_plain (thn (ha pins s Z H _ I h) fun v s1 ⟨x,H1,I1,r1,q1⟩=>Zo6 pins s1 Z H1 x v Q I1 r1 q1) (he _)
theorem Zh7:OpR X (binaryOp .Add) (fun x y H Q=>∃ i j,x=.str i/\y=.str j/\i.length+j.length<=sizeLine/\Q (.str (i++j)) H):=by
 intro pins s Z H x y v u Q I rx ry h;obtain ⟨i,j,rfl,rfl,hz,q⟩:=h;obtain ⟨t,rfl⟩:=rx;obtain ⟨t',rfl⟩:=ry;exact add_str (fun t' tk=>⟨.str (i++j),H,I.tok _,⟨_,rfl⟩,q⟩) hz
theorem vals1{x:V}{us:List Value}(r:Zf [x] us):∃ u,us=[u]/\RelV x u:=by
 cases r with
 | cons r1 r2=>cases r2;exact ⟨_,rfl,r1⟩
theorem vals2{x y:V}{us:List Value}(r:Zf [x,y] us):∃ u w',us=[u,w']/\RelV x u/\RelV y w':=by
 cases r with
 | cons r1 r2 =>
   cases r2 with
   | cons r3 r4=>cases r4;exact ⟨_,_,rfl,r1,r3⟩
theorem Zf0:Zae X (.type "int") (fun xs H Q=>(∃ i,xs=[.int i]/\Q (.int i) H)\/∃ k,xs=[.bl k]/\Q (.int (if k then 1 else 0)) H):=by
 intro pins s Z H xs us Q I r h;rcases h with ⟨i,rfl,q⟩|⟨k,rfl,q⟩
 . obtain ⟨u,rfl,t,rfl⟩:=vals1 r;exact call_int_int ⟨.int i,H,I,⟨_,rfl⟩,q⟩
 . obtain ⟨u,rfl,r1⟩:=vals1 r;cases r1;exact call_int_bool ⟨.int (if k then 1 else 0),H,I.tok _,⟨_,rfl⟩,q⟩
end
end L2
namespace L2
open PySem PySem.Spec PyProof.Rows
structure ObjM(h:Heap)(x dx C:Addr)(mA:Str->Option Value):Prop where
 obj:h.get? x=some (PySem.W.instObj C dx)
 ns:h.Ns1 dx mA
 ne:dx≠x
theorem Zkh{h:Heap}(n:h.Ns1 dx mA):∃ od,h.get? dx=some od/\∀ name,PySem.W.lookIn name od=some (mA name):=by
 obtain ⟨o,es,ep,ho,hd,hk,_,hm⟩:=n;refine ⟨o,ho,fun name=>?_⟩;have e:=hm name;unfold nsFind findBy at e;rw [<- Array.find?_toList] at e;unfold PySem.W.lookIn;rw [hd];dsimp only;split
 . rename_i y q;rw [q] at e;exact congrArg some e
 . rename_i q;rw [q] at e;have a:es.toList.any (·.refKey)=false:=by
     rw [List.any_eq_false];intro y hy;obtain ⟨z,t,hkey⟩:=hk y (Array.mem_toList_iff.mp hy);simp [DictEntry.refKey,hkey]
   have a':¬ es.toList.any (·.refKey)=true:=by rw [a];exact Ow
   rw [if_neg a'];exact congrArg some e
theorem ObjM.look(I:ObjM h x dx C mA):∃ od,PySem.W.InstAt h x (PySem.W.instObj C dx) C (some od)/\∀ name,PySem.W.lookIn name od=some (mA name) :=
 let ⟨od,ho,hl⟩:=Zkh I.ns
 ⟨od,⟨I.obj,rfl,rfl,ho⟩,hl⟩
section
variable {prog:Program}{w:World}{A:Around}{E:Value->Shared->Prop}{s:Shared}{K:PySem.W.Frag}{x dx C f:Addr}{mA:Str->Option Value}{name:Str}{v:Value}
theorem ZnL(X:K.In s.heap)(I:ObjM s.heap x dx C mA)(hg:PySem.W.plainGet K C name=true)(hh:PySem.W.hasDictIn K C=true)
   (ha:PySem.W.findIn K (.ref C) name=some none) (hv:mA name=some v) (hv':PySem.W.handedIn v=true) (h:Q v {s with toks:=s.toks+1}) :
   wpAny (model prog w) A (getAttr (.ref x) name expr) Q E s:=by
 obtain ⟨od,J,hl⟩:=I.look;exact PySem.W.get_value X J (PySem.W.plainGet_of hg).1 (PySem.W.findObj_own hh ha rfl (by rw [hl,hv])) hv' h
theorem ZlS(X:K.In s.heap)(I:ObjM s.heap x dx C mA)(hg:PySem.W.plainGet K C name=true)
   (hf:PySem.W.findIn K (.ref C) name=some (some (.ref f))) (ht:PySem.W.isFn K (.ref f)=true) (hv:mA name=none) (h:Q (.ref f,[.ref x]) s) :
   wpAny (model prog w) A (getMethod (.ref x) name pl) Q E s:=by
 obtain ⟨od,J,hl⟩:=I.look;exact PySem.W.method_fn X J (PySem.W.plainGet_of hg).1 (PySem.W.plainGet_of hg).2 hf (beq_iff_eq.mp ht) (by show (PySem.W.lookIn name od).map (·.isSome)=some false;rw [hl,hv];rfl) h
theorem ZmK(X:K.In s.heap)(I:ObjM s.heap x dx C mA)
   (hs:PySem.W.findIn K (.ref C) "__setattr__" = some (some (.builtin "object.__setattr__"))) (hp:PySem.W.plainOver K C=true) (ht:PySem.W.takerIn K C name=some none) (hh:PySem.W.hasDictIn K C=true)
   (hw:PySem.Within mA ns) (hsz:ns.length<=sizeLine)
   (h:∀ h',ObjM h' x dx C (fun y=>if y=name then some v else mA y)->Heap.SameBut dx s.heap h'->Q () {s with heap:=h',toks:=s.toks+2}) :
   wpAny (model prog w) A (setAttr (.ref x) name v) Q E s:=by
 obtain ⟨od,J,hl⟩:=I.look;refine PySem.W.set_plain X J hs (PySem.W.osa_open (s:={s with toks:=s.toks+1}) (r:=none) X J hp ht fun b=>?_);obtain ⟨cd,hc,hd'⟩:=PySem.W.any_some hh;have hx:s.heap.get? x=some ⟨.ref C,some dx,.plain,#[]⟩:=I.obj;refine wpAny_bind (wpAny_pure (wpAny_bind (wpAny_bind (wpAny_loadPart hx (wpAny_bind (PySem.W.Looks.here (s:={s with toks:=s.toks+1}) (PySem.W.looks_clsIn X hc) ?_))))));rw [hd'];refine wpAny_pure (a:=some dx) (wpAny_bind (wpAny_pure (wpAny_bind ?_)));refine wpAny_nsSet1 (s:={s with toks:=s.toks+1}) I.ns fun h' hn2 hs2=>?_;obtain ⟨oD,esD,epD,hoD,hdD,hcD⟩:=hn2.count (PySem.Within.cons name v hw);refine wpAny_bind (wpAny_lookBehind hoD (by rw [hdD];exact pastItsLine_dict (OE hcD (by rw [Os];lia))) ?_);exact wpAny_pure (h _ ⟨(hs2.2 _ (Ne.symm I.ne)).trans I.obj,hn2,I.ne⟩ hs2)
theorem ZlG(X:K.In s.heap)(hm:PySem.W.makesIn K C=true)
   (hi:PySem.W.findIn K (.ref C) "__init__" = some (some (.ref f))) (hf:PySem.W.typeIn K (.ref f)=some (.type "function"))
   (h:codeAny (model prog w) (A.under (.builtin "type.__call__" ⟨.ref C::vs,kw⟩)) (.call (.ref f) ⟨.ref (s.heap.objs.size+1)::vs,kw⟩) (PySem.W.InitBack (s.heap.objs.size+1) R)
     {s with heap:=(s.heap.push PySem.W.emptyDict).push (PySem.W.instObj C s.heap.objs.size)}) :
   codeAny (model prog w) A (.call (.ref C) ⟨vs,kw⟩) R s:=by
 obtain ⟨hh,g,d,t,os⟩:=s;exact PySem.W.make_core (PySem.W.makes_of X hm) (PySem.W.looks_findIn X hi) (fun self=>PySem.W.bind_fn X self hf) (.inl rfl) h
end
noncomputable def Zbu(f:Str)(v:V):List (Str×V)->List (Str×V)
 | []=>[(f,v)]
 | (g,x)::r=>if g=f then (g,v)::r else (g,x)::Zbu f v r
theorem ZdU(f g:Str)(v:V):∀ fs:List (Str×V),(Zbu f v fs).lookup g=if g=f then some v else fs.lookup g
 | []=>by
   show List.lookup g [(f,v)]=_;by_cases h:g=f
   . have hb:(g==f)=true:=beq_iff_eq.mpr h;simp only [List.lookup,hb,if_pos h]
   . have hb:(g==f)=false:=beq_eq_false_iff_ne.mpr h;simp only [List.lookup,hb,if_neg h]
 | (k,x)::r=>by
   have ih:=ZdU f g v r;rw [show Zbu f v ((k,x)::r)=(if k=f then (k,v)::r else (k,x)::Zbu f v r) from rfl];by_cases hk:k=f
   . rw [if_pos hk];by_cases h:g=k
     . have hb:(g==k)=true:=beq_iff_eq.mpr h;simp only [List.lookup,hb,if_pos (h.trans hk)]
     . have hb:(g==k)=false:=beq_eq_false_iff_ne.mpr h;simp only [List.lookup,hb,if_neg (fun e:g=f=>h (e.trans hk.symm))]
   . rw [if_neg hk];by_cases h:g=k
     . have hb:(g==k)=true:=beq_iff_eq.mpr h;simp only [List.lookup,hb,if_neg (fun e:g=f=>hk (h.symm.trans e))]
     . have hb:(g==k)=false:=beq_eq_false_iff_ne.mpr h;simp only [List.lookup,hb];exact ih
theorem ZdI(f:Str)(v:V):∀ fs:List (Str×V),f∈(Zbu f v fs).map (·.1)/\∀ g,g∈fs.map (·.1)->g∈(Zbu f v fs).map (·.1)
 | []=>⟨by simp [Zbu],fun g h=>by simp at h⟩
 | (k,x)::r=>by
   obtain ⟨i1,i2⟩:=ZdI f v r;rw [show Zbu f v ((k,x)::r)=(if k=f then (k,v)::r else (k,x)::Zbu f v r) from rfl];by_cases hk:k=f
   . rw [if_pos hk];subst hk;exact ⟨by simp,fun g h=>by simpa using h⟩
   . rw [if_neg hk];refine ⟨?_,fun g h=>?_⟩
     . rw [Op];exact Oh _ i1
     . rw [Op] at h ⊢;rcases O2.mp h with e|e
       . exact O2.mpr (.inl e)
       . exact Oh _ (i2 g e)
theorem ZdV(f:Str)(v:V):∀ fs:List (Str×V),(Zbu f v fs).length<=fs.length+1
 | []=>by simp [Zbu]
 | (k,x)::r=>by
   have ih:=ZdV f v r;rw [show Zbu f v ((k,x)::r)=(if k=f then (k,v)::r else (k,x)::Zbu f v r) from rfl];by_cases hk:k=f
   . rw [if_pos hk,Os,Os];lia
   . rw [if_neg hk,Os,Os];lia
theorem ZcA.some_of(r:ZcA (some v) o):∃ u,o=some u/\RelV v u:=by
 cases o with
 | none=>exact (show False from r).elim
 | some u=>exact ⟨u,rfl,r⟩
theorem ZcA.none_of(r:ZcA none o):o=none:=by
 cases o with
 | none=>rfl
 | some u=>exact (show False from r).elim
theorem Zkm(r:RelV v u):PySem.W.handedIn u=true:=by
 cases v with
 | non=>cases (show u=Value.none from r);rfl
 | bl b=>cases (show u=Value.bool b from r);rfl
 | int i=>obtain ⟨t,e⟩:=(show ∃ t,u=Value.int i t from r);cases e;rfl
 | str x=>obtain ⟨t,e⟩:=(show ∃ t,u=Value.str x t from r);cases e;rfl
 | byt b=>obtain ⟨t,e⟩:=(show ∃ t,u=Value.bytes b t from r);cases e;rfl
 | flt b=>obtain ⟨t,e⟩:=(show ∃ t,u=Value.float b t from r);cases e;rfl
 | ref a=>cases (show u=Value.ref a from r);rfl
 | ty n=>cases (show u=Value.type n from r);rfl
section
variable {P:Program}{w:World}{H H':Hp}{h h':Heap}{a C dx:Addr}{fs fs':List (Str×V)}
theorem Zgo(hok:HOk P w H h)(e:H a=some (.ins C dx fs)):∃ mA,ObjM h a dx C mA/\(∀ f,ZcA (fs.lookup f) (mA f))/\PySem.Within mA (fs.map (·.1))/\fs.length<=1000/\H dx=some (.own a):=by
 obtain ⟨d,z,ne,ob,mA,n,r,q⟩:=(show ZH P w H h a (.ins C dx fs) from hok a _ e)
 exact ⟨mA,⟨ob,n,ne⟩,r,q,z,d⟩
end
structure Cls(K:PySem.W.Frag)(C:Addr):Prop where
 pg:PySem.W.plainGet K C Str.empty=true
 hd:PySem.W.hasDictIn K C=true
 po:PySem.W.plainOver K C=true
 sa:PySem.W.findIn K (.ref C) "__setattr__" = some (some (.builtin "object.__setattr__"))
theorem Cls.get{K:PySem.W.Frag}(c:Cls K C)(f:Str):PySem.W.plainGet K C f=true:=c.pg
noncomputable def Za7(K:PySem.W.Frag)(C:Addr)(f:Str):Prop:=PySem.W.findIn K (.ref C) f=some none
theorem Za7.taker{K:PySem.W.Frag}(n:Za7 K C f):PySem.W.takerIn K C f=some none:=by
 unfold PySem.W.takerIn;rw [show PySem.W.findIn K (.ref C) f=some none from n];rfl
structure Meth(K:PySem.W.Frag)(C:Addr)(m:Str)(f:Addr):Prop where
 at_:PySem.W.findIn K (.ref C) m=some (some (.ref f))
 fn:PySem.W.isFn K (.ref f)=true
 kp:PySem.W.keepIn K (.ref f)=true
section
variable {X:Cx}{pins:List (Addr×Obj)}{Z:St}{H:Hp}{s:Shared}{a C dx:Addr}{fs:List (Str×V)}{f:Str}{v:V}{A:Around}{E:Value->Shared->Prop}
theorem Zis(I:Inv X pins Z H s)(e:H a=some (.ins C dx fs))(c:Cls X.K C)(n:Za7 X.K C f)(l:fs.lookup f=some v)
   (h:∀ u s',Inv X pins Z H s'->RelV v u->Q u s'):wpAny (model X.prog X.w) A (getAttr (.ref a) f b) Q E s:=by
 obtain ⟨mA,O_,r,_,_,_⟩:=Zgo I.hok e;obtain ⟨u,hu,ru⟩:=ZcA.some_of (v:=v) (o:=mA f) (by rw [<- l];exact r f);exact ZnL I.kIn O_ (c.get f) c.hd n hu (Zkm ru) (h u _ (I.tok _) ru)
theorem Ze0(I:Inv X pins Z H s)(e:H a=some (.ins C dx fs))(c:Cls X.K C)(k:Meth X.K C m g)(l:fs.lookup m=none)
   (h:Q (.ref g,[.ref a]) s):wpAny (model X.prog X.w) A (getMethod (.ref a) m pl) Q E s:=by
 obtain ⟨mA,O_,r,_,_,_⟩:=Zgo I.hok e;have hn:mA m=none:=ZcA.none_of (by rw [<- l];exact r m);exact ZlS I.kIn O_ (c.get m) k.at_ k.fn hn h
theorem ZhW(I:Inv X pins Z H s)(e:H a=some (.ins C dx fs))(c:Cls X.K C)(n:Za7 X.K C f)(hl:fs.length<1000)(ry:RelV y u)
   (h:∀ s',Inv X pins Z (upd H a (.ins C dx (Zbu f y fs))) s'->Q () s'):wpAny (model X.prog X.w) A (setAttr (.ref a) f u) Q E s:=by
 obtain ⟨mA,O_,r,wi,_,ho⟩:=Zgo I.hok e;have hz:(fs.map (·.1)).length<=sizeLine:=by rw [List.length_map,sizeLine_eq];lia
 refine ZmK I.kIn O_ c.sa c.po n.taker c.hd wi hz fun h' O' sb=>h _ ?_;have hd:∃ o,h'.get? dx=some o:=let ⟨o,_,_,e',_⟩:=O'.ns;⟨o,e'⟩;refine I.write (x:=a) (e:=dx) (by rw [e];exact True.intro) (.inr ho) (fun b q hb z=>(sb.2 b hb).trans z) hd ?_;refine ⟨by rw [Zm O_.ne];exact ho,?_,O_.ne,O'.obj,_,O'.ns,fun g=>?_,fun g hg=>?_⟩
 . have:=ZdV f y fs;lia
 . show ZcA ((Zbu f y fs).lookup g) (if g=f then some u else mA g);rw [ZdU];by_cases q:g=f
   . rw [if_pos q,if_pos q];exact ry
   . rw [if_neg q,if_neg q];exact r g
 . by_cases q:g=f
   . rw [q];exact (ZdI f y fs).1
   . refine (ZdI f y fs).2 g (wi g fun z=>hg ?_);show (if g=f then some u else mA g)=none;rw [if_neg q];exact z
theorem Inv.made(I:Inv X pins Z H s):Inv X pins Z (upd (upd H s.heap.objs.size (.own (s.heap.objs.size+1))) (s.heap.objs.size+1) (.ins C s.heap.objs.size []))
   {s with heap:=(s.heap.push PySem.W.emptyDict).push (PySem.W.instObj C s.heap.objs.size)}:=by
 have e1:(s.heap.push PySem.W.emptyDict).get? s.heap.objs.size=some PySem.W.emptyDict:=Oj s.heap rfl;have e2:((s.heap.push PySem.W.emptyDict).push (PySem.W.instObj C s.heap.objs.size)).get? (s.heap.objs.size+1)=some (PySem.W.instObj C s.heap.objs.size):=by
   have:=Oj (s.heap.push PySem.W.emptyDict) (o:=PySem.W.instObj C s.heap.objs.size) rfl
   rwa [Heap.size_push] at this
 have e3:(s.heap.push PySem.W.emptyDict).Ns s.heap.objs.size (fun _=>none):=⟨PySem.W.emptyDict,#[],_,e1,rfl,(fun e he=>absurd he (by simp)),fun _=>rfl⟩
 have I1:=I.laid (a:=s.heap.objs.size) (o:=.own (s.heap.objs.size+1)) (h':=s.heap.push PySem.W.emptyDict) (t':=s.toks) (fun b u q=>Od _ q) (Oq _) ⟨_,e1⟩;refine I1.laid (a:=s.heap.objs.size+1) (o:=.ins C s.heap.objs.size []) (t':=s.toks) (fun b u q=>Od _ q) (Nat.le_of_eq (Heap.size_push _ _)) ?_;have ne:s.heap.objs.size≠s.heap.objs.size+1:=Ou (OH _);refine ⟨by rw [Zm ne,Zg],Nat.zero_le _,ne,e2,fun _=>none,(Heap.Ns1.of_empty e3).at fun o q=>Od _ q,fun _=>True.intro,fun y hy=>absurd rfl hy⟩
theorem Zoo(hb:attributeBase e f env (eval e env)=eval e env)
   (h:wpAny (model prog w) A (eval e env) (fun o s₁=>wpAny (model prog w) A (getAttr o f true) Q E s₁) E s):wpAny (model prog w) A (eval (.Attribute e f pos) env) Q E s :=
 Attribute_any_ h (by rw [arm_eval_Attribute,hb])
end
noncomputable def ZtC(K:PySem.W.Frag)(ta:TE)(f:Str):TE:=fun Z H Q=>ta Z H fun x H1=>∃ a C dx fs v,x=.ref a/\H1 a=some (.ins C dx fs)/\Cls K C/\Za7 K C f/\fs.lookup f=some v/\Q v H1
noncomputable def ZtL(K:PySem.W.Frag)(ta tv:TE)(f:Str):TS:=fun D Z H=>tv Z H fun y H1=>ta Z H1 fun x H2=>∃ a C dx fs,x=.ref a/\H2 a=some (.ins C dx fs)/\Cls K C/\Za7 K C f/\fs.length<1000 /\
 D.nx Z (upd H2 a (.ins C dx (Zbu f y fs)))
section
variable {X:Cx}{o e value:Expr}{f:Str}{pos pos' tpos:Pos}{ta tv:TE}
theorem ZpB(he:PE X e ta)(hb:attributeBase e f X.env (eval e X.env)=eval e X.env):PE X (.Attribute e f pos) (ZtC X.K ta f):=by
 intro pins s Z H Q I h;refine Zoo hb (thn (he pins s Z H _ I h) fun u s1 ⟨x,H1,I1,rx,a,C,dx,fs,v,ex,ea,c,n,l,q⟩=>?_);subst ex;obtain rfl:u=Value.ref a:=rx;exact Zis I1 ea c n l fun u' s2 I2 ru=>⟨v,H1,I2,ru,q⟩
theorem Zpr(ha:PE X o ta)(hv:PE X value tv)(hs:swapsWith value (some (.Attribute o f pos')) pos.line X.env=pure false):PS X (.Assign [.Attribute o f pos'] value pos) (ZtL X.K ta tv f):=by
 intro pins s Z H D I h;refine plainObj_wpAny_Assign_Attribute (thn (hv pins s Z H _ I h) fun u s1 ⟨y,H1,I1,ry,q⟩=>thn (ha pins s1 Z H1 _ I1 q) fun ov s2 ⟨x,H2,I2,rx,a,C,dx,fs,ex,ea,c,n,l,q2⟩=>?_) hs;subst ex;obtain rfl:ov=Value.ref a:=rx;exact ZhW I2 ea c n l ry fun s3 I3=>⟨Z,_,I3,q2⟩
end
end L2
namespace L2
open PySem PySem.Spec PyProof.Rows
structure Room(k:Nat)(A:Around):Prop where
 hd:A.handled=none
 dp:A.depth+k+5<recursionLimit
 un:A.units+4 * k+1300<cLine
 gd:A.guards=some []
theorem Room.mono(r:Room k A)(h:j<=k):Room j A:=⟨r.hd,by have:=r.dp;lia,by have:=r.un;lia,r.gd⟩
theorem Room.deeper(r:Room (k+1) A)(env:Env):Room k (A.deeper env) :=
 ⟨r.hd,by have:=r.dp;show A.depth+1+k+5<_;lia,by have:=r.un;show A.units+3+4 * k+1300<_;lia,r.gd⟩
theorem Zih {A:Around}:(A.under (.builtin "type.__call__" ⟨.ref C::us,kw⟩)).depth=A.depth+1:=by
 first|rfl|simp [Around.under,Code.weight,Code.isCreation,Code.isGuard,Code.isCaller,Code.frames,Code.isFrame,guardIds]
theorem Zig {A:Around}:(A.under (.builtin "type.__call__" ⟨.ref C::us,kw⟩)).units=A.units+1:=by
 first|rfl|simp [Around.under,Code.cUnits,Code.frames,Code.isFrame]
theorem Room.make (r:Room (k+1) A) (C:Addr) (us:List Value) (kw:List (Str×Value)):Room k (A.under (.builtin "type.__call__" ⟨.ref C::us,kw⟩)) :=
 ⟨r.hd,by have:=r.dp;rw [Zih];lia,by have:=r.un;rw [Zig];lia,by first|exact r.gd|simpa [Around.under,Code.weight,Code.isCreation,Code.isGuard,Code.isCaller,Code.frames,Code.isFrame,guardIds] using r.gd⟩
theorem Room.depth(r:Room k A):A.depth<recursionLimit:=by have:=r.dp;lia
noncomputable def ZjV:TA:=fun _ H Q=>Q [] H
noncomputable def Zi0(ta:TE)(tr:TA):TA:=fun Z H Q=>ta Z H fun x H1=>tr Z H1 fun xs H2=>Q (x::xs) H2
section
variable {X:Cx}{e:Expr}{es:List Expr}{te:TE}{t:TA}{pos:Pos}
theorem Zgg:PA X [] ZjV:=fun _ _ _ _ H Q I h=>Calls.spliced_nil ⟨[],H,I,.nil,h⟩
theorem Zej(ha:PE X e te)(hr:PA X es t)(hs:starEach (e::es) X.env=(false,eval e X.env)::starEach es X.env:=by rfl):PA X (e::es) (Zi0 te t):=by
 intro pos pins s Z H Q I h;rw [hs];show wpAny _ _ (spliced ((false,eval e X.env)::backTo pos (starEach es X.env))) _ _ s;refine Calls.spliced_cons (thn (ha pins s Z H _ I h) fun u s1 ⟨x,H1,I1,r1,q1⟩=>?_);exact thn (hr pos pins s1 Z H1 _ I1 q1) fun us s2 ⟨xs,H2,I2,r2,q2⟩=>⟨x::xs,H2,I2,.cons r1 r2,q2⟩
noncomputable def Ztu(t:TA):TE:=fun Z H Q=>t Z H fun xs H1=>xs.length<=sizeLine/\∀ p,H1 p=none->Q (.ref p) (upd H1 p (.tup xs))
noncomputable def Ztz(t:TA):TE:=fun Z H Q=>t Z H fun xs H1=>xs.length<=sizeLine/\∀ p,H1 p=none->Q (.ref p) (upd H1 p (.lst xs))
theorem Zpv{x1}(h:PA X es t):PE X (.Tuple es x1 pos) (Ztu t):=by
 intro pins s Z H Q I hq;refine wpAny_Tuple_spliced (thn (h pos pins s Z H _ I hq) fun us s1 ⟨xs,H1,I1,r,z,q⟩=>⟨by rw [<- r.length];exact z,?_⟩);have hf:H1 s1.heap.objs.size=none:=I1.hok.fresh (Oq _);refine ⟨.ref s1.heap.objs.size,upd H1 s1.heap.objs.size (.tup xs),I1.laid (t':=s1.toks) (fun b u e=>Od _ e) (Oq _) ?_,rfl,q _ hf⟩;exact ⟨z,us,r,⟨_,Oj _ rfl,rfl,rfl,_,rfl⟩⟩
theorem Zpz(h:PA X es t):PE X (.List es pos) (Ztz t):=by
 intro pins s Z H Q I hq;refine wpAny_List_spliced (thn (h pos pins s Z H _ I hq) fun us s1 ⟨xs,H1,I1,r,z,q⟩=>⟨by rw [<- r.length];exact z,?_⟩);have hf:H1 s1.heap.objs.size=none:=I1.hok.fresh (Oq _);refine ⟨.ref s1.heap.objs.size,upd H1 s1.heap.objs.size (.lst xs),I1.laid (t':=s1.toks) (fun b u e=>Od _ e) (Oq _) ?_,rfl,q _ hf⟩;exact ⟨z,us,0,r,Oj _ rfl⟩
end
noncomputable abbrev Sp:=List V->Hp->VK->XK->Prop
noncomputable abbrev CXT:=List Env->Hp->Shared->XK->Value->Shared->Prop
structure Env0(P:Program)(w:World)(K:PySem.W.Frag)(mg:Str->Option Value)(base:Heap)(A:Around)(outer:List Env)(s:Shared)(H:Hp):Prop where
 frames:A.frames=some outer
 mod:Mod K mg base
 bs:∀ b o,base.get? b=some o->s.heap.get? b=some o/\H b=none
 bsz:base.objs.size<=s.heap.objs.size
 funs:s.heap.FunFrames base outer
 frf:∀ b∈frs outer,H b=none
 hok:HOk P w H s.heap
 bare:AllBare s.gens
noncomputable def CE(outer:List Env)(P:Program)(w:World)(H:Hp)(s:Shared)(Q:VK)(u:Value)(s':Shared):Prop :=
 ∃ v H',s'.os=s.os/\AllBare s'.gens/\Un (frs outer) [] H H' s.heap s'.heap/\HOk P w H' s'.heap/\RelV v u/\Q v H'
noncomputable def CR(CX:CXT)(outer:List Env)(P:Program)(w:World)(H:Hp)(s:Shared)(Q:VK)(E:XK)(r:Result)(s':Shared):Prop :=
 match r with
 | .ok (.ret u)=>CE outer P w H s Q u s'
 | .ok _=>False
 | .error e=>CX outer H s E e s'
structure FnOk(P:Program)(w:World)(K:PySem.W.Frag)(mg:Str->Option Value)(base:Heap)(CX:CXT)(k:Nat)(f:Addr)(fd:FuncData)(ps:List Str)(sp:Sp):Prop where
 len:∀ vs H Q E,sp vs H Q E->vs.length=ps.length
 run:∀ (A:Around) (outer:List Env) (s:Shared) (H:Hp) (args:Args) (us:List Value) (vs:List V) (Q:VK) (E:XK),Room k A->Env0 P w K mg base A outer s H->BindsTo s fd args (ps.zip us)->Zf vs us->sp vs H Q E ->
   codeAny (model P w) A (.call (.ref f) args) (CR CX outer P w H s Q E) s
theorem FnOk.imp{P:Program}{w:World}{K:PySem.W.Frag}{mg:Str->Option Value}{base:Heap}{CX:CXT}{k:Nat}{f:Addr}{fd:FuncData}{ps:List Str}{sp sp':Sp}(F:FnOk P w K mg base CX k f fd ps sp)
   (h:∀ vs H Q E,sp' vs H Q E->sp vs H Q E):FnOk P w K mg base CX k f fd ps sp' :=
 ⟨fun vs H Q E q=>F.len vs H Q E (h _ _ _ _ q),fun A outer s H args us vs Q E hr he hb hv hs=>F.run A outer s H args us vs Q E hr he hb hv (h _ _ _ _ hs)⟩
theorem Env0.make{P:Program}{w:World}{K:PySem.W.Frag}{mg:Str->Option Value}{base:Heap}{A:Around}{outer:List Env}{s:Shared}{H:Hp}(e:Env0 P w K mg base A outer s H)(C:Addr)(us:List Value)(kw:List (Str×Value)) :
   Env0 P w K mg base (A.under (.builtin "type.__call__" ⟨.ref C::us,kw⟩)) outer s H:=⟨by first|exact e.frames|(simpa [Around.under,Code.envs,Code.isFrame,pushEnvs] using e.frames),e.mod,e.bs,e.bsz,e.funs,e.frf,e.hok,e.bare⟩
section
variable {X:Cx}{pins:List (Addr×Obj)}{Z:St}{H:Hp}{s s':Shared}
theorem Inv.env0(I:Inv X pins Z H s):Env0 X.prog X.w X.K X.mg X.base X.A X.stack s H :=
 ⟨I.ok.frames,I.ok.mod,I.bs,OE I.ok.bsz I.sz,I.stack,I.stkFree,I.hok,I.bare⟩
theorem Inv.after(I:Inv X pins Z H s)(h:CE X.stack X.prog X.w H s Q u s'):EP X pins Z Q u s':=by
 obtain ⟨v,H',os,bare,un,hok,r,q⟩:=h;obtain ⟨hh,g,d,t,os'⟩:=s';obtain rfl:os'=s.os:=os;exact ⟨v,H',I.call (h':=hh) (g':=g) (d':=d) (t':=t) (ch:=[]) un hok bare (fun b z=>absurd z (by simp)),r,q⟩
end
noncomputable def Zrp(sp:Sp)(dvs:List V)(E:XK)(t:TA):TE:=fun Z H Q=>t Z H fun vs H1=>sp (vs++dvs) H1 Q E
noncomputable def Zou(C:Addr)(m:Str)(sp:Sp)(dvs:List V)(E:XK)(ta:TE)(t:TA):TE:=fun Z H Q=>ta Z H fun x H1=>∃ a dx fs,x=.ref a/\H1 a=some (.ins C dx fs)/\fs.lookup m=none /\
 t Z H1 fun vs H2=>sp (x::(vs++dvs)) H2 Q E
noncomputable def Zov(C:Addr)(sp:Sp)(dvs:List V)(E:XK)(t:TA):TE:=fun Z H Q=>t Z H fun vs H1=>∀ x dx,H1 x=none->H1 dx=none->dx≠x ->
 sp (.ref x::(vs++dvs)) (upd (upd H1 dx (.own x)) x (.ins C dx [])) (fun v H2=>v=.non/\Q (.ref x) H2) E
noncomputable def Binds(K:PySem.W.Frag)(fd:FuncData)(ps:List Str)(ds:List Value):Prop :=
 ∀ (s:Shared) (us:List Value),K.In s.heap->(us++ds).length=ps.length->BindsTo s fd ⟨us,[]⟩ (ps.zip (us++ds))
theorem Binds.all{K:PySem.W.Frag}(h:∀ us:List Value,us.length=ps.length->bindArgs fd ⟨us,[]⟩=pure (ps.zip us)):Binds K fd ps []:=fun s us _ hl=>by
 rw [List.append_nil] at hl ⊢;exact .of_eq (h us hl)
noncomputable def Za6(CX:CXT)(X:Cx)(E:XK):Prop:=∀ (pins:List (Addr×Obj)) (Z:St) (H:Hp) (s:Shared) (e:Value) (s':Shared),Inv X pins Z H s->CX X.stack H s E e s'->X.xe e s'
section
variable {X:Cx}{CX:CXT}{k:Nat}{f C:Addr}{fd:FuncData}{ps:List Str}{sp:Sp}{dvs:List V}{ds:List Value}{E:XK}{x m:Str}{p pos apos:Pos}{e o:Expr}{es:List Expr}{ta:TE}{t:TA}
theorem Zh1(F:FnOk X.prog X.w X.K X.mg X.base CX k f fd ps sp)(hr:Room k X.A)(hb:Binds X.K fd ps ds)(hd:Zf dvs ds)(hx:Za6 CX X E)
   (I:Inv X pins Z H s) (r:Zf vs us) (h:sp (vs++dvs) H Q E):wpAny (model X.prog X.w) X.A (call (.ref f) us) (EP X pins Z Q) X.xe s:=by
 have r2:Zf (vs++dvs) (us++ds):=r.append hd;have hl:(us++ds).length=ps.length:=by rw [<- r2.length];exact F.len _ _ _ _ h
 refine wpAny_call (codeAny_mono (F.run X.A X.stack s H ⟨us,[]⟩ (us++ds) (vs++dvs) Q E hr I.env0 (hb s us I.kIn hl) r2 h) fun r s' hq=>?_);cases r with
 | error e=>exact hx pins Z H s e s' I hq
 | ok fl =>
   cases fl with
   | ret u=>exact I.after hq
   | next=>exact False.elim hq
   | brk=>exact False.elim hq
   | cont=>exact False.elim hq
theorem Zna(F:FnOk X.prog X.w X.K X.mg X.base CX k f fd ps sp)(hr:Room k X.A)(hg:Gl X x)(hm:X.mg x=some (.ref f))(hk:PySem.W.keepIn X.K (.ref f)=true)(hb:Binds X.K fd ps ds)(hd:Zf dvs ds)(hx:Za6 CX X E)
   (ha:PA X (e::es) t) (hdb:(x==("__debug__" : Str))=false:=by decide) (he:starEach (e::es) X.env=(false,eval e X.env)::starEach es X.env:=by rfl) (hpl:(backTo pos (starEach es X.env)).any (·.1)=false:=by rfl) :
   PE X (.Call (.Name x p) (e::es) [] pos) (Zrp sp dvs E t):=by
 intro pins s Z H Q I h;refine wpAny_Call_Name_kw (Zem I hg hm ?_ hdb);refine PySem.W.callWith_K (h₀:=X.base) I.ok.mod.kin hk (thn (ha pos pins s Z H _ I h) fun us s1 ⟨vs,H1,I1,r,q⟩=>⟨I1.kIn,?_⟩) he hpl;exact Zh1 F hr hb hd hx I1 r q
theorem Zm5(he:PE X o ta)(c:Cls X.K C)(hm:Meth X.K C m f)(F:FnOk X.prog X.w X.K X.mg X.base CX k f fd ps sp)(hr:Room k X.A)(hb:Binds X.K fd ps ds)(hd:Zf dvs ds)(hx:Za6 CX X E)(ha:PA X (e::es) t)
   (hst:starEach (e::es) X.env=(false,eval e X.env)::starEach es X.env:=by rfl) (hpl:(backTo pos (starEach es X.env)).any (·.1)=false:=by rfl)
   (ht:eval (.Call (.Attribute o m apos) (e::es) [] pos) X.env=(do
     let ov <- eval o X.env
     standAt apos.atName
     let (f,first) <- holding [ov] (getMethod ov m pl)
     callWith pos f first (backTo pos (starEach (e::es) X.env)) (backToKw pos (keywordEach [] X.env))):=by rfl) :
   PE X (.Call (.Attribute o m apos) (e::es) [] pos) (Zou C m sp dvs E ta t):=by
 intro pins s Z H Q I h;refine PySem.W.methodCall_KW (pl:=pl) (thn (he pins s Z H _ I h) fun u s1 ⟨x,H1,I1,rx,a,dx,fs,ex,ea,l,q⟩=>?_) ht;subst ex;obtain rfl:u=Value.ref a:=rx;refine Ze0 I1 ea c hm l ?_;refine PySem.W.callWith_K (first:=[.ref a]) (h₀:=X.base) I.ok.mod.kin hm.kp (thn (ha pos pins s1 Z H1 _ I1 q) fun us s2 ⟨vs,H2,I2,r,q2⟩=>⟨I2.kIn,?_⟩) hst hpl;exact Zh1 (us:=.ref a::us) (vs:=.ref a::vs) F hr hb hd hx I2 (.cons rfl r) q2
theorem Zlk(he:PE X o ta)(c:Cls X.K C)(hm:Meth X.K C m f)(F:FnOk X.prog X.w X.K X.mg X.base CX k f fd ps sp)(hr:Room k X.A)(hb:Binds X.K fd ps ds)(hd:Zf dvs ds)(hx:Za6 CX X E)
   (ht:eval (.Call (.Attribute o m apos) [] [] pos) X.env=(do
     let ov <- eval o X.env
     standAt apos.atName
     let (f,first) <- holding [ov] (getMethod ov m pl)
     callWith pos f first (backTo pos (starEach [] X.env)) (backToKw pos (keywordEach [] X.env))):=by rfl) :
   PE X (.Call (.Attribute o m apos) [] [] pos) (Zou C m sp dvs E ta ZjV):=by
 intro pins s Z H Q I h;refine PySem.W.methodCall_KW (pl:=pl) (thn (he pins s Z H _ I h) fun u s1 ⟨x,H1,I1,rx,a,dx,fs,ex,ea,l,q⟩=>?_) ht;subst ex;obtain rfl:u=Value.ref a:=rx;refine Ze0 I1 ea c hm l ?_;exact PySem.W.callWith_K0 (first:=[.ref a]) I1.kIn hm.kp (Zh1 (us:=[.ref a]) (vs:=[.ref a]) F hr hb hd hx I1 (.cons rfl .nil) q)
structure Mk(K:PySem.W.Frag)(C f:Addr):Prop where
 makes:PySem.W.makesIn K C=true
 init:PySem.W.findIn K (.ref C) "__init__" = some (some (.ref f))
 fn:PySem.W.isFn K (.ref f)=true
 kp:PySem.W.keepIn K (.ref C)=true
theorem ZgR(M:Mk X.K C f)(F:FnOk X.prog X.w X.K X.mg X.base CX k f fd ps sp)(hr:Room (k+1) X.A)(hb:Binds X.K fd ps ds)(hd:Zf dvs ds)
   (hx:Za6 CX X E) (I:Inv X pins Z H s) (r:Zf vs us)
   (h:∀ x dx,H x=none->H dx=none->dx≠x->sp (.ref x::(vs++dvs)) (upd (upd H dx (.own x)) x (.ins C dx [])) (fun v H2=>v=.non/\Q (.ref x) H2) E) :
   wpAny (model X.prog X.w) X.A (call (.ref C) us) (EP X pins Z Q) X.xe s:=by
 have hq:=h (s.heap.objs.size+1) s.heap.objs.size (I.hok.fresh (Nat.le_succ _)) (I.hok.fresh (Oq _)) (Ou (OH _));have I2:=Inv.made (C:=C) I;have r2:Zf (V.ref (s.heap.objs.size+1)::(vs++dvs)) (Value.ref (s.heap.objs.size+1)::(us++ds)):=.cons rfl (r.append hd);have hl:(Value.ref (s.heap.objs.size+1)::us++ds).length=ps.length:=by
   have e:=r2.length;rw [F.len _ _ _ _ hq] at e;exact e.symm
 refine wpAny_call (ZlG (f:=f) I.kIn M.makes M.init (beq_iff_eq.mp M.fn) (codeAny_mono (F.run _ X.stack _ _ ⟨Value.ref (s.heap.objs.size+1)::us,[]⟩ (Value.ref (s.heap.objs.size+1)::(us++ds)) _ _ E (hr.make C us [])
   (I2.env0.make C us []) (hb _ (Value.ref (s.heap.objs.size+1)::us) I2.kIn hl) r2 hq) fun r s' hq'=>?_))
 cases r with
 | error e=>exact hx pins Z _ _ e s' I2 hq'
 | ok fl =>
   cases fl with
   | ret u =>
     obtain ⟨v,H',I3,rv,ev,q3⟩:=I2.after hq';subst ev;exact ⟨rv,⟨V.ref (s.heap.objs.size+1),H',I3,rfl,q3⟩⟩
   | next=>exact False.elim hq'
   | brk=>exact False.elim hq'
   | cont=>exact False.elim hq'
theorem Zm6(M:Mk X.K C f)(F:FnOk X.prog X.w X.K X.mg X.base CX k f fd ps sp)(hr:Room (k+1) X.A)(hg:Gl X x)(hm:X.mg x=some (.ref C))(hb:Binds X.K fd ps ds)(hd:Zf dvs ds)(hx:Za6 CX X E)
   (ha:PA X (e::es) t) (hdb:(x==("__debug__" : Str))=false:=by decide) (he:starEach (e::es) X.env=(false,eval e X.env)::starEach es X.env:=by rfl) (hpl:(backTo pos (starEach es X.env)).any (·.1)=false:=by rfl) :
   PE X (.Call (.Name x p) (e::es) [] pos) (Zov C sp dvs E t):=by
 intro pins s Z H Q I h;refine wpAny_Call_Name_kw (Zem I hg hm ?_ hdb);refine PySem.W.callWith_K (h₀:=X.base) I.ok.mod.kin M.kp (thn (ha pos pins s Z H _ I h) fun us s1 ⟨vs,H1,I1,r,q⟩=>⟨I1.kIn,?_⟩) he hpl;exact ZgR M F hr hb hd hx I1 r q
theorem Zll(M:Mk X.K C f)(F:FnOk X.prog X.w X.K X.mg X.base CX k f fd ps sp)(hr:Room (k+1) X.A)(hg:Gl X x)(hm:X.mg x=some (.ref C))(hb:Binds X.K fd ps ds)(hd:Zf dvs ds)(hx:Za6 CX X E)
   (hdb:(x==("__debug__" : Str))=false:=by decide):PE X (.Call (.Name x p) [] [] pos) (Zov C sp dvs E ZjV):=by
 intro pins s Z H Q I h;refine wpAny_Call_Name_kw (Zem I hg hm ?_ hdb);exact PySem.W.callWith_K0 I.kIn M.kp (ZgR (us:=[]) M F hr hb hd hx I .nil h)
end
structure FnScope(N P:List Str)(sc:Scope):Prop where
 kind:sc.kind=.function
 co:sc.isCoroutine=false
 gen:sc.isGenerator=false
 nd:N.Nodup
 pre:N.take P.length=P
 par:∀ x∈P,sc.names.lookup x=some .local\/sc.names.lookup x=some .cell
 nofree:∀ y∈sc.names,y.2≠.free
theorem Zf2{kindOf:Str->Option NameKind}:∀ {binds:List (Str×Value)}{m:Str->Option Value},(∀ v,(x,v) ∉ binds)->bindL kindOf binds m x=m x
 | [],_,_=>rfl
 | (n,v)::r,m,h=>by
   unfold bindL;rw [Zf2 fun w hw=>h w (Oh _ hw)];split
   . have:x≠n:=by rintro rfl;exact h v Oi
     simp [this]
   . rfl
theorem Zf4{kindOf:Str->Option NameKind}:∀ {binds:List (Str×Value)}{m:Str->Option Value},(∀ v,(x,v) ∉ binds)->bindC kindOf binds m x=m x
 | [],_,_=>rfl
 | (n,v)::r,m,h=>by
   unfold bindC;rw [Zf4 fun w hw=>h w (Oh _ hw)];split
   . rfl
   . have:x≠n:=by rintro rfl;exact h v Oi
     simp [this]
theorem Zf3{kindOf:Str->Option NameKind}:∀ {P:List Str}{vs:List Value}{i:Nat}{m:Str->Option Value},P.Nodup->P[i]? = some x->vs[i]? = some v->kindOf x=some .local ->
   bindL kindOf (P.zip vs) m x=some v
 | [],_,_,_,_,h,_,_=>by simp at h
 | _::_,[],_,_,_,_,h,_=>by simp at h
 | p::P,w::vs,0,m,nd,h1,h2,hk=>by
   simp at h1 h2;subst h1;subst h2;show bindL kindOf ((p,w)::P.zip vs) m p=_;unfold bindL;rw [Zf2 fun v hv=>(List.nodup_cons.mp nd).1 (List.of_mem_zip hv).1,if_pos hk];simp
 | p::P,w::vs,i+1,m,nd,h1,h2,hk=>by
   show bindL kindOf ((p,w)::P.zip vs) m x=_;unfold bindL;exact Zf3 (i:=i) (List.nodup_cons.mp nd).2 (by simpa using h1) (by simpa using h2) hk
theorem Zf5{kindOf:Str->Option NameKind}:∀ {P:List Str}{vs:List Value}{i:Nat}{m:Str->Option Value},P.Nodup->P[i]? = some x->vs[i]? = some v->kindOf x≠some .local ->
   bindC kindOf (P.zip vs) m x=some v
 | [],_,_,_,_,h,_,_=>by simp at h
 | _::_,[],_,_,_,_,h,_=>by simp at h
 | p::P,w::vs,0,m,nd,h1,h2,hk=>by
   simp at h1 h2;subst h1;subst h2;show bindC kindOf ((p,w)::P.zip vs) m p=_;unfold bindC;rw [Zf4 fun v hv=>(List.nodup_cons.mp nd).1 (List.of_mem_zip hv).1,if_neg hk];simp
 | p::P,w::vs,i+1,m,nd,h1,h2,hk=>by
   show bindC kindOf ((p,w)::P.zip vs) m x=_;unfold bindC;exact Zf5 (i:=i) (List.nodup_cons.mp nd).2 (by simpa using h1) (by simpa using h2) hk
noncomputable def start(N:List Str)(vs:List V):St:=vs.map some++List.replicate (N.length - vs.length) none
noncomputable def ZiC(CX:CXT)(P:Program)(w:World)(K:PySem.W.Frag)(mg:Str->Option Value)(base:Heap)(N:List Str)(qual:Str)(scope:Scope)(f:Addr)(cd:Value)(A:Around)(outer:List Env)(s:Shared)(H:Hp)(E:XK):Cx where
 prog:=P
 w:=w
 K:=K
 mg:=mg
 base:=base
 A:=A.deeper (envOfC qual scope s.heap.objs.size f cd)
 N:=N
 s₀:=s
 H₀:=H
 env:=envOfC qual scope s.heap.objs.size f cd
 outer:=outer
 stack:=envOfC qual scope s.heap.objs.size f cd::outer
 ex:=[]
 calm:=true
 fn:=fun _=>true
 pn:=[]
 xe:=fun e s'=>wpAny (model P w) (A.deeper (envOfC qual scope s.heap.objs.size f cd)) (leaving (envOfC qual scope s.heap.objs.size f cd) e) (fun _ s''=>CX outer H s E e s'') (fun e' s''=>CX outer H s E e' s'') s'
theorem Zhu{sc:Scope}(h:sc.names.lookup x=some .cell):∃ c,(cellsFrom n sc.names []).lookup x=some c:=by
 have q:=PySem.W.cellsFrom_some sc.names n [] (.inl h);exact Option.isSome_iff_exists.mp q
theorem Zkk{CX:CXT}{P:Program}{w:World}{K:PySem.W.Frag}{mg:Str->Option Value}{base:Heap}{N ps:List Str}{qual:Str}{scope:Scope}{f:Addr}{cd:Value}{A:Around}{outer:List Env}{s s1:Shared}{H:Hp}{E:XK}{us:List Value}{vs:List V}
   (S_:FnScope N ps scope) (hd:A.handled=none) (e0:Env0 P w K mg base A outer s H) (hl:vs.length=ps.length) (r:Zf vs us)
   (x:InCallC s s.heap.objs.size (bindL (envOfC qual scope s.heap.objs.size f cd).kindOf (ps.zip us) fun _=>none) (cellsFrom (s.heap.objs.size+1) scope.names []) (bindC (envOfC qual scope s.heap.objs.size f cd).kindOf (ps.zip us) fun _=>none) s1) :
   Inv (ZiC CX P w K mg base N qual scope f cd A outer s H E) [] (start N vs) H s1:=by
 have hpl:ps.length<=N.length:=by have:=congrArg List.length S_.pre;rw [List.length_take] at this;lia
 obtain ⟨h1,tk,rfl,hk⟩:=x.done;have noA:∀ b:Addr,b ∉ (ZiC CX P w K mg base N qual scope f cd A outer s H E).ex:=fun b z=>absurd (show b∈([]:List Addr) from z) (by simp);refine ⟨⟨e0.mod,S_.kind,rfl,rfl,Oq _,fun y z c h1 h2=>?_,fun y hy=>?_,fun y c _ h=>?_,fun _=>hd,Around.frames_deeper e0.frames,.inr ⟨rfl,rfl⟩,fun b z=>absurd z (noA b),e0.bs,e0.bsz,fun b _ _=>noA b,fun b z=>absurd z (noA b),e0.funs,e0.frf⟩,
   rfl,e0.bare,Un.kept hk,⟨_,x.toInCall.ns,fun i y v h1 h2 h3=>?_⟩,fun y c h=>⟨_,x.cell y c h⟩,e0.hok.fresh (Oq _),fun y c h=>?_,fun p hp=>absurd (show p∈([]:List (Addr×Obj)) from hp) (by simp),e0.hok.kept hk,?_⟩
 . exact name_of_addr x.apart (PySem.mem_of_lookup h1) (PySem.mem_of_lookup h2)
 . have hy:scope.names.lookup y=some .cell\/scope.names.lookup y=some .free:=hy;rcases hy with hy|hy
   . exact Zhu hy
   . exact absurd rfl (S_.nofree _ (PySem.mem_of_lookup hy))
 . exact Nat.le_of_lt (x.above y c (PySem.mem_of_lookup h))
 . have hi:i<vs.length:=by
     unfold start at h2;by_cases hi:i<vs.length
     . exact hi
     . rw [Om (by simpa using hi)] at h2;rw [List.getElem?_replicate] at h2;split at h2<;>cases h2
   have ha:vs[i]? = some v:=by
     unfold start at h2;rw [Oe (by simpa using hi),On] at h2;cases e:vs[i]? with
     | none=>rw [e] at h2;cases h2
     | some a=>rw [e] at h2;cases h2;rfl
   obtain ⟨u,hu,rv⟩:=r.get ha;have hp:ps[i]? = some y:=by
     rw [<- S_.pre,List.getElem?_take_of_lt (by lia)];exact h1
   have ndP:ps.Nodup:=by rw [<- S_.pre];exact S_.nd.sublist (List.take_sublist _ _)
   refine ⟨u,rv,?_⟩;rcases S_.par y (O1 hp) with k|k
   . exact .inl ⟨k,Zf3 ndP hp hu k⟩
   . obtain ⟨c,e⟩:=Zhu (n:=s.heap.objs.size+1) k;refine .inr ⟨.inl k,c,e,?_⟩;have q:=x.cell y c e;rw [Zf5 ndP hp hu (by show scope.names.lookup y≠_;rw [k];decide)] at q;exact q
 . exact e0.hok.fresh (Nat.le_of_lt (x.above y c (PySem.mem_of_lookup h)))
 . unfold start;show _=N.length;rw [OA,List.length_map,List.length_replicate]
   lia
theorem ZsI{CX:CXT}{P:Program}{w:World}{K:PySem.W.Frag}{mg:Str->Option Value}{base:Heap}{k:Nat}{f:Addr}{name qual:Str}{params:Arguments}{body:List Stmt}{scope:Scope}{dV kV doc pm cdv ct oc:Value}{an od:Option Addr}
   {osl:Array (Option Value)}{N ps:List Str}{sp:Sp} (lk:K.lookup f=some ⟨oc,od,.func (PySem.W.fnOf name qual params body scope dV kV doc pm an cdv ct),osl⟩) (hcd:PySem.W.codeIn K cdv qual=true) (S_:FnScope N ps scope)
   (len:∀ vs H Q E,sp vs H Q E->vs.length=ps.length)
   (hbody:∀ (A:Around) (outer:List Env) (s:Shared) (H:Hp) (vs:List V) (Q:VK) (E:XK),Room k (A.deeper (envOfC qual scope s.heap.objs.size f cdv))->sp vs H Q E ->
     ∃ t,PSs (ZiC CX P w K mg base N qual scope f cdv A outer s H E) body t/\t {nx:=fun _ H'=>Q .non H',rt:=Q} (start N vs) H) :
   FnOk P w K mg base CX (k+1) f (PySem.W.fnOf name qual params body scope dV kV doc pm an cdv ct) ps sp:=by
 refine ⟨len,fun A outer s H args us vs Q E hr e0 hb r hsp=>?_⟩;have hl:=len _ _ _ _ hsp;have KX:K.In s.heap:=e0.mod.kin.keeps fun b o e=>(e0.bs b o e).1;have lim:s.heap.NoLimit:=e0.mod.nolimit.keeps fun b o e=>(e0.bs b o e).1;have hkind:∀ y∈ps.zip us,scope.names.lookup y.1=some .local\/(scope.names.lookup y.1=some .cell/\((cellsFrom (s.heap.objs.size+1) scope.names []).lookup y.1).isSome=true):=fun ⟨n,v⟩ hy=>by
   rcases S_.par n (List.of_mem_zip hy).1 with q|q
   . exact .inl q
   . exact .inr ⟨q,PySem.W.cellsFrom_some _ _ _ (.inl q)⟩
 refine codeAny_call_function hr.depth (KX _ _ lk) rfl S_.co S_.gen rfl (PySem.W.codeRec_of KX hcd) (hb _ _ _ _ ?_);refine wpAny_newFunctionEnv_cells S_.kind hkind fun env he s1 x=>?_;subst he;refine ⟨lim.keeps x.toInCall.keep,codeAny_func ?_⟩;obtain ⟨t,ht,hq⟩:=hbody A outer s H vs Q E (hr.deeper _) hsp;have I:Inv (ZiC CX P w K mg base N qual scope f cdv A outer s H E) [] (start N vs) H s1:=Zkk S_ hr.hd e0 hl r x;refine wpAny_mono (ht [] s1 (start N vs) H _ I hq) (fun fl s' hs=>?_) fun e s' hs=>hs;have fin:∀ {σ':St}{H':Hp}{v:V}{u:Value},Inv (ZiC CX P w K mg base N qual scope f cdv A outer s H E) [] σ' H' s'->RelV v u->Q v H'->CE outer P w H s Q u s' :=
   fun {σ' H' v u} J rv q=>⟨v,H',J.os,J.bare,J.base,J.hok,rv,q⟩
 cases fl with
 | ret u =>
   obtain ⟨v,σ',H',J,rv,q⟩:=hs;exact fin J rv q
 | next =>
   obtain ⟨σ',H',J,q⟩:=hs;exact fin (v:=V.non) (u:=Value.none) J rfl q
 | brk =>
   obtain ⟨_,_,_,q⟩:=hs;exact False.elim q
 | cont =>
   obtain ⟨_,_,_,q⟩:=hs;exact False.elim q
end L2
namespace L2
open PySem PySem.Spec PyProof.Rows
section
variable {X:Cx}{x:Str}{p pos:Pos}{e:Expr}{es:List Expr}{t:TA}{id T:String}{r:List V->Hp->VK->Prop}
noncomputable def tCB(r:List V->Hp->VK->Prop)(t:TA):TE:=fun Z H Q=>t Z H fun vs H1=>r vs H1 Q
theorem ZbR (hc:Zae X (.builtin id) r) (hg:Gl X x) (hm:X.mg x=none) (hv:bootBuiltins x=some (.builtin id)) (ha:PA X (e::es) t) (hn:x ≠ "__name__" := by decide) (hdb:(x==("__debug__" : Str))=false:=by decide)
   (he:starEach (e::es) X.env=(false,eval e X.env)::starEach es X.env:=by rfl) (hpl:(backTo pos (starEach es X.env)).any (·.1)=false:=by rfl):PE X (.Call (.Name x p) (e::es) [] pos) (tCB r t):=by
 intro pins s Z H Q I h;refine wpAny_Call_Name_kw (ZeQ I hg hm hv ?_ hn hdb);exact PyProof.Rows.callWith_builtin1 (thn (ha pos pins s Z H _ I h) fun us s1 ⟨vs,H1,I1,r1,q1⟩=>hc pins s1 Z H1 vs us Q I1 r1 q1) he hpl
theorem Zcl (hc:Zae X (.type T) r) (hg:Gl X x) (hm:X.mg x=none) (hv:bootBuiltins x=some (.type T)) (ha:PA X (e::es) t) (hn:x ≠ "__name__" := by decide) (hdb:(x==("__debug__" : Str))=false:=by decide)
   (he:starEach (e::es) X.env=(false,eval e X.env)::starEach es X.env:=by rfl) (hpl:(backTo pos (starEach es X.env)).any (·.1)=false:=by rfl):PE X (.Call (.Name x p) (e::es) [] pos) (tCB r t):=by
 intro pins s Z H Q I h;refine wpAny_Call_Name_kw (ZeQ I hg hm hv ?_ hn hdb);exact PyProof.Rows.callWith_type1 (thn (ha pos pins s Z H _ I h) fun us s1 ⟨vs,H1,I1,r1,q1⟩=>hc pins s1 Z H1 vs us Q I1 r1 q1) he hpl
end
end L2
namespace HT
open PySem PyProof.Rows
section
variable {prog:Program}{w:World}{A:Around}{E:Value->Shared->Prop}{s:Shared}
theorem Zn1(ht:IsTup s.heap t vs.toArray)(hb:IsTup s.heap b ws.toArray)(hv:vs≠[])
   (h1:ws=[]->Q (.ref t) s) (h2:ws≠[]->Q (.ref s.heap.objs.size) {s with heap:=s.heap.push {cls:=.type "tuple",data:=.seq (vs++ws).toArray}})
   (hsz:vs.length+ws.length<=sizeLine):wpAny (model prog w) A (binaryOp .Add (.ref t) (.ref b)) Q E s:=by
 obtain ⟨⟨cls,dd,data,sl⟩,ho,hc,n,hd⟩:=id ht;obtain ⟨⟨cls2,dd2,data2,sl2⟩,ho2,hc2,n2,hd2⟩:=id hb;simp only at hc hd hc2 hd2;subst hc hd hc2 hd2;have e:vs.toArray++ws.toArray=(vs++ws).toArray:=by simp
 by_cases hw:ws=[]
 . exact concat_meets ⟨_,ho,rfl⟩ ⟨_,ho2,rfl⟩ noFill_tuple_add seq_tuple_add PySem.F.slot_tuple_add PySem.F.entry_tuple_add (PySem.F.args_tuple_add_2 _ _)
     (tuple_addW1 t b vs.toArray ws.toArray n n2 dd dd2 sl sl2 (by simpa using hv) (by simp [hw])) ⟨ho,ho2,h1 hw⟩
 . refine concat_meets ⟨_,ho,rfl⟩ ⟨_,ho2,rfl⟩ noFill_tuple_add seq_tuple_add PySem.F.slot_tuple_add PySem.F.entry_tuple_add (PySem.F.args_tuple_add_2 _ _)
     (tuple_addW2 t b vs.toArray ws.toArray n n2 dd dd2 sl sl2 (by simpa using hv) (by simpa using hw) (by rw [Of,Of];exact hsz)) ⟨ho,ho2,?_⟩
   rw [e];exact h2 hw
noncomputable def sIx(n d:Nat):Option Int->Nat
 | none=>d
 | some v=>if v<0 then (v+(n:Int)).toNat else min v.toNat n
theorem Zph(n d:Nat)(hd:d<=n)(o:Option Int):sIx n d o<=n:=by
 cases o with
 | none=>exact hd
 | some v =>
   show (if v<0 then (v+(n:Int)).toNat else min v.toNat n)<=n;by_cases hv:v<0
   . rw [if_pos hv];lia
   . rw [if_neg hv];exact Nat.min_le_right _ _
theorem ZjI(v:Int)(n d:Nat):(if v<0 then max (v+(n:Int)) 0 else min v (n:Int))=((sIx n d (some v):Nat):Int):=by
 show (if v<0 then max (v+(n:Int)) 0 else min v (n:Int))=(((if v<0 then (v+(n:Int)).toNat else min v.toNat n):Nat):Int)
 by_cases hv:v<0
 . simp only [if_pos hv];lia
 . simp only [if_neg hv];lia
theorem ZiP(lo hi:Option Int)(n:Nat):Builtin.Slice.sliceAdjust lo hi 1 (n:Int)=(((sIx n 0 lo:Nat):Int),((sIx n n hi:Nat):Int)):=by
 have h1:¬ ((1:Int)<0):=by lia
 unfold Builtin.Slice.sliceAdjust;simp only [h1,if_false];refine Prod.ext ?_ ?_
 . cases lo with
   | none=>rfl
   | some v=>exact ZjI v n 0
 . cases hi with
   | none=>rfl
   | some v=>exact ZjI v n n
theorem Zh6(i j:Nat):Builtin.Slice.slicePlaces (i:Int) (j:Int) 1=j - i:=by
 unfold Builtin.Slice.slicePlaces;have h1:(1:Int) > 0:=by lia
 simp only [h1,if_true,Int.ediv_one];split<;>lia
theorem Zex(p:IsPart v o)(h:Q o s):wpAny (model prog w) A (Builtin.Slice.slicePartIndex v) Q E s:=by
 cases p with
 | none=>exact slicePart_none h
 | int i t=>exact slicePart_int h
theorem Zbn{sl:Addr}{vl vu:Value}{lo hi:Option Int}{n:Nat}{Q:Int×Int×Nat->Shared->Prop}(hs:s.heap.IsSliceOf sl vl vu .none)(pl:IsPart vl lo)(pu:IsPart vu hi)
   (h:Q (((sIx n 0 lo:Nat):Int),1,sIx n n hi - sIx n 0 lo) s):wpAny (model prog w) A (Builtin.Slice.sliceApplied (.ref sl) (pure (n:Int))) Q E s:=by
 obtain ⟨os,hos,hcs,hds⟩:=id hs;unfold Builtin.Slice.sliceApplied Builtin.Slice.sliceFields;refine wpAny_bind (wpAny_bind (wpAny_field hos hds (x:=vl) rfl (wpAny_bind (wpAny_field hos hds (x:=vu) rfl (wpAny_bind (wpAny_field hos hds (x:=.none) rfl (wpAny_pure ?_)))))));refine wpAny_bind (slicePart_none ?_);show wpAny _ _ (if ((1:Int)==0)=true then _ else _) _ _ s;rw [if_neg (by decide)];refine wpAny_bind (Zex pl (wpAny_bind (Zex pu (wpAny_bind (wpAny_pure ?_)))));show wpAny _ _ (match Builtin.Slice.sliceAdjust lo hi 1 (n:Int) with|(lo,hi)=>pure (lo,(1:Int),Builtin.Slice.slicePlaces lo hi 1)) _ _ s;rw [ZiP lo hi n];show wpAny _ _ (pure (((sIx n 0 lo:Nat):Int),(1:Int),Builtin.Slice.slicePlaces ((sIx n 0 lo:Nat):Int) ((sIx n n hi:Nat):Int) 1)) _ _ s;rw [Zh6];exact wpAny_pure h
theorem Zlf(xs:Array Value)(i k:Nat):((List.range k).filterMap fun (m:Nat)=>xs[((i:Int)+(m:Int) * 1).toNat]?).toArray=((xs.toList.drop i).take k).toArray:=by
 have e:(fun (m:Nat)=>xs[((i:Int)+(m:Int) * 1).toNat]?)=fun m=>xs[i+m]? := by
   funext m;have:((i:Int)+(m:Int) * 1).toNat=i+m:=by lia
   rw [this]
 rw [e];have:=pick_run xs i k;rw [List.filterMap_map] at this;have e2:((fun x=>xs[x]?) ∘ fun x=>i+x)=fun m=>xs[i+m]? := rfl;rw [e2] at this;rw [this]
theorem Zdh{t sl:Addr}{items:Array Value}{vl vu:Value}{lo hi:Option Int}{Q:Value->Shared->Prop}(ht:IsTup s.heap t items)(hs:s.heap.IsSliceOf sl vl vu .none)(pl:IsPart vl lo)(pu:IsPart vu hi)
   (hw:¬ (sIx items.size 0 lo=0/\sIx items.size items.size hi=items.size))
   (h:Q (.ref s.heap.objs.size) {s with heap:=s.heap.push {cls:=.type "tuple",data:=.seq ((items.toList.drop (sIx items.size 0 lo)).take (sIx items.size items.size hi - sIx items.size 0 lo)).toArray}})
   (hsz:items.size<=sizeLine):wpAny (model prog w) A (getItem (.ref t) (.ref sl)) Q E s:=by
 have htake:sizeOk (.seq ((items.toList.drop (sIx items.size 0 lo)).take (sIx items.size items.size hi - sIx items.size 0 lo)).toArray):=by
   show ((items.toList.drop (sIx items.size 0 lo)).take (sIx items.size items.size hi - sIx items.size 0 lo)).toArray.size<=sizeLine;rw [Of,List.length_take,List.length_drop,Array.length_toList]
   lia
 have hj:sIx items.size items.size hi<=items.size:=Zph _ _ (Oq _) hi;obtain ⟨os,hos,hcs,hds⟩:=id hs;have hTs:s.TypeIs (.ref sl) "slice" := ⟨os,hos,hcs⟩
 unfold getItem
 try with_reducible refine wpAny_holding ?_
 first|refine wpAny_bind (wpAny_pure ?_)|skip
 refine wpAny_bind (wpAny_sequenceKey ht.typeIs (by decide) ?_);refine wpAny_bind (wpAny_callSpecial?_slot (name:=O "__getitem__") ht.typeIs PyProof.Rows.slot_tuple_getitem
   (wpAny_call_entry PyProof.Rows.slot_tuple_getitem ht.typeIs entry_tuple_getitem ?_ (args_tuple_getitem _ _)))
 show wpAny _ _ (Builtin.Tuple.tupleItemsOf (.ref t) >>= _) _ _ s;refine wpAny_bind (tupleItemsOf_ ht ?_);refine wpAny_bind (wpAny_typeOf hTs ?_);rw [if_pos (by decide)];refine wpAny_bind (Zbn hs pl pu ?_);have hno:¬ ((((sIx items.size 0 lo:Nat):Int)==0&&(1:Int)==1&&(sIx items.size items.size hi - sIx items.size 0 lo)==items.size)=true):=by
   intro q;rw [Oa,Oa] at q;have q1:((sIx items.size 0 lo:Nat):Int)=0:=eq_of_beq q.1.1;have q2:sIx items.size items.size hi - sIx items.size 0 lo=items.size:=eq_of_beq q.2;exact hw ⟨by lia,by lia⟩
 show wpAny _ _ (if (((sIx items.size 0 lo:Nat):Int)==0&&(1:Int)==1&&(sIx items.size items.size hi - sIx items.size 0 lo)==items.size)=true then _ else _) _ _ s;rw [if_neg hno,Zlf]
 first
   | exact wpAny_bind (m:=Builtin.Tuple.tupleExact _) (wpAny_newObj_type (wpAny_pure ⟨_,rfl,wpAny_pure h⟩) htake)
   | exact wpAny_bind (m:=Builtin.Tuple.tupleExact _) (wpAny_newObj_type (wpAny_bind (wpAny_pure (wpAny_pure ⟨_,rfl,wpAny_pure h⟩))) htake)
   | exact wpAny_bind (wpAny_bind (m:=Builtin.Tuple.tupleExact _) (wpAny_newObj_type (wpAny_pure (wpAny_pure ⟨_,rfl,wpAny_pure h⟩)) htake))
   | exact wpAny_bind (wpAny_bind (m:=Builtin.Tuple.tupleExact _) (wpAny_newObj_type (wpAny_pure ⟨_,rfl,wpAny_pure h⟩) htake))
end
end HT
namespace L2
open PySem PySem.Spec PyProof.Rows
noncomputable abbrev TO:=St->Hp->(Option Int->Hp->Prop)->Prop
noncomputable def PO(X:Cx)(e:Option Expr)(t:TO):Prop :=
 ∀ (pins:List (Addr×Obj)) (s:Shared) (Z:St) (H:Hp) (Q:Option Int->Hp->Prop),Inv X pins Z H s->t Z H Q ->
   wpAny (model X.prog X.w) X.A (evalPart e X.env) (fun u s'=>∃ o H',Inv X pins Z H' s'/\IsPart u o/\Q o H') X.xe s
noncomputable def ZmH:TO:=fun _ H Q=>Q none H
noncomputable def Zrk(t:TE):TO:=fun Z H Q=>t Z H fun x H1=>∃ i,x=.int i/\Q (some i) H1
section
variable {X:Cx}{e:Expr}{te:TE}{lo hi:Option Expr}{tl th:TO}{pos p2:Pos}
theorem Zm1:PO X none ZmH:=by
 intro pins s Z H Q I h;rw [evalPart_none];exact wpAny_pure ⟨none,H,I,.none,h⟩
theorem Zm0(h:PE X e te):PO X (some e) (Zrk te):=by
 intro pins s Z H Q I hw;rw [evalPart_some];refine thn (h pins s Z H _ I hw) fun u s1 ⟨x,H1,I1,r1,q1⟩=>?_;obtain ⟨i,rfl,q⟩:=q1;obtain ⟨t,rfl⟩:=r1;exact ⟨some i,H1,I1,.int i t,q⟩
noncomputable def SlR(X:Cx)(r:V->Option Int->Option Int->Hp->VK->Prop):Prop :=
 ∀ (pins:List (Addr×Obj)) (s:Shared) (Z:St) (H:Hp) (x:V) (v vl vu:Value) (lo hi:Option Int) (sl:Addr) (Q:VK),Inv X pins Z H s->RelV x v->s.heap.IsSliceOf sl vl vu .none->IsPart vl lo->IsPart vu hi->r x lo hi H Q ->
   ∃ T id,typeLookup (.type T) "__getitem__" = pure (some (.builtin id))/\s.TypeIs v T/\wpAny (model X.prog X.w) X.A (getItem v (.ref sl)) (EP X pins Z Q) X.xe s
noncomputable def tSl(r:V->Option Int->Option Int->Hp->VK->Prop)(te:TE)(tl th:TO):TE:=fun Z H Q=>te Z H fun x H1=>tl Z H1 fun l H2=>th Z H2 fun u H3=>r x l u H3 Q
theorem Zli(hr:SlR X r)(he:PE X e te)(hl:PO X lo tl)(hu:PO X hi th):PE X (.Subscript e (.Slice lo hi none p2) pos) (tSl r te tl th):=by
 intro pins s Z H Q I h;refine Subscript_ (thn (he pins s Z H _ I h) fun v s1 ⟨x,H1,I1,r1,q1⟩=>?_);refine wpAny_Slice (thn (hl pins s1 Z H1 _ I1 q1) fun vl s2 ⟨l,H2,I2,pl,q2⟩=>thn (hu pins s2 Z H2 _ I2 q2) fun vu s3 ⟨u,H3,I3,pu,q3⟩=>?_);rw [evalPart_none];refine wpAny_pure ?_;have I4:Inv X pins Z H3 {s3 with heap:=s3.heap.push {cls:=.type "slice",data:=.fields #[vl,vu,.none]}}:=I3.kept (t':=s3.toks) fun b ob q=>Od _ q;obtain ⟨T,id,hT,ht,hg⟩:=hr pins {s3 with heap:=s3.heap.push {cls:=.type "slice",data:=.fields #[vl,vu,.none]}} Z H3 x v vl vu l u s3.heap.objs.size Q I4 r1 (Heap.IsSliceOf.new ..) pl pu q3;show wpAny (model X.prog X.w) X.A (subscriptTail e (.Slice lo hi none p2) v (.ref s3.heap.objs.size)) (EP X pins Z Q) X.xe {s3 with heap:=s3.heap.push {cls:=.type "slice",data:=.fields #[vl,vu,.none]}};exact tail_any (ops:=[.ref s3.heap.objs.size,v]) ht hT hg (by with_unfolding_all rfl)
noncomputable def Zho(xs:List V)(lo hi:Option Int):List V:=(xs.drop (HT.sIx xs.length 0 lo)).take (HT.sIx xs.length xs.length hi - HT.sIx xs.length 0 lo)
theorem ZdZ(xs:List V)(lo hi:Option Int):(Zho xs lo hi).length<=xs.length:=by
 unfold Zho;rw [List.length_take,List.length_drop]
 lia
noncomputable def ZtQ(K:PySem.W.Frag):V->Option Int->Option Int->Hp->VK->Prop:=fun x lo hi H Q=>∃ a xs,x=.ref a/\SqT K H a xs /\
 ¬ (HT.sIx xs.length 0 lo=0/\HT.sIx xs.length xs.length hi=xs.length)/\∀ p,H p=none->Q (.ref p) (upd H p (.tup (Zho xs lo hi)))
theorem Zpc:SlR X (ZtQ X.K):=by
 intro pins s Z H x v vl vu lo hi sl Q I rx hs pl pu h;obtain ⟨a,xs,rfl,hx,hw,q⟩:=h;cases rx;obtain ⟨its,r,ht,hz⟩:=I.tuple hx;have hlen:its.toArray.size=xs.length:=by rw [Of];exact r.length.symm
 refine ⟨"tuple",_,PyProof.Rows.slot_tuple_getitem.lookup,ht.typeIs,?_⟩;refine HT.Zdh ht hs pl pu (by rw [hlen];exact hw) ?_ (by rw [hlen];exact hz);rw [hlen];refine ⟨.ref s.heap.objs.size,_,I.laid (t':=s.toks) (o:=.tup (Zho xs lo hi)) (fun b ob q=>Od _ q) (Oq _) ?_,rfl,q _ (I.hok.fresh (Oq _))⟩;exact ⟨OE (ZdZ xs lo hi) hz,_,(r.drop (HT.sIx xs.length 0 lo)).take (HT.sIx xs.length xs.length hi - HT.sIx xs.length 0 lo),ZbJ.fresh _ _⟩
noncomputable def ZrM(K:PySem.W.Frag):R2:=fun x y H Q=>∃ a b xs ys,x=.ref a/\y=.ref b/\SqT K H a xs/\SqT K H b ys/\xs≠[]/\xs.length+ys.length<=sizeLine /\
 (ys=[]->Q (.ref a) H)/\(ys≠[]->∀ p,H p=none->Q (.ref p) (upd H p (.tup (xs++ys))))
theorem Zf.nil_iff(r:Zf xs us):us=[]↔xs=[]:=by
 cases r with
 | nil=>simp
 | cons _ _=>simp
theorem Zni:OpR X (binaryOp .Add) (ZrM X.K):=by
 intro pins s Z H x y v u Q I rx ry h;obtain ⟨a,b,xs,ys,rfl,rfl,ha,hb,hx,hz,q1,q2⟩:=h;cases rx;cases ry;obtain ⟨its,r1,p1,_⟩:=I.tuple ha;obtain ⟨its2,r2,p2,_⟩:=I.tuple hb;refine HT.Zn1 p1 p2 (fun z=>hx (r1.nil_iff.mp z)) (fun z=>⟨.ref a,H,I,rfl,q1 (r2.nil_iff.mp z)⟩) (fun z=>?_) (by rw [<- r1.length,<- r2.length];exact hz);refine ⟨.ref s.heap.objs.size,_,I.laid (t':=s.toks) (o:=.tup (xs++ys)) (fun b ob q=>Od _ q) (Oq _) ?_,rfl,q2 (fun w=>z (r2.nil_iff.mpr w)) _ (I.hok.fresh (Oq _))⟩;exact ⟨by rw [OA];exact hz,_,r1.append r2,ZbJ.fresh _ _⟩
end
end L2
namespace L2
open PySem PySem.Spec PyProof.Rows
noncomputable def ixN(n:Nat)(i:Int):Option Nat:=if 0<=i then (if i<n then some i.toNat else none) else if -(n:Int)<=i then some (i+n).toNat else none
noncomputable def atI(xs:List α)(i:Int):Option α:=(ixN xs.length i).bind fun j=>xs[j]?
theorem Zjz(h:ixN n i=some j):seqIndex? i n=some j/\j<n/\-(n:Int)<=i/\i<n:=by
 unfold ixN at h;by_cases h0:0<=i
 . rw [if_pos h0] at h;by_cases h1:i<n
   . rw [if_pos h1] at h;have e:i.toNat=j:=Option.some.inj h;exact ⟨by rw [seqIndex_of h0 h1,e],by lia,by lia,h1⟩
   . rw [if_neg h1] at h;cases h
 . rw [if_neg h0] at h;by_cases h1:-(n:Int)<=i
   . rw [if_pos h1] at h;have e:(i+n).toNat=j:=Option.some.inj h;exact ⟨by rw [seqIndex_neg (by lia) h1,e],by lia,h1,by lia⟩
   . rw [if_neg h1] at h;cases h
theorem ZgC(h:atI xs i=some v):∃ j,seqIndex? i xs.length=some j/\xs[j]? = some v/\j<xs.length/\-(xs.length:Int)<=i/\i<xs.length:=by
 unfold atI at h;cases e:ixN xs.length i with
 | none=>rw [e] at h;cases h
 | some j =>
   rw [e] at h;obtain ⟨h1,h2,h3,h4⟩:=Zjz e;exact ⟨j,h1,h,h2,h3,h4⟩
noncomputable def ZgD(b:Expr):Prop:=∀ o i,subscripted b false o i=operate [o,i] (getItem o i)
noncomputable def IxR(X:Cx)(r:R2):Prop :=
 ∀ (value slice:Expr) (pins:List (Addr×Obj)) (s:Shared) (Z:St) (H:Hp) (x y:V) (v u:Value) (Q:VK),Inv X pins Z H s->RelV x v->RelV y u->r x y H Q ->
   subscripted slice false v u=operate [v,u] (getItem v u)->wpAny (model X.prog X.w) X.A (subscriptTail value slice v u) (EP X pins Z Q) X.xe s
noncomputable def MtR(X:Cx)(id:String)(r:V->List V->Hp->VK->Prop):Prop :=
 ∀ (pins:List (Addr×Obj)) (s:Shared) (Z:St) (H:Hp) (x:V) (xs:List V) (v:Value) (us:List Value) (Q:VK),Inv X pins Z H s->RelV x v->Zf xs us->r x xs H Q ->
   wpAny (model X.prog X.w) X.A (call (.builtin id) (v::us)) (EP X pins Z Q) X.xe s
section
variable {X:Cx}{a b:Expr}{ta tb:TE}{pos:Pos}
theorem ZoB{r:R2}(hr:IxR X r)(ha:PE X a ta)(hb:PE X b tb)(hs:ZgD b):PE X (.Subscript a b pos) (tOp r ta tb):=by
 intro pins s Z H Q I h;exact Subscript_ (ZqL ha hb I h fun v u s2 x y H2 I2 rx ry q=>hr a b pins s2 Z H2 x y v u Q I2 rx ry q (hs _ _))
noncomputable def ZtX(K:PySem.W.Frag):R2:=fun x y H Q=>∃ p xs i v,x=.ref p/\y=.int i/\SqL K H p xs/\atI xs i=some v/\Q v H
noncomputable def ZtU(K:PySem.W.Frag):R2:=fun x y H Q=>∃ p xs i v,x=.ref p/\y=.int i/\SqT K H p xs/\atI xs i=some v/\Q v H
noncomputable def ZtV:R2:=fun x y H Q=>∃ z i c,x=.str z/\y=.int i/\z.length<=sizeLine/\atI z.cps.toList i=some c/\Q (.str ⟨#[c]⟩) H
theorem ZnG:IxR X (ZtX X.K):=by
 intro value slice pins s Z H x y v u Q I rx ry h hs;obtain ⟨p,xs,i,z,rfl,rfl,hq,he,q⟩:=h;cases rx;obtain ⟨t,rfl⟩:=ry;obtain ⟨its,r,pl,hz⟩:=I.list hq;obtain ⟨j,h1,h2,h3,h4,h5⟩:=ZgC he;obtain ⟨w,ew,rw'⟩:=r.get h2;have hl:=r.length;have hn:=ZbA;have fin:EP X pins Z Q w s:=⟨z,H,I,rw',q⟩
 by_cases h0:0<=i
 . have hj:i.toNat=j:=by
     rw [seqIndex_of h0 h5] at h1;exact Option.some.inj h1
   exact item_listR pl.isList h0 (by lia) (by rw [hj];simpa using ew) fin hs
 . have hj:(i+(its.toArray.size:Int)).toNat=j:=by
     rw [seqIndex_neg (by lia) h4] at h1;rw [Of,<- hl];exact Option.some.inj h1
   exact subscriptTail_builtinR (x:=w) pl.isList.typeIs slot_list_getitem.lookup
     (wpAny_getItem_list_neg (Q:=fun r s'=>r=w/\EP X pins Z Q r s') pl.isList (by lia) (by rw [Of]<;>lia) (by lia) (by rw [hj];simpa using ew) ⟨rfl,fin⟩) hs
theorem Zqh:IxR X (ZtU X.K):=by
 intro value slice pins s Z H x y v u Q I rx ry h hs;obtain ⟨p,xs,i,z,rfl,rfl,hq,he,q⟩:=h;cases rx;obtain ⟨t,rfl⟩:=ry;obtain ⟨its,r,pl,hz⟩:=I.tuple hq;obtain ⟨j,h1,h2,h3,h4,h5⟩:=ZgC he;obtain ⟨w,ew,rw'⟩:=r.get h2;have hl:=r.length;have hn:=ZbA;have fin:EP X pins Z Q w s:=⟨z,H,I,rw',q⟩
 exact subscriptTail_builtinR (x:=w) pl.typeIs slot_tuple_getitem.lookup
   (getItem_tuple (j:=j) (Q:=fun r s'=>r=w/\EP X pins Z Q r s') pl (by lia) (by lia) (by rw [Of,<- hl];exact h1) (by simpa using ew) ⟨rfl,fin⟩) hs
theorem Zqi:IxR X ZtV:=by
 intro value slice pins s Z H x y v u Q I rx ry h hs;obtain ⟨z,i,c,rfl,rfl,hz,he,q⟩:=h;obtain ⟨t,rfl⟩:=rx;obtain ⟨t',rfl⟩:=ry;obtain ⟨j,h1,h2,h3,h4,h5⟩:=ZgC he;have hl:z.cps.toList.length=z.length:=by simp [Str.length]
 rw [hl] at h1 h4 h5;have hn:=ZbA;exact tail_any (typeIs_str s z t) slot_str_getitem.lookup (getItem_str (c:=c) (by
   have e1:decide (i < -(2 ^ 63:Int))=false:=decide_eq_false (by lia);have e2:decide (i ≥ 2 ^ 63)=false:=decide_eq_false (by lia);rw [e1,e2,Bool.or_false]) (by rw [h1];simpa using h2) ⟨.str ⟨#[c]⟩,H,I.tok _,⟨_,rfl⟩,q⟩) hs
theorem Zif (its:List Value) (n j:Nat) (u:Value):Obj.mapSeq (·.setIfInBounds j u) {cls:=.type "list",data:=.seq its.toArray n}={cls:=.type "list",data:=.seq (its.set j u).toArray n}:=by
 simp [Obj.mapSeq]
theorem Inv.lst(I:Inv X pins Z H s)(h:H p=some (.lst xs)) :
   ∃ (its:List Value) (n:Nat),Zf xs its/\s.heap.get? p=some {cls:=.type "list",data:=.seq its.toArray n}/\xs.length<=sizeLine:=by
 obtain ⟨z,its,n,r,e⟩:=I.hok p _ h;exact ⟨its,n,r,e,z⟩
theorem Inv.lstUpd{pins:List (Addr×Obj)}{Z:St}{H:Hp}{s:Shared}{p:Addr}{xs ys:List V}{its its':List Value}{n n':Nat}{f:Obj->Obj}(I:Inv X pins Z H s)(h:H p=some (.lst xs))
   (ho:s.heap.get? p=some {cls:=.type "list",data:=.seq its.toArray n}) (hf:f {cls:=.type "list",data:=.seq its.toArray n}={cls:=.type "list",data:=.seq its'.toArray n'}) (r:Zf ys its') (hz:ys.length<=sizeLine) (t:Nat) :
   Inv X pins Z (upd H p (.lst ys)) {s with heap:=s.heap.update p f,toks:=t}:=by
 have e:(s.heap.update p f).get? p=some {cls:=.type "list",data:=.seq its'.toArray n'}:=by
   rw [Heap.get?_update_self f ho (by rw [hf]<;>rfl),hf]
 refine I.write (x:=p) (e:=p) (by rw [h];trivial) (.inl rfl) (fun b u hb q=>(Heap.get?_update_other _ _ (Ne.symm hb)).trans q) ⟨_,e⟩ ?_;exact ⟨hz,its',n',r,e⟩
noncomputable def ZrI:V->V->V->Hp->(Hp->Prop)->Prop:=fun o i v H Q=>∃ p xs k j,o=.ref p/\i=.int k/\H p=some (.lst xs)/\ixN xs.length k=some j/\Q (upd H p (.lst (xs.set j v)))
theorem set_list:Zky X ZrI:=by
 intro pins s Z H o i v ov iv u Q I ro ri rv h;obtain ⟨p,xs,k,j,rfl,rfl,hp,hj,q⟩:=h;cases ro;obtain ⟨t,rfl⟩:=ri;obtain ⟨its,n,r,ho,hz⟩:=I.lst hp;obtain ⟨h1,h2,h3,h4⟩:=Zjz hj;have hl:=r.length;have hn:=ZbA;have I':Inv X pins Z (upd H p (.lst (xs.set j v))) {s with heap:=s.heap.update p (Obj.mapSeq (·.setIfInBounds j u))} :=
   I.lstUpd hp ho (Zif its n j u) (r.set rv j) (by rw [List.length_set];exact hz) s.toks
 by_cases h0:0<=k
 . have hk:k.toNat=j:=by
     rw [seqIndex_of h0 h4] at h1;exact Option.some.inj h1
   exact PySem.W.ki_setAt ho h0 (by lia) (by rw [Of,<- hl];exact h4) (by rw [hk];exact ⟨_,I',q⟩)
 . have hk:(k+(its.toArray.size:Int)).toNat=j:=by
     rw [seqIndex_neg (by lia) h3] at h1;rw [Of,<- hl];exact Option.some.inj h1
   exact PySem.W.ki_setBack ho (by lia) (by rw [Of,<- hl];exact h3) (by lia) (by rw [hk];exact ⟨_,I',q⟩)
theorem Zga(lo hi:Option Int)(n:Nat):(sliceBounds lo hi none n).1=((HT.sIx n 0 lo:Nat):Int)/\(sliceBounds lo hi none n).2.1=((HT.sIx n n hi:Nat):Int)/\(sliceBounds lo hi none n).2.2=1:=by
 refine ⟨?_,?_,rfl⟩
 . cases lo with
   | none=>simp [sliceBounds,HT.sIx]
   | some i =>
     simp only [sliceBounds,HT.sIx,Option.getD_none,show (1:Int) > 0 by decide,if_true];by_cases h:i<0
     . simp only [h,if_true]<;>lia
     . simp only [h,if_false]<;>lia
 . cases hi with
   | none=>simp [sliceBounds,HT.sIx]
   | some i =>
     simp only [sliceBounds,HT.sIx,Option.getD_none,show (1:Int) > 0 by decide,if_true];by_cases h:i<0
     . simp only [h,if_true]<;>lia
     . simp only [h,if_false]<;>lia
theorem Zfw(its:List Value)(lo hi:Option Int):slicePick its.toArray lo hi none=((its.drop (HT.sIx its.length 0 lo)).take (HT.sIx its.length its.length hi - HT.sIx its.length 0 lo)).toArray:=by
 obtain ⟨h1,h2,h3⟩:=Zga lo hi its.toArray.size;unfold slicePick;rw [h1,h2,h3];simp only [sliceRange_one,pick_run,Of]<;>rfl
noncomputable def ZtS(K:PySem.W.Frag):V->Option Int->Option Int->Hp->VK->Prop:=fun x lo hi H Q=>∃ a xs,x=.ref a/\SqL K H a xs/\∀ p,H p=none->Q (.ref p) (upd H p (.lst (Zho xs lo hi)))
theorem ZmJ:SlR X (ZtS X.K):=by
 intro pins s Z H x v vl vu lo hi sl Q I rx hs pl pu h;obtain ⟨a,xs,rfl,hx,q⟩:=h;cases rx;obtain ⟨its,r,ht,hz⟩:=I.list hx;have hlen:=r.length;refine ⟨"list",_,slot_list_getitem.lookup,ht.isList.typeIs,?_⟩;refine wpAny_getItem_list_slice ht.isList hs pl pu .none (by simp) ?_ (by rw [Of]<;>lia);rw [Zfw,<- hlen];refine ⟨.ref s.heap.objs.size,_,I.laid (t':=s.toks) (o:=.lst (Zho xs lo hi)) (fun b ob q=>Od _ q) (Oq _) ?_,rfl,q _ (I.hok.fresh (Oq _))⟩;exact ⟨OE (ZdZ xs lo hi) hz,_,0,(r.drop (HT.sIx xs.length 0 lo)).take (HT.sIx xs.length xs.length hi - HT.sIx xs.length 0 lo),Oj _ rfl⟩
noncomputable def ZcL:V->Bool
 | .non=>true
 | .bl _=>true
 | .int _=>true
 | .str _=>true
 | _=>false
noncomputable def eqV:V->V->Bool
 | .non,.non=>true
 | .bl a,.bl b=>a==b
 | .bl a,.int b=>(if a then 1 else 0)==b
 | .int a,.bl b=>a==(if b then 1 else 0)
 | .int a,.int b=>a==b
 | .str a,.str b=>a==b
 | _,_=>false
theorem ZqE(ry:RelV y u)(rx:RelV x v)(fy:ZcL y=true)(fx:ZcL x=true):SeqAt.EqAt A s u v (eqV y x):=by
 cases y with
 | non =>
   cases ry;cases x with
   | non=>cases rx;exact SeqAt.EqAt.same _
   | bl b=>cases rx;exact SeqAt.EqAt.none_bool b
   | int b=>obtain ⟨t,rfl⟩:=rx;exact SeqAt.EqAt.none_int b t
   | str b=>obtain ⟨t,rfl⟩:=rx;exact SeqAt.EqAt.none_str b t
   | _=>exact absurd (show false=true from fx) Ow
 | bl a =>
   cases ry;cases x with
   | non=>cases rx;exact SeqAt.EqAt.bool_none a
   | bl b=>cases rx;exact SeqAt.EqAt.bool_bool a b
   | int b=>obtain ⟨t,rfl⟩:=rx;exact SeqAt.EqAt.bool_int a b t
   | str b=>obtain ⟨t,rfl⟩:=rx;exact SeqAt.EqAt.bool_str a b t
   | _=>exact absurd (show false=true from fx) Ow
 | int a =>
   obtain ⟨t',rfl⟩:=ry;cases x with
   | non=>cases rx;exact SeqAt.EqAt.int_none a t'
   | bl b=>cases rx;exact SeqAt.EqAt.int_bool a t' b
   | int b=>obtain ⟨t,rfl⟩:=rx;exact SeqAt.EqAt.int_int a t' b t
   | str b=>obtain ⟨t,rfl⟩:=rx;exact SeqAt.EqAt.int_str a t' b t
   | _=>exact absurd (show false=true from fx) Ow
 | str a =>
   obtain ⟨t',rfl⟩:=ry;cases x with
   | non=>cases rx;exact SeqAt.EqAt.str_none a t'
   | bl b=>cases rx;exact SeqAt.EqAt.str_bool a t' b
   | int b=>obtain ⟨t,rfl⟩:=rx;exact SeqAt.EqAt.str_int a t' b t
   | str b=>obtain ⟨t,rfl⟩:=rx;exact SeqAt.EqAt.str_str a t' b t
   | _=>exact absurd (show false=true from fx) Ow
 | _=>exact absurd (show false=true from fy) Ow
noncomputable def eqU(x:V)(u:Value):Bool:=match u with
 | .none=>eqV .non x
 | .bool b=>eqV (.bl b) x
 | .int i _=>eqV (.int i) x
 | .str z _=>eqV (.str z) x
 | _=>false
theorem Zl8(r:RelV y u)(f:ZcL y=true):eqU x u=eqV y x:=by
 cases y with
 | non=>cases r;rfl
 | bl b=>cases r;rfl
 | int i=>obtain ⟨t,rfl⟩:=r;rfl
 | str z=>obtain ⟨t,rfl⟩:=r;rfl
 | _=>exact absurd (show false=true from f) Ow
theorem ZdC:∀ {xs:List V}{us:List Value},Zf xs us->xs.all ZcL=true->us.any (eqU x)=xs.any fun y=>eqV y x
 | _,_,.nil,_=>rfl
 | y::xs,u::us,.cons r t,f=>by
   rw [List.all_cons,Oa] at f;rw [List.any_cons,List.any_cons,Zl8 r f.1,ZdC t f.2]
theorem ZbX(rx:RelV x v)(fx:ZcL x=true):∀ {xs:List V}{us:List Value},Zf xs us->xs.all ZcL=true->∀ u∈us,SeqAt.EqAt A s u v (eqU x u)
 | _,_,.nil,_=>fun u hu=>by cases hu
 | y::xs,u::us,.cons r t,f=>fun u' hu=>by
   rw [List.all_cons,Oa] at f;rcases O2.mp hu with rfl|hu
   . rw [Zl8 r f.1];exact ZqE r rx f.1 fx
   . exact ZbX rx fx t f.2 u' hu
noncomputable def inV(x:V)(xs:List V):Bool:=xs.any fun y=>eqV y x
noncomputable def rIn(K:PySem.W.Frag)(neg:Bool):R2:=fun x y H Q=>∃ p xs,y=.ref p/\(SqL K H p xs\/SqT K H p xs)/\ZcL x=true/\xs.all ZcL=true/\Q (.bl (if neg then !inV x xs else inV x xs)) H
theorem Zka:OpR X (compareOp .In) (rIn X.K false):=by
 intro pins s Z H x y v u Q I rx ry h;obtain ⟨p,xs,rfl,hq,fx,fs,q⟩:=h;cases ry;rcases hq with hq|hq
 . obtain ⟨its,r,pl,hz⟩:=I.list hq;refine SeqAt.in_listAt (eqU x) pl.isList (fun w hw=>ZbX rx fx r fs w (by simpa using hw)) ⟨.bl _,H,I,rfl,?_⟩;rw [show its.toArray.any (eqU x)=its.any (eqU x) by simp,ZdC r fs];exact q
 . obtain ⟨its,r,pl,hz⟩:=I.tuple hq;refine SeqAt.in_tupleAt (eqU x) pl (fun w hw=>ZbX rx fx r fs w (by simpa using hw)) ⟨.bl _,H,I,rfl,?_⟩;rw [show its.toArray.any (eqU x)=its.any (eqU x) by simp,ZdC r fs];exact q
theorem Zgh:OpR X (compareOp .NotIn) (rIn X.K true):=by
 intro pins s Z H x y v u Q I rx ry h;obtain ⟨p,xs,rfl,hq,fx,fs,q⟩:=h;cases ry;rcases hq with hq|hq
 . obtain ⟨its,r,pl,hz⟩:=I.list hq;refine SeqAt.notIn_listAt (eqU x) pl.isList (fun w hw=>ZbX rx fx r fs w (by simpa using hw)) ⟨.bl _,H,I,rfl,?_⟩;rw [show its.toArray.any (eqU x)=its.any (eqU x) by simp,ZdC r fs];exact q
 . obtain ⟨its,r,pl,hz⟩:=I.tuple hq;refine SeqAt.notIn_tupleAt (eqU x) pl (fun w hw=>ZbX rx fx r fs w (by simpa using hw)) ⟨.bl _,H,I,rfl,?_⟩;rw [show its.toArray.any (eqU x)=its.any (eqU x) by simp,ZdC r fs];exact q
theorem Zgy:Zae X (.builtin "len") (fun xs H Q=>∃ p ys,xs=[.ref p]/\(SqL X.K H p ys\/SqT X.K H p ys)/\Q (.int ys.length) H):=by
 intro pins s Z H xs us Q I r h;obtain ⟨p,ys,rfl,hq,q⟩:=h;obtain ⟨u,rfl,rx⟩:=vals1 r;cases rx;have hn:=ZbA;rcases hq with hq|hq
 . obtain ⟨its,r',pl,hz⟩:=I.list hq;have hlen:=r'.length;exact Calls.call_len_list pl.isList (by simp only [Of]<;>lia) ⟨.int ys.length,H,I.tok _,⟨s.toks+1,by rw [Of,hlen]⟩,q⟩
 . obtain ⟨its,r',pl,hz⟩:=I.tuple hq;have hlen:=r'.length;exact len_tuple pl (by simp only [Of]<;>lia) ⟨.int ys.length,H,I.tok _,⟨s.toks+1,by rw [Of,hlen]⟩,q⟩
theorem Zgx:Zae X (.builtin "len") (fun xs H Q=>∃ z,xs=[.str z]/\z.length<=sizeLine/\Q (.int z.length) H):=by
 intro pins s Z H xs us Q I r h;obtain ⟨z,rfl,hz,q⟩:=h;obtain ⟨u,rfl,t,rfl⟩:=vals1 r;have hn:=ZbA;exact len_str (by lia) ⟨.int z.length,H,I.tok _,⟨_,rfl⟩,q⟩
theorem Zgw:Zae X (.type "list") (fun xs H Q=>∃ p ys,xs=[.ref p]/\(SqL X.K H p ys\/SqT X.K H p ys)/\∀ l,H l=none->Q (.ref l) (upd H l (.lst ys))):=by
 intro pins s Z H xs us Q I r h;obtain ⟨p,ys,rfl,hq,q⟩:=h;obtain ⟨u,rfl,rx⟩:=vals1 r;cases rx;have fin:∀ (its:List Value),Zf ys its->ys.length<=sizeLine->∀ (h':Heap) (c':Nat),(∀ b o',s.heap.get? b=some o'->h'.get? b=some o') ->
     h'.get? s.heap.objs.size=some {cls:=.type "list",dict:=none,data:=.seq its.toArray c',slots:=#[]}->EP X pins Z Q (.ref s.heap.objs.size) {s with heap:=h'}:=fun its r' hz h' c' kp e =>
   ⟨.ref s.heap.objs.size,_,I.laid (t':=s.toks) kp (Oq _) (show ZH X.prog X.w _ h' _ (.lst ys) from ⟨hz,its,c',r',e⟩),rfl,q _ (I.hok.fresh (Oq _))⟩
 rcases hq with hq|hq
 . obtain ⟨its,r',pl,hz⟩:=I.list hq;have hlen:=r'.length;obtain ⟨o,ho,hc,n,hd⟩:=pl.isList;exact call_list_seq p (.inl rfl) ho hc hd (fun h' c' kp e=>fin its r' hz h' c' kp e) (by simp only [Of]<;>lia)
 . obtain ⟨its,r',pl,hz⟩:=I.tuple hq;have hlen:=r'.length;obtain ⟨o,ho,hc,n,hd⟩:=pl;exact call_list_seq p (.inr rfl) ho hc hd (fun h' c' kp e=>fin its r' hz h' c' kp e) (by simp only [Of]<;>lia)
theorem ZcR:Zae X (.type "tuple") (fun xs H Q=>∃ p ys,xs=[.ref p]/\((SqL X.K H p ys/\∀ l,H l=none->Q (.ref l) (upd H l (.tup ys)))\/(SqT X.K H p ys/\Q (.ref p) H))):=by
 intro pins s Z H xs us Q I r h;obtain ⟨p,ys,rfl,h⟩:=h;obtain ⟨u,rfl,rx⟩:=vals1 r;cases rx;rcases h with ⟨hq,q⟩|⟨hq,q⟩
 . obtain ⟨its,r',pl,hz⟩:=I.list hq;have hlen:=r'.length;refine call_tuple_list pl.isList (fun h' kp=>?_) (by simp only [Of]<;>lia);have I1:Inv X pins Z H {s with heap:=h'}:=I.kept (t':=s.toks) kp;have I2:Inv X pins Z (upd H h'.objs.size (.tup ys)) {s with heap:=h'.push {cls:=.type "tuple",data:=.seq its.toArray}} :=
     I1.laid (t':=s.toks) (fun b o e=>Od _ e) (Oq _) (show ZH X.prog X.w _ _ _ (.tup ys) from ⟨hz,its,r',ZbJ.fresh _ _⟩)
   exact ⟨.ref h'.objs.size,_,I2,rfl,q _ (I1.hok.fresh (Oq _))⟩
 . obtain ⟨its,r',pl,hz⟩:=I.tuple hq;exact call_tuple_same pl ⟨.ref p,H,I,rfl,q⟩
noncomputable def tyV(K:PySem.W.Frag)(T:String)(x:V)(H:Hp):Prop:=match x with
 | .str _=>T = "str"
 | .int _=>T = "int"
 | .ref p=>(T = "list" /\ ∃ xs,SqL K H p xs)\/(T = "tuple" /\ ∃ o,K.lookup p=some o/\o.cls=.type "tuple" /\ o.dict=none) \/
     (T = "dict" /\ ((∃ kvs,H p=some (.dK kvs))\/∃ kvs,H p=some (.dT kvs)))\/(T = "set" /\ ∃ S_ n,H p=some (.set S_ n))
 | _=>False
theorem ZkD(I:Inv X pins Z H s)(r:RelV x v)(ty:tyV X.K T x H) :
   s.TypeIs v T/\∀ a,v=.ref a->∃ ob,s.heap.get? a=some ob/\ob.dict=none:=by
 cases x with
 | str z =>
   obtain ⟨t,rfl⟩:=r;cases (show T = "str" from ty);exact ⟨typeIs_str s z t,fun _ e=>nomatch e⟩
 | int i =>
   obtain ⟨t,rfl⟩:=r;cases (show T = "int" from ty);exact ⟨typeIs_int s i t,fun _ e=>nomatch e⟩
 | ref p =>
   cases r;rcases ty with ⟨rfl,xs,hq⟩|⟨rfl,o,hk,hc,hd⟩|⟨rfl,hk⟩|⟨rfl,S_,n,hk⟩
   . obtain ⟨its,_,pl,_⟩:=I.list hq;refine ⟨pl.isList.typeIs,fun a e=>?_⟩;cases e;obtain ⟨o,n,e,c,hd,_⟩:=pl;exact ⟨o,e,hd⟩
   . refine ⟨⟨o,I.kIn p o hk,hc⟩,fun a e=>?_⟩;cases e;exact ⟨o,I.kIn _ o hk,hd⟩
   . have z:∃ o,s.heap.get? p=some o/\o.ExactDict:=by
       rcases hk with ⟨kvs,hk⟩|⟨kvs,hk⟩
       . obtain ⟨_,_,_,_,o,_,_,e,ex,_⟩:=I.hok p _ hk;exact ⟨o,e,ex⟩
       . obtain ⟨_,_,o,_,_,e,ex,_⟩:=I.hok p _ hk;exact ⟨o,e,ex⟩
     obtain ⟨o,e,ex⟩:=z;refine ⟨⟨o,e,ex.1⟩,fun a e2=>?_⟩;cases e2;exact ⟨o,e,ex.2.1⟩
   . obtain ⟨o,_,_,_,e,ex,_⟩:=I.hok p _ hk;refine ⟨⟨o,e,ex.1⟩,fun a e2=>?_⟩;cases e2;exact ⟨o,e,ex.2.1⟩
 | _=>exact False.elim ty
noncomputable def ZtE(K:PySem.W.Frag)(T:String)(r:V->List V->Hp->VK->Prop)(to:TE):TE:=fun Z H Q=>to Z H fun x H1=>tyV K T x H1/\r x [] H1 Q
noncomputable def tBM(K:PySem.W.Frag)(T:String)(r:V->List V->Hp->VK->Prop)(to:TE)(t:TA):TE:=fun Z H Q=>to Z H fun x H1=>tyV K T x H1/\t Z H1 fun xs H2=>r x xs H2 Q
variable {o e:Expr}{es:List Expr}{to:TE}{t:TA}{name:Str}{apos cpos:Pos}{T id:String}{r:V->List V->Hp->VK->Prop}
theorem ZpD (pa:PlainAttrs T) (slot:Slot T name id) (hty:typeOf (.builtin id)=pure (.type "method_descriptor")) (hm:MtR X id r) (ho:PE X o to)
   (hbase:attributeBase o name X.env (eval o X.env)=eval o X.env:=by rfl) (hline:(apos.endLine==cpos.line)=true:=by rfl):PE X (.Call (.Attribute o name apos) [] [] cpos) (ZtE X.K T r to):=by
 intro pins s Z H Q I h;refine wpAny_Call_method0_late hbase hline (thn (ho pins s Z H _ I h) fun v s1 ⟨x,H1,I1,r1,ty,q1⟩=>?_);obtain ⟨h1,h2⟩:=ZkD I1 r1 ty;exact ⟨T,id,pa,slot,hty,h1,h2,Calls.callWith_builtin rfl (PySem.evalArgs_none (hm pins s1 Z H1 x [] v [] Q I1 r1 .nil q1))⟩
theorem ZrW (pa:PlainAttrs T) (slot:Slot T name id) (hty:typeOf (.builtin id)=pure (.type "method_descriptor")) (hm:MtR X id r) (ho:PE X o to) (ha:PA X (e::es) t)
   (hbase:attributeBase o name X.env (eval o X.env)=eval o X.env:=by rfl)
   (hfew:((backTo cpos (starEach (e::es) X.env)).all (fun x=>!x.1)&&(backToKw cpos (keywordEach [] X.env)).all (fun x=>x.1.isSome)
     && decide ((e::es).length+([]:List Keyword).length+(if ([]:List Keyword).isEmpty then 0 else 1)<30))=true:=by rfl)
   (hline:(apos.endLine==cpos.line)=true:=by rfl) (hs:starEach (e::es) X.env=(false,eval e X.env)::starEach es X.env:=by rfl) (hplain:(backTo cpos (starEach es X.env)).any (·.1)=false:=by rfl) :
   PE X (.Call (.Attribute o name apos) (e::es) [] cpos) (tBM X.K T r to t):=by
 intro pins s Z H Q I h;refine wpAny_Call_method_late hbase hfew hline rfl (thn (ho pins s Z H _ I h) fun v s1 ⟨x,H1,I1,r1,ty,q1⟩=>?_);obtain ⟨h1,h2⟩:=ZkD I1 r1 ty;refine ⟨T,id,pa,slot,hty,h1,h2,?_⟩;have hA:=ha cpos pins s1 Z H1 _ I1 q1;rw [hs] at hA ⊢;refine Calls.callWith_builtin (by show (false || (backTo cpos (starEach es X.env)).any (·.1))=false;rw [hplain]<;>rfl) (Calls.evalArgs_plain ?_);exact thn hA fun us s2 ⟨vs,H2,I2,r2,q2⟩=>hm pins s2 Z H2 x vs v us Q I2 r1 r2 q2
end
end L2
namespace L2
open PySem PySem.Spec PyProof.Rows
noncomputable def MtM(X:Cx)(id:String)(r:V->List V->Hp->VK->Prop):Prop :=
 ∀ (pins:List (Addr×Obj)) (s:Shared) (Z:St) (H:Hp) (x:V) (xs:List V) (v:Value) (us:List Value) (Q:VK),Inv X pins Z H s->RelV x v->Zf xs us->r x xs H Q ->
   wpAny (model X.prog X.w) X.A (call (.builtin id) (v::us)) (EP X pins Z Q) X.xe s
theorem Zf.one:∀ {x:V}{us:List Value},Zf [x] us->∃ u,us=[u]/\RelV x u
 | _,_,.cons r .nil=>⟨_,rfl,r⟩
theorem Zf.zero:∀ {us:List Value},Zf [] us->us=[]
 | _,.nil=>rfl
theorem Zf.dropLast(h:Zf xs us):Zf xs.dropLast us.dropLast:=by
 induction h with
 | nil=>exact .nil
 | cons r t ih =>
   cases t with
   | nil=>exact .nil
   | cons q t'=>exact .cons r ih
theorem Zf.reverse(h:Zf xs us):Zf xs.reverse us.reverse:=by
 induction h with
 | nil=>exact .nil
 | cons r t ih=>rw [List.reverse_cons,List.reverse_cons];exact Zf.append ih (.cons r .nil)
theorem Ziz(l:List α):l.eraseIdx (l.length - 1)=l.dropLast:=by
 induction l with
 | nil=>rfl
 | cons a r ih =>
   cases r with
   | nil=>rfl
   | cons b r =>
     have e:(a::b::r).length - 1=((b::r).length - 1)+1:=by
       have h1:(a::b::r).length=r.length+2:=rfl;have h2:(b::r).length=r.length+1:=rfl
       lia
     rw [e,List.eraseIdx_cons_succ,ih]
     all_goals rfl
section
variable {X:Cx}{pins:List (Addr×Obj)}{Z:St}{H:Hp}{s:Shared}{l b:Addr}{xs ys zs:List V}
theorem Inv.lset{its its':List Value}{n:Nat}{f:Array Value->Array Value}{t':Nat}(I:Inv X pins Z H s)(hH:H l=some (.lst xs))
   (e:s.heap.get? l=some {cls:=.type "list",data:=.seq its.toArray n}) (hf:f its.toArray=its'.toArray) (hv:Zf ys its') (hz:ys.length<=sizeLine) :
   Inv X pins Z (upd H l (.lst ys)) {s with heap:=s.heap.update l (Obj.mapSeq f),toks:=t'}:=by
 have q:=PySem.IsL.update e f;rw [hf] at q;refine I.write (x:=l) (e:=l) (by rw [hH];exact trivial) (.inl rfl) (fun b' u hb hu=>(Heap.get?_update_other s.heap (Obj.mapSeq f) (Ne.symm hb)).trans hu) ⟨_,q⟩ ?_;exact ⟨hz,its',_,hv,q⟩
theorem Inv.lnew(I:Inv X pins Z H s)(hv:Zf ys its)(hz:ys.length<=sizeLine) :
   Inv X pins Z (upd H s.heap.objs.size (.lst ys)) {s with heap:=s.heap.push {cls:=.type "list",data:=.seq its.toArray},toks:=t'} :=
 I.laid (fun _ _ q=>Od _ q) (Oq _) ⟨hz,its,0,hv,Oj _ rfl⟩
theorem Inv.fresh(I:Inv X pins Z H s):H s.heap.objs.size=none:=I.hok.fresh (Oq _)
theorem Inv.lstM (I:Inv X pins Z H s) (hH:H l=some (.lst xs)):xs.length<=sizeLine/\∃ (its:List Value) (n:Nat),Zf xs its/\xs.length=its.length/\s.heap.get? l=some {cls:=.type "list",data:=.seq its.toArray n}:=by
 obtain ⟨z,its,n,r,e⟩:=I.hok l _ hH;exact ⟨z,its,n,r,r.length,e⟩
theorem ZgZ{n:Nat}(h:n<=sizeLine):Builtin.List.listTooLong n=false:=by
 unfold Builtin.List.listTooLong;exact decide_eq_false (by lia)
end
section
variable {X:Cx}
noncomputable def ZmU:V->List V->Hp->VK->Prop:=fun x vs H Q=>∃ l xs y,x=.ref l/\vs=[y]/\H l=some (.lst xs)/\xs.length<sizeLine/\Q .non (upd H l (.lst (xs++[y])))
theorem ZfT:MtM X "list.append" ZmU:=by
 intro pins s Z H x vs v us Q I rx rv h;obtain ⟨l,xs,y,rfl,rfl,hH,hz,q⟩:=h;cases rx;obtain ⟨u,rfl,ru⟩:=rv.one;obtain ⟨z,its,n,r,hl,e⟩:=I.lstM hH;refine call_meets F.slot_list_append ⟨_,e,rfl⟩ F.entry_list_append (F.args_list_append_2 _ _) (PySem.list_append l its.toArray n u (by rw [Of];lia)) ⟨e,?_⟩;refine ⟨.non,_,I.lset (its':=its++[u]) hH e (by simp) (r.append (.cons ru .nil)) ?_,rfl,q⟩;rw [OA,List.length_singleton]
 lia
noncomputable def ZmT:V->List V->Hp->VK->Prop:=fun x vs H Q=>∃ l b xs zs,x=.ref l/\vs=[.ref b]/\H l=some (.lst xs)/\H b=some (.lst zs)/\xs.length+zs.length<=sizeLine/\Q .non (upd H l (.lst (xs++zs)))
theorem Zke:MtM X "list.extend" ZmT:=by
 intro pins s Z H x vs v us Q I rx rv h;obtain ⟨l,b,xs,zs,rfl,rfl,hH,hB,hz,q⟩:=h;cases rx;obtain ⟨u,rfl,ru⟩:=rv.one;cases ru;obtain ⟨z,its,n,r,hl,e⟩:=I.lstM hH;obtain ⟨z2,its2,n2,r2,hl2,e2⟩:=I.lstM hB;have hsz:its.toArray.size+its2.toArray.size<=sizeLine:=by rw [Of,Of];lia
 have hlong:¬ (!its.toArray.isEmpty&&Builtin.List.listTooLong (its.toArray.size+its2.toArray.size))=true:=by
   rw [ZgZ hsz,Bool.and_false];exact Ow
 refine call_meets F.slot_list_extend ⟨_,e,rfl⟩ F.entry_list_extend (F.args_list_extend_2 _ _)
   (AutoSeq1.list_extend_list_list_0 l its.toArray n b its2.toArray n2 hlong (by rw [Of];lia) (by lia)) ⟨e,e2,?_⟩
 refine ⟨.non,_,I.lset (its':=its++its2) hH e (by simp) (r.append r2) ?_,rfl,q⟩;rw [OA]
 lia
noncomputable def ZtT:V->List V->Hp->VK->Prop:=fun x vs H Q=>∃ l xs y,x=.ref l/\vs=[]/\H l=some (.lst xs)/\xs[xs.length - 1]? = some y/\Q y (upd H l (.lst xs.dropLast))
theorem ZpW:MtM X "list.pop" ZtT:=by
 intro pins s Z H x vs v us Q I rx rv h;obtain ⟨l,xs,y,rfl,rfl,hH,hy,q⟩:=h;cases rx;have hus:=rv.zero;subst hus;obtain ⟨z,its,n,r,hl,e⟩:=I.lstM hH;obtain ⟨u,hu,ru⟩:=r.get hy;have hy':its.toArray[its.toArray.size - 1]? = some u:=by
   show its.toArray[its.length - 1]? = some u;rw [<- Array.getElem?_toList,<- hl];exact hu
 refine call_meets F.slot_list_pop ⟨_,e,rfl⟩ F.entry_list_pop (F.args_list_pop_1 _) (MeetsSeq.list_pop_last l its.toArray n u hy' (by rw [Of];lia)) ⟨e,?_⟩;refine ⟨y,_,I.lset (its':=its.dropLast) hH e ?_ r.dropLast ?_,ru,q⟩
 . show its.toArray.eraseIdxIfInBounds (its.toArray.size - 1)=its.dropLast.toArray;rw [Of,List.eraseIdxIfInBounds_toArray,Ziz]
 . rw [List.length_dropLast]
   lia
noncomputable def Zk3:V->List V->Hp->VK->Prop:=fun x vs H Q=>∃ l xs,x=.ref l/\vs=[]/\H l=some (.lst xs)/\Q .non (upd H l (.lst xs.reverse))
theorem Zic:MtM X "list.reverse" Zk3:=by
 intro pins s Z H x vs v us Q I rx rv h;obtain ⟨l,xs,rfl,rfl,hH,q⟩:=h;cases rx;have hus:=rv.zero;subst hus;obtain ⟨z,its,n,r,hl,e⟩:=I.lstM hH;refine call_meets F.slot_list_reverse ⟨_,e,rfl⟩ F.entry_list_reverse (F.args_list_reverse_1 _) (AutoSeq1.list_reverse_list_0 l its.toArray n (by rw [Of];lia)) ⟨e,?_⟩;refine ⟨.non,_,I.lset (its':=its.reverse) hH e (by simp) r.reverse ?_,rfl,q⟩;rw [List.length_reverse]
 lia
noncomputable def Zpk:V->List V->Hp->VK->Prop:=fun x vs H Q=>∃ l xs,x=.ref l/\vs=[]/\H l=some (.lst xs)/\Q .non (upd H l (.lst []))
theorem ZlC:MtM X "list.clear" Zpk:=by
 intro pins s Z H x vs v us Q I rx rv h;obtain ⟨l,xs,rfl,rfl,hH,q⟩:=h;cases rx;have hus:=rv.zero;subst hus;obtain ⟨z,its,n,r,hl,e⟩:=I.lstM hH;refine call_meets F.slot_list_clear ⟨_,e,rfl⟩ F.entry_list_clear (F.args_list_clear_1 _) (AutoSeq1.list_clear_list_0 l its.toArray n (by rw [Of];lia)) ⟨e,?_⟩;exact ⟨.non,_,I.lset (its':=[]) (ys:=[]) hH e rfl .nil (Nat.zero_le _),rfl,q⟩
noncomputable def ZtZ:R2:=fun x y H Q=>∃ l b xs zs,x=.ref l/\y=.ref b/\H l=some (.lst xs)/\H b=some (.lst zs)/\xs.length+zs.length<=sizeLine/\∀ p,H p=none->Q (.ref p) (upd H p (.lst (xs++zs)))
theorem ZpL:OpR X (binaryOp .Add) ZtZ:=by
 intro pins s Z H x y v u Q I rx ry h;obtain ⟨l,b,xs,zs,rfl,rfl,hH,hB,hz,q⟩:=h;cases rx;cases ry;obtain ⟨z,its,n,r,hl,e⟩:=I.lstM hH;obtain ⟨z2,its2,n2,r2,hl2,e2⟩:=I.lstM hB;refine PySem.P.add_list e e2 ?_ (by rw [Of,Of];lia);have ea:its.toArray++its2.toArray=(its++its2).toArray:=by simp
 rw [ea];exact ⟨.ref _,_,I.lnew (t':=s.toks) (r.append r2) (by rw [OA];lia),rfl,q _ I.fresh⟩
end
end L2
namespace Att
open PySem PySem.W PySem.Calls PyProof.Rows
theorem Zea:∀ (ns:List Int) (vs:List Value),WellAll P h vs (ns.map WData.int)->IntsAre vs ns:=by
 intro ns;induction ns with
 | nil =>
   intro vs w;rw [Oy] at w;cases w;exact .nil
 | cons n ns ih =>
   intro vs w;rw [Op] at w;cases w with
   | cons a b =>
     cases a;exact .cons _ _ (ih _ b)
theorem Zj1{l:OpenLaw}{n:Nat}(hn:l.most=some n){P:Params}{h:Heap}{args:List WData}{vals:List Value}
   (hpre:l.row.toRowW.claim.pre args=true) (hwl:WellAll P h vals args) :
   ∃ a vs ns,vals=[Value.ref a]/\args=[WData.list (ns.map WData.int)]/\h.get? a=some {cls:=.type "list",data:=.seq vs.toArray}/\IntsAre vs ns/\ns.length<=n:=by
 have hsh:WShape.hasAll [] args [.list .int]=true:=(pre_splitW hpre).1;have hc:l.pre.holds [] {args:=args}=true:=(pre_splitW hpre).2;obtain ⟨d,r,rfl,h1,h2⟩:=hasAllW_cons hsh;obtain rfl:=hasAllW_nil h2;obtain ⟨xs,rfl,h3⟩:=hasW_list h1;obtain ⟨ns,rfl⟩:=items_int h3;have hlen:ns.length<=n:=by
   unfold OpenLaw.pre at hc;have h4:(WTm.not (.lt (.lit (.int (n:Int))) (.len (.arg 0)))).holds [] {args:=[.list (ns.map .int)]}=true:=by
     have h4:=(holds_andW hc).1;rw [hn] at h4;exact h4
   have h5:=condW_of h4 (w_not (w_lt w_lit (w_len_list (w_arg rfl))));rw [List.length_map] at h5;refine Nat.le_of_not_lt fun q=>?_;have q':(n:Int)<((ns.length:Nat):Int):=by lia
   first
     | (rw [decide_eq_true q'] at h5;exact absurd h5 (by decide))
     | (simp at h5;lia)
 cases hwl with
 | cons w1 w2 =>
   cases w2;cases w1 with
   | list ho hall=>exact ⟨_,_,ns,rfl,rfl,ho,Zea ns _ hall,hlen⟩
theorem Zj3(l:OpenLaw)(args:List WData):l.row.toRowW.claim.post args (.bool true) args=true :=
 postW_of (r:=l.row.toRowW) (X:=(true==true))
   (show WShape.has [] (.bool true) .bool=true by first|rfl|decide|simp [WShape.has,WShape.arms,WShape.armsAll])
   (show (WTm.eq .res (.lit (.bool true))).value [] {args:=args,res:=some (.bool true),after:=args}=some (.bool (true==true)) from w_eq_bool (w_res rfl) w_lit) rfl
theorem ZhN{l:OpenLaw}{n:Nat}{q:Program}{loose:List Str}{XP:(Str->Option Value)->Heap->Prop}{YP:World->Heap->Prop}{d:DefRec}
   (hn:l.most=some n) (hdf:d.params.defaults=[])
   (call:∀ (w:World) (s₀ s₁:Shared) (mg mb:Str->Option Value) (fa:Addr) (o:Obj) (pm cd doc:Value) (a:Addr) (vs:List Value) (ns:List Int),
     Ground q loose [] XP w s₀ mg mb s₁.heap->YP w s₁.heap ->
     s₁.heap.get? fa=some o->o.data=.func (docDef d.name d.params d.body d.scope pm cd doc)->s₁.heap.CodeRec cd d.name->mg d.name=some (.ref fa) ->
     s₁.heap.get? a=some {cls:=.type "list",data:=.seq vs.toArray}->IntsAre vs ns->ns.length<=n->s₁.gens=#[] ->
     codeAny (model l.prog w) callerA (.call (.ref fa) ⟨[.ref a],[]⟩) (fun r s'=>r=.ok (.ret (.bool true))/\OldK s₁.heap s'.heap/\s'.os=s₁.os/\AllBare s'.gens) s₁) :
   WalkO q loose XP YP l.row.toRowW d [] (fun f vs=>PySem.call f vs):=by
 intro w s₀ s₁ mg mb G Y fa o pm cd doc dV kV ho hd hcd hD hmg hg args vals as hpre hlay hrd hwl hlo;obtain rfl:dV=.none:=Dflts.none hD hdf;obtain rfl:kV=.none:=Dflts.noKw hD;obtain ⟨a,vs,ns,rfl,rfl,hobj,hints,hlen⟩:=Zj1 hn hpre hwl;refine enter_call (codeAny_mono (call w s₀ s₁ mg mb fa o pm cd doc a vs ns G Y ho (fd_plain hd) hcd hmg hobj hints hlen hg) fun r s' hq=>?_);obtain ⟨rfl,h2,h3,h4⟩:=hq;exact ⟨.inl ⟨.bool true,.bool true,[],rfl,fun _=>rfl,.bool true,Zj3 l _,fun _=>⟨List.Pairwise.nil,fun _ hm=>(nomatch hm)⟩⟩,h2,h3,h4⟩
end Att
namespace L2
open PySem PySem.Spec PyProof.Rows
theorem ZfI:∀ {vs:List Value}{ns:List Int},IntsAre vs ns->Zf (ns.map V.int) vs
 | _,_,.nil=>.nil
 | _,_,.cons n t h=>.cons ⟨t,rfl⟩ (ZfI h)
noncomputable def Zop(H:Hp):Prop:=∀ b,H b=none\/∃ o xs,H b=some (.frz o (.lst xs))
theorem ZlK{P:Program}{w:World}{K:PySem.W.Frag}{mg mb:Str->Option Value}{CX:CXT}{k:Nat}{fa a:Addr}{fd:FuncData}{x:Str}{sp:Sp}{s₁:Shared}{vs:List Value}{ns:List Int}
   (KX:K.In s₁.heap) (hns:s₁.heap.Ns mainGlobals mg) (hb:s₁.heap.Ns builtinsNs mb) (hbb:∀ x:Str,x ≠ "__name__" -> mb x=bootBuiltins x) (hlim:s₁.heap.NoLimit) (hg:s₁.gens=#[])
   (ha:s₁.heap.get? a=some {cls:=.type "list",data:=.seq vs.toArray}) (hi:IntsAre vs ns) (hl:ns.length<=sizeLine) (hr:Room k callerA)
   (F:∀ base:Heap,K.In base->base.Ns mainGlobals mg->FnOk P w K mg base CX k fa fd [x] sp) (hbind:∀ (s:Shared) (u:Value),BindsTo s fd ⟨[u],[]⟩ [(x,u)])
   (hsp:∀ H:Hp,Zop H->SqL K H a (ns.map V.int)->sp [.ref a] H (fun v _=>v=.bl true) fun _ _ _=>False)
   (hCX:∀ H e s',CX [] H s₁ (fun _ _ _=>False) e s'->False) :
   codeAny (model P w) callerA (.call (.ref fa) ⟨[.ref a],[]⟩) (fun r s'=>r=.ok (.ret (.bool true))/\OldK s₁.heap s'.heap/\s'.os=s₁.os/\AllBare s'.gens) s₁:=by
 have rv:=ZfI hi;have lenV:=hi.length;have core:∀ H:Hp,Zop H->SqL K H a (ns.map V.int)->HOk P w H s₁.heap->(∀ b,H b≠none->b=a)->(H a≠none->K.lookup a=none) ->
     codeAny (model P w) callerA (.call (.ref fa) ⟨[.ref a],[]⟩) (fun r s'=>r=.ok (.ret (.bool true))/\OldK s₁.heap s'.heap/\s'.os=s₁.os/\AllBare s'.gens) s₁:=by
   intro H hO hS hok hA hK;have base_of:∀ {b:Addr}{o:Obj},s₁.heap.get? b=some o->H b=none->(Zgp s₁.heap H).get? b=some o:=fun e n=>ZlR e n;have noA:∀ {b:Addr}{o:Obj}{es:Array DictEntry}{ep:Nat},s₁.heap.get? b=some o->o.data=.dict es ep->H b=none:=fun {b o es ep} e d=>by
     cases q:H b with
     | none=>rfl
     | some u =>
       have e':b=a:=hA b (by rw [q];simp);subst e';rw [ha] at e;cases e;have d':Data.seq vs.toArray _=Data.dict es ep:=d;cases d'
   have nsK:∀ {b:Addr}{m:Str->Option Value},s₁.heap.Ns b m->(Zgp s₁.heap H).Ns b m:=fun {b m} ⟨o,es,ep,e,d,r⟩=>⟨o,es,ep,base_of e (noA e d),d,r⟩
   have hKb:K.In (Zgp s₁.heap H):=fun b o e=>base_of (KX b o e) (by
     cases q:H b with
     | none=>rfl
     | some u =>
       have e':b=a:=hA b (by rw [q];simp);subst e';rw [hK (by rw [q];simp)] at e;cases e)
   have hM:Mod K mg (Zgp s₁.heap H):=⟨hKb,nsK hns,⟨mb,nsK hb,hbb⟩,let ⟨mc,h1,h2⟩:=hlim;⟨mc,nsK h1,h2⟩⟩
   have e0:Env0 P w K mg (Zgp s₁.heap H) callerA [] s₁ H:=⟨rfl,hM,fun b o e=>Zns e,Nat.le_of_eq (Zkl _ _),trivial,fun b hb=>absurd (show b∈([]:List Addr) from hb) (by simp),hok,.of_eq hg⟩
   refine codeAny_mono ((F _ hKb (nsK hns)).run callerA [] s₁ H ⟨[.ref a],[]⟩ [.ref a] [.ref a] _ _ hr e0 (hbind s₁ (.ref a)) (.cons rfl .nil) (hsp H hO hS)) fun r s' h=>?_;cases r with
   | error e=>exact (hCX H e s' h).elim
   | ok fl =>
     cases fl with
     | next=>exact False.elim h
     | brk=>exact False.elim h
     | cont=>exact False.elim h
     | ret u =>
       obtain ⟨v,H',os,bare,un,hok',r',q⟩:=h;have q':v=.bl true:=q;subst q';obtain rfl:u=Value.bool true:=r';refine ⟨rfl,OldK.of_keep fun b o e=>?_,os,bare⟩;cases q:H b with
       | none=>exact un.keep b o e q (by intro z;exact absurd (show b∈([]:List Addr) from z) (by simp)) (by simp)
       | some u =>
         rcases hO b with z|⟨ob,xs,z⟩
         . rw [q] at z;cases z
         . have z2:=un.frzs b ob _ z;obtain ⟨e1,_⟩:=hok b _ z;obtain ⟨e2,_⟩:=hok' b _ z2;rw [e] at e1;cases e1;exact e2
 cases hk:K.lookup a with
 | some o =>
   have e:=KX a o hk;rw [ha] at e;cases e;refine core (fun _=>none) (fun _=>.inl rfl) (.inr ⟨_,vs.toArray,_,hk,rfl,rfl,rfl,by rw [Of,lenV];exact hl,by simpa using rv⟩) (fun b u z=>by have z':(none:Option HO)=some u:=z;cases z') (fun b z=>absurd rfl z) fun z=>absurd rfl z
 | none =>
   refine core (fun b=>if b=a then some (.frz {cls:=.type "list",data:=.seq vs.toArray} (.lst (ns.map V.int))) else none) (fun b=>?_) (.inl (.inr ⟨{cls:=.type "list",data:=.seq vs.toArray},if_pos rfl⟩)) (fun b u z=>?_) (fun b z=>?_) fun _=>hk
   . by_cases hb:b=a
     . exact .inr ⟨_,_,if_pos hb⟩
     . exact .inl (if_neg hb)
   . by_cases hb:b=a
     . have z':=(if_pos hb).symm.trans z;cases z';subst hb;exact ⟨ha,by rw [List.length_map];exact hl,vs,_,rv,ha⟩
     . have z':=(if_neg hb).symm.trans z;cases z'
   . by_cases hb:b=a
     . exact hb
     . exact absurd (if_neg hb) z
end L2
namespace L2
open PySem PySem.Spec PyProof.Rows
theorem ZmB{l:PySem.W.OpenLaw}{n k:Nat}{q:Program}{loose:List Str}{XP:(Str->Option Value)->Heap->Prop}{YP:World->Heap->Prop}{d:DefRec}{K:Params->PySem.W.Frag}{CX:World->CXT}{sp:World->Sp}{x:Str}
   (hn:l.most=some n) (hn2:n<=sizeLine) (hdf:d.params.defaults=[]) (hr:Room k callerA)
   (hY:∀ (w:World) (h:Heap),YP w h->(K w.params).In h)
   (F:∀ (w:World) (mg:Str->Option Value) (fa:Addr) (h:Heap),(K w.params).In h->h.Ns mainGlobals mg->mg d.name=some (.ref fa) ->
     ∃ fd:FuncData,(∀ (s:Shared) (u:Value),BindsTo s fd ⟨[u],[]⟩ [(x,u)]) /\
       ∀ base:Heap,(K w.params).In base->base.Ns mainGlobals mg->FnOk l.prog w (K w.params) mg base (CX w) k fa fd [x] (sp w))
   (hsp:∀ (w:World) (H:Hp) (a:Addr) (ns:List Int),ns.length<=n->Zop H->SqL (K w.params) H a (ns.map V.int)->sp w [.ref a] H (fun v _=>v=.bl true) fun _ _ _=>False)
   (hCX:∀ (w:World) (H:Hp) (s:Shared) (e:Value) (s':Shared),CX w [] H s (fun _ _ _=>False) e s'->False) :
   PySem.W.WalkO q loose XP YP l.row.toRowW d [] (fun f vs=>PySem.call f vs):=by
 refine Att.ZhN hn hdf fun w s₀ s₁ mg mb fa o pm cd doc a vs ns G Y ho hd hcd hmg hobj hints hlen hg=>?_;have KX:=hY w _ Y;obtain ⟨fd,hb,hF⟩:=F w mg fa _ KX G.T.g hmg;exact ZlK KX G.T.g G.T.b G.T.builtins G.T.nolimit hg hobj hints (OE hlen hn2) hr hF hb (fun H hO hS=>hsp w H a ns hlen hO hS) fun H e s'=>hCX w H s₁ e s'
end L2
namespace L2
open PySem PySem.Spec PyProof.Rows
noncomputable def inClass(s:Stmt)(j:Nat):Stmt:=match s with
 | .ClassDef _ _ _ body _ _ _ _ _ _ _=>body.getD j (.Pass ⟨0,0,0,0⟩)
 | _=>.Pass ⟨0,0,0,0⟩
noncomputable def Zcr(s:Stmt):Arguments:=match s with
 | .FunctionDef _ a _ _ _ _ _ _ _ _=>a
 | _=>{posonlyargs:=[],args:=[],vararg:=none,kwonlyargs:=[],kw_defaults:=[],kwarg:=none,defaults:=[]}
noncomputable def Zbf(s:Stmt):List Stmt:=match s with
 | .FunctionDef _ _ b _ _ _ _ _ _ _=>b
 | _=>[]
noncomputable def ZC(s:Stmt):Scope:=match s with
 | .FunctionDef _ _ _ _ _ _ sc _ _ _=>sc
 | _=>{kind:=.function,names:=[],isGenerator:=false,isCoroutine:=false}
noncomputable abbrev E0:XK:=fun _ _ _=>False
structure Fun(K:PySem.W.Frag)(x qual:Str)(st:Stmt)(f:Addr)(fd:FuncData):Prop where
 ex:∃ (oc:Value) (od:Option Addr) (kV doc pm:Value) (an:Option Addr) (cdv ct:Value) (osl:Array (Option Value)),
   fd=PySem.W.fnOf x qual (Zcr st) (Zbf st) (ZC st) .none kV doc pm an cdv ct/\K.lookup f=some ⟨oc,od,.func fd,osl⟩/\PySem.W.codeIn K cdv qual=true
 kp:PySem.W.keepIn K (.ref f)=true
section
variable {P:Program}{w:World}{K:PySem.W.Frag}{mg:Str->Option Value}{base:Heap}
theorem Fun.binds{x qual:Str}{st:Stmt}{f:Addr}{fd:FuncData}{ps:List Str}(F:Fun K x qual st f fd)
   (h:∀ (kV doc pm:Value) (an:Option Addr) (cdv ct:Value) (us:List Value),us.length=ps.length->bindArgs (PySem.W.fnOf x qual (Zcr st) (Zbf st) (ZC st) .none kV doc pm an cdv ct) ⟨us,[]⟩=pure (ps.zip us)):Binds K fd ps []:=by
 obtain ⟨oc,od,kV,doc,pm,an,cdv,ct,osl,rfl,lk,hcd⟩:=F.ex;exact .all (h kV doc pm an cdv ct)
theorem ZlW{x qual:Str}{st:Stmt}{f:Addr}{oc:Value}{od an:Option Addr}{osl:Array (Option Value)}{kV doc pm cdv ct:Value}(l:K.lookup f=some ⟨oc,od,.func (PySem.W.fnOf x qual (Zcr st) (Zbf st) (ZC st) .none kV doc pm an cdv ct),osl⟩)
   (c:PySem.W.codeIn K cdv qual=true) (k:PySem.W.keepIn K (.ref f)=true):Fun K x qual st f (PySem.W.fnOf x qual (Zcr st) (Zbf st) (ZC st) .none kV doc pm an cdv ct):=⟨⟨oc,od,kV,doc,pm,an,cdv,ct,osl,rfl,l,c⟩,k⟩
end
theorem Zio{A B_:Prop}(h:B_):if false=true then A else B_:=by
 rw [if_neg Ow];exact h
theorem Zin{A B_:Prop}(h:A):if true=true then A else B_:=by
 rw [if_pos rfl];exact h
end L2
end
section
set_option tactic.hygienic false
namespace L2
open PySem PySem.Spec PyProof.Rows
section
variable {κ:Type} [DecidableEq κ]
noncomputable def ZaU(kvs:List (κ×V))(k:κ):Option V:=(kvs.find? fun kv=>decide (kv.1=k)).map (·.2)
noncomputable def putK(kvs:List (κ×V))(k:κ)(v:V):List (κ×V) :=
 if (kvs.any fun kv=>decide (kv.1=k))=true then kvs.map (fun kv=>if kv.1=k then (kv.1,v) else kv) else kvs++[(k,v)]
theorem Zer{p:κ×V}{r:List (κ×V)}{k:κ}(e:p.1=k):ZaU (p::r) k=some p.2:=by simp [ZaU,List.find?_cons,e]
theorem Zes{p:κ×V}{r:List (κ×V)}{k:κ}(e:¬ p.1=k):ZaU (p::r) k=ZaU r k:=by simp [ZaU,List.find?_cons,e]
theorem ZgG(k:κ):∀ kvs:List (κ×V),(kvs.any fun kv=>decide (kv.1=k))=(ZaU kvs k).isSome
 | []=>rfl
 | p::r=>by
   rw [List.any_cons];by_cases e:p.1=k
   . simp only [Zer e,decide_eq_true e,Bool.true_or,Option.isSome_some]
   . rw [Zes e,decide_eq_false e,Bool.false_or];exact ZgG k r
theorem ZbZ(kvs:List (κ×V))(k:κ)(v:V):(putK kvs k v).length<=kvs.length+1:=by
 unfold putK;split
 . rw [List.length_map];lia
 . rw [OA,Os,List.length_nil];lia
theorem ZcA.isSome_eq{o:Option V}{u:Option Value}(r:ZcA o u):o.isSome=u.isSome:=by
 cases o with
 | none=>cases u with
   | none=>rfl
   | some _=>exact (show False from r).elim
 | some _=>cases u with
   | none=>exact (show False from r).elim
   | some _=>rfl
theorem KV.val{kvs:List (κ×V)}{vs:List (κ×Value)}(r:KV kvs vs)(k:κ):ZcA (ZaU kvs k) (valueAt vs k):=by
 unfold KV at r;induction r with
 | nil=>exact True.intro
 | @cons p q ps qs h t ih =>
   obtain ⟨h1,h2⟩:=h;by_cases e:p.1=k
   . have e':q.1=k:=h1.symm.trans e;have b:valueAt (q::qs) k=some q.2:=by simp [valueAt,List.find?_cons,e']
     rw [Zer e,b];exact h2
   . have e':¬ q.1=k:=fun z=>e (h1.trans z);have b:valueAt (q::qs) k=valueAt qs k:=by simp [valueAt,List.find?_cons,e']
     rw [Zes e,b];exact ih
theorem KV.any{kvs:List (κ×V)}{vs:List (κ×Value)}(r:KV kvs vs)(k:κ):(kvs.any fun kv=>decide (kv.1=k))=vs.any fun kv=>decide (kv.1=k):=by
 unfold KV at r;induction r with
 | nil=>rfl
 | cons h t ih=>rw [List.any_cons,List.any_cons,ih,h.1]
theorem KV.repl{kvs:List (κ×V)}{vs:List (κ×Value)}(r:KV kvs vs)(k:κ){y:V}{u:Value}(ry:RelV y u) :
   KV (kvs.map fun kv=>if kv.1=k then (kv.1,y) else kv) (vs.map fun kv=>if kv.1=k then (kv.1,u) else kv):=by
 unfold KV at r ⊢;induction r with
 | nil=>exact .nil
 | @cons p q ps qs h t ih =>
   rw [Op,Op];refine .cons ?_ ih;obtain ⟨h1,h2⟩:=h;by_cases e:p.1=k
   . rw [if_pos e,if_pos (h1.symm.trans e)];exact ⟨h1,ry⟩
   . rw [if_neg e,if_neg (fun z=>e (h1.trans z))];exact ⟨h1,h2⟩
theorem KV.put{kvs:List (κ×V)}{vs:List (κ×Value)}(r:KV kvs vs)(k:κ){y:V}{u:Value}(ry:RelV y u):KV (putK kvs k y) (stored vs k u):=by
 unfold putK stored;rw [r.any k];by_cases e:(vs.any fun kv=>decide (kv.1=k))=true
 . rw [if_pos e,if_pos e];exact r.repl k ry
 . rw [if_neg e,if_neg e];exact Paired.snoc r ⟨rfl,ry⟩
theorem KV.length(r:KV kvs vs):kvs.length=vs.length:=Paired.length r
end
theorem Zhc(r:RelV (kV k) u):(ZF P w).is k u=true:=by
 cases k with
 | inl i=>obtain ⟨t,e⟩:=(show ∃ t,u=Value.int i t from r);subst e;exact Zg3 P w i t
 | inr x=>obtain ⟨t,e⟩:=(show ∃ t,u=Value.str x t from r);subst e;exact Zg2 P w x t
section
variable {P:Program}{w:World}{H:Hp}{h:Heap}{a:Addr}
theorem ZrB(ok:HOk P w H h)(e:Rd H a u):ZH P w H h a u:=e.ok ok
theorem ZoI(ok:HOk P w H h)(e:Rd H a (.dK kvs)):kvs.length<=sizeLine/\(a==sysModules)=false/\∃ vs,KV kvs vs/\h.DictOf (ZF P w) a vs :=
 show ZH P w H h a (.dK kvs) from ZrB ok e
theorem ZoJ(ok:HOk P w H h)(e:H a=some (.dK kvs)):kvs.length<=sizeLine/\(a==sysModules)=false/\∃ vs,KV kvs vs/\h.DictOf (ZF P w) a vs:=ZoI ok (.inl e)
end
section
variable {X:Cx}{pins:List (Addr×Obj)}{Z:St}{H:Hp}{s:Shared}{a:Addr}{y v:V}{u r:Value}{o:Option V}{A:Around}{E:Value->Shared->Prop}
theorem Inv.big(I:Inv X pins Z H s):sysModules<s.heap.objs.size:=by
 have h:mainGlobals<s.heap.objs.size:=(I.mod.glob.keeps I.bk).lt;exact Nat.lt_trans (by decide) h
theorem ZjG(I:Inv X pins Z H s)(mu:Mut (H a))(hs:Heap.SameBut a s.heap h')(he:∃ q,h'.get? a=some q)(new:ZH X.prog X.w (upd H a ob) h' a ob) :
   Inv X pins Z (upd H a ob) {s with heap:=h',toks:=t'} :=
 I.write (x:=a) (e:=a) mu (.inl rfl) (fun b q hb z=>(hs.2 b hb).trans z) he new
theorem Zmb(z:kvs.length<=sizeLine)(hd:(a==sysModules)=false)(rel:KV kvs vs)(dd:h'.DictOf (ZF P w) a vs) :
   ZH P w H' h' a (.dK kvs):=⟨z,hd,vs,rel,dd⟩
end
theorem Zhn (h:Heap) (hb:sysModules<h.objs.size):ZH P w H (h.push {cls:=.type "dict",data:=.dict #[]}) h.objs.size (.dK []) :=
 ⟨Nat.zero_le _,beq_eq_false_iff_ne.mpr (Ne.symm (Ou hb)),[],.nil,Heap.DictOf.new h⟩
noncomputable def Zo8:TE:=fun _ H Q=>∀ p,H p=none->Q (.ref p) (upd H p (.dK []))
section
variable {X:Cx}{pos:Pos}
theorem Zlo:PE X (.Dict [] [] pos) Zo8:=fun pins s Z H Q I h =>
 wpAny_Dict_empty ⟨.ref s.heap.objs.size,_,I.laid (a:=s.heap.objs.size) (o:=.dK []) (t':=s.toks) (fun _ _ q=>Od _ q) (Oq _) (Zhn s.heap I.big),rfl,h _ (I.hok.fresh (Oq _))⟩
end
noncomputable def Zf8:List (TE×TE)->St->Hp->(List (V×V)->Hp->Prop)->Prop
 | [],_,H,Q=>Q [] H
 | (tk,tv)::r,Z,H,Q=>tk Z H fun x H1=>tv Z H1 fun y H2=>Zf8 r Z H2 fun ps H3=>Q ((x,y)::ps) H3
noncomputable abbrev VV:List (V×V)->List (Value×Value)->Prop:=Paired fun p q=>RelV p.1 q.1/\RelV p.2 q.2
noncomputable def PPs(X:Cx)(pos:Pos)(keys:List (Option Expr))(values:List Expr)(trs:List (TE×TE)):Prop :=
 ∀ (pins:List (Addr×Obj)) (s:Shared) (Z:St) (H:Hp) (Q:List (V×V)->Hp->Prop),Inv X pins Z H s->Zf8 trs Z H Q ->
   wpAny (model X.prog X.w) X.A (evalPairs (pairTrees keys values X.env pos)) (fun vs s'=>∃ ps H',Inv X pins Z H' s'/\VV ps vs/\Q ps H') X.xe s
theorem ZmZ:PPs X pos [] [] []:=fun pins s Z H Q I h=>pairTrees_nil_walk ⟨[],H,I,.nil,h⟩
theorem Zld(hk:PE X k tk)(hv:PE X v tv)(hr:PPs X pos ks vs trs) :
   PPs X pos (some k::ks) (v::vs) ((tk,tv)::trs):=fun pins s Z H Q I h =>
 pairTrees_cons_walk (thn (hk pins s Z H _ I h) fun u s1 ⟨x,H1,I1,rx,q1⟩=>thn (hv pins s1 Z H1 _ I1 q1) fun w2 s2 ⟨y,H2,I2,ry,q2⟩ =>
   thn (hr pins s2 Z H2 _ I2 q2) fun ws s3 ⟨ps,H3,I3,rel,q3⟩=>⟨(x,y)::ps,H3,I3,.cons ⟨rx,ry⟩ rel,q3⟩)
noncomputable def ZdG(kvs more:List (Key×V)):List (Key×V):=more.foldl (fun acc kv=>putK acc kv.1 kv.2) kvs
theorem KV.merge:∀ {more:List (Key×V)}{rs:List (Key×Value)}{kvs:List (Key×V)}{vs:List (Key×Value)},KV more rs->KV kvs vs->KV (ZdG kvs more) (merged vs rs):=by
 intro more rs kvs vs r;unfold KV at r;induction r generalizing kvs vs with
 | nil=>intro q;exact q
 | @cons p q ps qs h t ih =>
   intro r0;have e:KV (putK kvs p.1 p.2) (stored vs q.1 q.2):=by
     have:=r0.put p.1 h.2;rw [<- h.1];exact this
   exact ih e
theorem ZcI:∀ (more kvs:List (Key×V)),(ZdG kvs more).length<=kvs.length+more.length
 | [],kvs=>by show kvs.length<=kvs.length+0;lia
 | p::r,kvs=>by
   have h1:=ZcI r (putK kvs p.1 p.2);have h2:=ZbZ kvs p.1 p.2;show (ZdG (putK kvs p.1 p.2) r).length<=_;rw [Os];lia
theorem Zfi:∀ {kvs:List (Key×V)}{ws:List (Value×Value)},VV (kvs.map fun kv=>(kV kv.1,kv.2)) ws->∃ rs,Carries (ZF P w) ws rs/\KV kvs rs
 | [],_,r=>by rw [Oy] at r;cases r;exact ⟨[],True.intro,.nil⟩
 | p::kvs,_,r=>by
   rw [Op] at r;cases r with
   | @cons a b as bs h t =>
     obtain ⟨rs,c,q⟩:=Zfi (P:=P) (w:=w) t;obtain ⟨b1,b2⟩:=b;exact ⟨(p.1,b2)::rs,⟨Zhc h.1,rfl,c⟩,.cons ⟨rfl,h.2⟩ q⟩
noncomputable def Zrn(trs:List (TE×TE)):TE:=fun Z H Q=>∀ p,H p=none->Zf8 trs Z (upd H p (.dK [])) fun ps H2=>H2 p=some (.dK [])/\∃ kvs:List (Key×V),ps=kvs.map (fun kv=>(kV kv.1,kv.2))/\kvs.length<=15/\Q (.ref p) (upd H2 p (.dK (ZdG [] kvs)))
theorem Zm8(h:PPs X pos keys values trs)(hall:keys.all (·.isSome)=true)(hl:keys.length=values.length)(h0:keys≠[])
   (h15:keys.length<=15):PE X (.Dict keys values pos) (Zrn trs):=by
 intro pins s Z H Q I q;have hn:=I.hok.fresh (Oq s.heap.objs.size);have I1:=I.laid (a:=s.heap.objs.size) (o:=.dK []) (h':=s.heap.push {cls:=.type "dict",data:=.dict #[]}) (t':=s.toks) (fun _ _ q=>Od _ q) (Oq _) (Zhn s.heap I.big);refine wpAny_Dict_walk (knd:=ZF X.prog X.w) hall hl h0 h15 (thn (h pins _ Z _ _ I1 (q _ hn)) fun ws s2 ⟨ps,H2,I2,rel,e,kvs,ep,lk,q2⟩=>?_);subst ep;obtain ⟨rs,c,rk⟩:=Zfi (P:=X.prog) (w:=X.w) rel;obtain ⟨z,hd,vs0,r0,dd⟩:=ZoJ I2.hok e;cases r0;refine ⟨rs,c,dd,fun h' dd' hs=>⟨.ref s.heap.objs.size,_,?_,rfl,q2⟩⟩;have hz:(ZdG [] kvs).length<=sizeLine:=by
   have h1:=ZcI kvs [];rw [List.length_nil] at h1;rw [sizeLine_eq];lia
 have he:∃ q,h'.get? s.heap.objs.size=some q:=let ⟨q,_,_,hq,_⟩:=dd';⟨q,hq⟩;exact ZjG I2 (by rw [e];exact True.intro) hs he (Zmb hz hd (rk.merge .nil) dd')
end L2
end
section
namespace L2
open PySem PySem.Spec PyProof.Rows
theorem ZbY{env:Env}:∀ (names:List (Str×NameKind)) (x:Str),
   (names.map fun (n,k)=>if (k==NameKind.free&&env.scope.kind==.function&&env.kindOf n==some .cell) then (n,NameKind.cell) else (n,k)).lookup x =
     (names.lookup x).map fun k=>if (k==NameKind.free&&env.scope.kind==.function&&env.kindOf x==some .cell) then NameKind.cell else k
 | [],_=>rfl
 | (n,k)::r,x=>by
   have ih:=@ZbY env r x;show List.lookup x ((if (k==NameKind.free&&env.scope.kind==.function&&env.kindOf n==some .cell)=true then (n,NameKind.cell) else (n,k))::_)=_;cases hx:x==n with
   | true =>
     have e:x=n:=by simpa using hx
     subst e;by_cases hc:(k==NameKind.free&&env.scope.kind==.function&&env.kindOf x==some .cell)=true
     . rw [if_pos hc];simp only [OF,hx,Option.map_some,if_pos hc]
     . rw [if_neg hc];simp only [OF,hx,Option.map_some,if_neg hc]
   | false =>
     by_cases hc:(k==NameKind.free&&env.scope.kind==.function&&env.kindOf n==some .cell)=true
     . rw [if_pos hc];simp only [OF,hx];exact ih
     . rw [if_neg hc];simp only [OF,hx];exact ih
noncomputable def ZdM(env:Env):List (Str×NameKind)->List (Str×Addr)->List (Str×Addr)
 | [],cs=>cs
 | (n,k)::r,cs=>ZdM env r (if (k==.free)=true then (n,(env.cells.lookup n).getD 0)::cs else cs)
theorem Zhs{env:Env}:∀ (l:List (Str×NameKind)) (cs:List (Str×Addr)),(∀ y∈l,y.2=.free->∃ c,env.cells.lookup y.1=some c) ->
   (∀ x c,(x,c)∈cs->env.cells.lookup x=some c)->∀ x c,(x,c)∈ZdM env l cs->env.cells.lookup x=some c
 | [],cs,_,h2,x,c,hm=>h2 x c hm
 | (n,k)::r,cs,h1,h2,x,c,hm=>by
   refine Zhs r _ (fun y hy=>h1 y (Oh _ hy)) (fun x c hm=>?_) x c hm;by_cases hk:(k==NameKind.free)=true
   . rw [if_pos hk] at hm;rcases O2.mp hm with e|hm
     . cases e;have hk':k=.free:=by
         cases k<;>first|rfl|(exact absurd hk (by decide))
       obtain ⟨c,e⟩:=h1 (n,k) Oi hk';rw [e];rfl
     . exact h2 x c hm
   . rw [if_neg hk] at hm;exact h2 x c hm
theorem ZfZ:∀ (l:List (Str×NameKind)) (cs:List (Str×Addr)) (p:Str×Addr),p∈cs->p∈ZdM env l cs
 | [],_,_,h=>h
 | (n,k)::r,cs,p,h=>by
   refine ZfZ r _ p ?_;by_cases hk:(k==NameKind.free)=true
   . rw [if_pos hk];exact Oh _ h
   . rw [if_neg hk];exact h
theorem Zht:∀ (l:List (Str×NameKind)) (cs:List (Str×Addr)) (y:Str×NameKind),y∈l->y.2=.free->∃ c,(y.1,c)∈ZdM env l cs
 | (n,k)::r,cs,y,h,hf=>by
   rcases O2.mp h with e|h
   . subst e;refine ⟨(env.cells.lookup n).getD 0,ZfZ r _ _ ?_⟩;have hk:(k==NameKind.free)=true:=by
       have:k=.free:=hf;subst this;rfl
     rw [if_pos hk];exact Oi
   . exact Zht r _ y h hf
theorem ZcH:∀ {l:List (Str×α)}{x:Str}{c:α},(x,c)∈l->∃ c',l.lookup x=some c'/\(x,c')∈l
 | (n,d)::r,x,c,h=>by
   cases hx:x==n with
   | true =>
     have e:x=n:=by simpa using hx
     subst e;exact ⟨d,by simp [OF],Oi⟩
   | false =>
     rcases O2.mp h with e|h
     . cases e;simp at hx
     . obtain ⟨c',h1,h2⟩:=ZcH h;exact ⟨c',by simp only [OF,hx];exact h1,Oh _ h2⟩
theorem Zfz(h:∀ y∈scope.names,y.2=.free->∃ c,env.cells.lookup y.1=some c):closureFor scope env=pure (ZdM env scope.names []):=by
 have all:∀ (l:List (Str×NameKind)) (cs:List (Str×Addr)),(∀ y∈l,y.2=.free->∃ c,env.cells.lookup y.1=some c) ->
     (forIn l cs fun (x:Str×NameKind) r=>match x with|(name,kind)=>if (kind==NameKind.free)=true then (do let a <- cellOf env name;pure (ForInStep.yield ((name,a)::r))) else pure (ForInStep.yield r):Sem (List (Str×Addr)))=pure (ZdM env l cs):=by
   intro l;induction l with
   | nil=>intro cs _;rfl
   | cons y r ih =>
     intro cs hl;obtain ⟨n,k⟩:=y;rw [List.forIn_cons];have hr:=fun cs=>ih cs fun y hy=>hl y (Oh _ hy);by_cases hk:(k==NameKind.free)=true
     . have hk':k=.free:=by
         cases k<;>first|rfl|(exact absurd hk (by decide))
       obtain ⟨c,e⟩:=hl (n,k) Oi hk';have ec:cellOf env n=pure c:=by unfold cellOf;rw [e]
       simp only [hk,if_true,ec];show (forIn r ((n,c)::cs) _:Sem _)=_;rw [hr];show _=pure (ZdM env r (if (k==NameKind.free)=true then (n,(env.cells.lookup n).getD 0)::cs else cs));rw [if_pos hk,e];rfl
     . simp only [hk];show (forIn r cs _:Sem _)=_;rw [hr];show _=pure (ZdM env r (if (k==NameKind.free)=true then (n,(env.cells.lookup n).getD 0)::cs else cs));rw [if_neg hk]
 unfold closureFor;have z:=all scope.names [] h;dsimp only at z ⊢;rw [z];rfl
end L2
end
section
set_option tactic.hygienic false
namespace L2
open PySem PySem.Spec PyProof.Rows
theorem Zhr(I:Nat->Shared->Prop)
   (turn:∀ n s,I n s->wpAny (model prog w) A (pyNext it) (fun r s₁=>match r with
     | none=>R (.ok .next) s₁
     | some v=>wpAny (model prog w) A (letOwnedTupleGo target it v) (fun _ s₁'=>wpAny (model prog w) A (assign target env v) (fun _ s₂ =>
         wpAny (model prog w) A (forIn ifs true fun c r=>if r=true then do let ok <- isTrue c env (eval c env);pure (ForInStep.yield ok) else pure (ForInStep.yield r)) (fun ok s₃ =>
           if ok=true then wpAny (model prog w) A (eval elt env) (fun x s₄ =>
             wpAny (model prog w) A (call (.builtin "list.append") [acc,x]) (fun _ s₅=>∃ m,m<n/\I m s₅) (notedBy (model prog w) A env fun e s'=>R (.error e) s') s₄) (notedBy (model prog w) A env fun e s'=>R (.error e) s') s₃
           else ∃ m,m<n/\I m s₃) (notedBy (model prog w) A env fun e s'=>R (.error e) s') s₂) (notedBy (model prog w) A env fun e s'=>R (.error e) s') s₁') (notedBy (model prog w) A env fun e s'=>R (.error e) s') s₁) (notedBy (model prog w) A env fun e s'=>R (.error e) s') s)
   (n:Nat) (h:I n s) :
   codeAny (model prog w) A (.compLoop (.ListComp elt [⟨target,iter,ifs,0⟩] scope pos) 0 it acc env) R s:=by
 refine codeAny_loop rfl I (fun n s hI=>?_) n h;show wpAny _ A ((compTurn (.ListComp elt [⟨target,iter,ifs,0⟩] scope pos) 0 it acc env).onRaise (fun x=>do noteFrame x env;theTreesLotGoes x)) _ _ s;refine wpAny_noted ?_;rw [compTurn_list];refine wpAny_bind (wpAny_standAt (wpAny_bind (wpAny_mono (turn n s hI) (fun r s₁ h₁=>?_) fun _ _ h'=>h')));cases r with
 | none=>exact wpAny_pure h₁
 | some v =>
   refine wpAny_bind (wpAny_mono h₁ (fun _ s₁' h₁'=>?_) fun _ _ h'=>h');refine wpAny_bind (wpAny_mono h₁' (fun _ s₂ h₂=>wpAny_bind (wpAny_mono h₂ (fun ok s₃ h₃=>?_) fun _ _ h'=>h')) fun _ _ h'=>h');cases ok with
   | false=>exact wpAny_pure ⟨rfl,h₃⟩
   | true =>
     exact wpAny_bind (wpAny_bind (wpAny_mono h₃ (fun x s₄ h₄=>wpAny_bind (wpAny_mono h₄ (fun _ s₅ h₅=>wpAny_pure (wpAny_pure ⟨rfl,h₅⟩)) fun _ _ h'=>h')) fun _ _ h'=>h'))
structure CompSc(NC N:List Str)(js:List (Option Nat))(sc scope:Scope):Prop where
 kind:scope.kind=.function
 dkind:sc.kind=.function
 nocell:∀ y∈scope.names,y.2≠.cell
 locs:∀ y∈scope.names,y.2=.local->scope.names.lookup y.1=some .local
 free:∀ y∈scope.names,y.2=.free->sc.names.lookup y.1=some .cell
 nd:NC.Nodup
 len:js.length=NC.length
 jok:((NC.zip js).all fun p=>p.2.all fun j=>decide (N[j]? = some p.1)&&decide (scope.names.lookup p.1=some .free))=true
theorem CompSc.at{NC N:List Str}{js:List (Option Nat)}(S_:CompSc NC N js sc scope){i j:Nat}{x:Str}(h1:NC[i]? = some x)(h2:js[i]? = some (some j)):N[j]? = some x/\scope.names.lookup x=some .free:=by
 have h:=S_.jok;rw [OC] at h;have hm:(x,some j)∈NC.zip js:=by
   refine O1 (i:=i) ?_;rw [List.getElem?_zip_eq_some];exact ⟨h1,h2⟩
 have q:=h _ hm;simp only [Option.all_some,Oa,decide_eq_true_eq] at q;exact q
noncomputable def capt(js:List (Option Nat))(Z:St):St:=js.map fun o=>o.bind fun j=>(Z[j]?).join
noncomputable def Zq(X:Cx)(NC:List Str)(scope:Scope)(C:Addr)(s3:Shared)(H3:Hp)(fp:List Addr):Cx :=
 {X with N:=NC,s₀:=s3,H₀:=H3,env:=compEnvC scope (ZdM X.env scope.names []) C X.env,outer:=X.stack,stack:=X.stack,ex:=fp,fn:=fun _=>false,calm:=true,pn:=[],xe:=fun _ _=>False}
noncomputable def ZiQ(k:Nat)(g:TG):Prop:=∀ x Z H Q,g x Z H Q->g x Z H fun σ2 H2=>Q σ2 H2/\σ2.length=Z.length/\∀ j,k<=j->σ2[j]? = Z[j]?
noncomputable def ZhO(k:Nat)(g:TGs):Prop:=∀ x Z H Q,g x Z H Q->g x Z H fun σ2 H2=>Q σ2 H2/\σ2.length=Z.length/\∀ j,k<=j->σ2[j]? = Z[j]?
theorem ZmG(h:i<k):ZiQ k (ZbL i):=fun x Z H Q q=>⟨q,List.length_set,fun j hj=>by rw [Oc (by lia)]⟩
theorem ZiZ:ZhO k ZnN:=fun x Z H Q q=>⟨q.1,q.2,rfl,fun _ _=>rfl⟩
theorem Zeu(h:i<k)(hu:ZhO k u):ZhO k (Zhg (ZbL i) u):=by
 rintro xs Z H Q ⟨v,r,e,q⟩;refine ⟨v,r,e,?_⟩;have z:=hu r (Z.set i (some v)) H Q q;have z2:=hu r (Z.set i (some v)) H (fun σ2 H2=>Q σ2 H2/\σ2.length=(Z.set i (some v)).length/\∀ j,k<=j->σ2[j]? = (Z.set i (some v))[j]?) z;show u r (Z.set i (some v)) H _;have e1:(Z.set i (some v)).length=Z.length:=List.length_set;have e2:∀ j,k<=j->(Z.set i (some v))[j]? = Z[j]? := fun j hj=>Oc (by lia);have e3:(fun σ2 H2=>Q σ2 H2/\σ2.length=Z.length/\∀ j,k<=j->σ2[j]? = Z[j]?)=(fun σ2 H2=>Q σ2 H2/\σ2.length=(Z.set i (some v)).length/\∀ j,k<=j->σ2[j]? = (Z.set i (some v))[j]?):=by
   funext σ2 H2;rw [e1];refine propext ⟨fun ⟨a,b,c⟩=>⟨a,b,fun j hj=>(c j hj).trans (e2 j hj).symm⟩,fun ⟨a,b,c⟩=>⟨a,b,fun j hj=>(c j hj).trans (e2 j hj)⟩⟩
 rw [e3];exact z
theorem ZkJ{K:PySem.W.Frag}(hu:ZhO k u):ZiQ k (ZnM K n u):=by
 rintro x Z H Q ⟨a,xs,e,h1,h2,q⟩;exact ⟨a,xs,e,h1,h2,hu xs Z H Q q⟩
noncomputable def PIf(X:Cx)(ifs:List Expr)(t:TT):Prop :=
 ∀ (pins:List (Addr×Obj)) (s:Shared) (Z:St) (H:Hp) (Q:Bool->Hp->Prop),Inv X pins Z H s->t Z H Q ->
   wpAny (model X.prog X.w) X.A (forIn ifs true fun c r=>if r=true then do let ok <- isTrue c X.env (eval c X.env);pure (ForInStep.yield ok) else pure (ForInStep.yield r)) (TP X pins Z Q) X.xe s
noncomputable def Zts:TT:=fun _ H Q=>Q true H
theorem Zm3{X:Cx}:PIf X [] Zts:=fun _ _ _ H _ I h=>wpAny_tests_nil ⟨H,I,h⟩
theorem Zm2{X:Cx}{c:Expr}{t:TT}(hc:PT X c t):PIf X [c] t:=fun pins s Z H Q I h=>wpAny_tests_one (hc pins s Z H Q I h)
noncomputable def ZkL(wi:TI)(js:List (Option Nat))(g:TG)(tc:TT)(te:TE):TE:=fun Z H Q=>wi Z H fun J H1=>∀ D,H1 D=none->∃ W:Nat->Nat->List V->Hp->Prop,(∃ m,W 0 m [] (upd H1 D (.lst []))) /\
 ∀ i m ys H,W i m ys H->H D=some (.lst ys)->(J.stop i H/\Q (.ref D) H) \/
   (J.go i H/\ys.length<sizeLine/\∀ x H',J.yld i H x H'->g x (capt js Z) H' fun σ2 H2=>tc σ2 H2 fun b H3 =>
     if b=true then te σ2 H3 fun y H4=>H4 D=some (.lst ys)/\∃ m',m'<m/\W (i+1) m' (ys++[y]) (upd H4 D (.lst (ys++[y])))
     else H3 D=some (.lst ys)/\∃ m',m'<m/\W (i+1) m' ys H3)
section
variable {X:Cx}{pins:List (Addr×Obj)}{Z:St}{H:Hp}{s:Shared}
theorem ZlP{NC:List Str}{js:List (Option Nat)}{sc scope:Scope}{C:Addr}{h4:Heap}{tk:Nat}{fp:List Addr}{m:Str->Option Value}(S_:CompSc NC X.N js sc scope)(hsc:X.env.scope=sc)(hc:X.calm=true)
   (I:Inv X pins Z H s) (f:∀ b∈fp,ZcC X pins H b) (fo:∀ b∈fp,∃ o,s.heap.get? b=some o) (hC:C=s.heap.objs.size) (hns:h4.Ns C m) (hk:∀ b o,s.heap.get? b=some o->h4.get? b=some o) :
   Inv (Zq X NC scope C s H fp) [] (capt js Z) H {s with heap:=h4,toks:=tk}:=by
 have hcells:∀ y∈scope.names,y.2=.free->∃ c,X.env.cells.lookup y.1=some c:=fun y hy hf=>I.ok.has y.1 (.inl (show X.env.scope.names.lookup y.1=some .cell by rw [hsc];exact S_.free y hy hf));have cl1:∀ x c,(ZdM X.env scope.names []).lookup x=some c->X.env.cells.lookup x=some c:=fun x c e=>Zhs scope.names [] hcells (fun _ _ z=>by cases z) x c (PySem.mem_of_lookup e);have cl2:∀ y∈scope.names,y.2=.free->∃ c,(ZdM X.env scope.names []).lookup y.1=some c:=fun y hy hf=>by
   obtain ⟨c,hm⟩:=Zht (env:=X.env) scope.names [] y hy hf;obtain ⟨c',e,_⟩:=ZcH hm;exact ⟨c',e⟩
 have kinds:∀ x,(Zq X NC scope C s H fp).env.kindOf x=(scope.names.lookup x).map fun k=>if (k==NameKind.free&&X.env.scope.kind==.function&&X.env.kindOf x==some .cell) then NameKind.cell else k:=fun x=>ZbY scope.names x;have fcell:∀ x,scope.names.lookup x=some .free->(Zq X NC scope C s H fp).env.kindOf x=some .cell:=fun x e=>by
   rw [kinds,e];have h1:X.env.kindOf x=some .cell:=show X.env.scope.names.lookup x=some .cell by rw [hsc];exact S_.free (x,.free) (PySem.mem_of_lookup e) rfl
   have h2:X.env.scope.kind=.function:=I.ok.kind;simp only [Option.map_some,h1,h2];rfl
 have flt:∀ b∈fp,b<s.heap.objs.size:=fun b hb=>let ⟨o,e⟩:=fo b hb;Heap.lt_size e;refine ⟨⟨I.ok.mod,S_.kind,I.ok.glob,I.ok.blt,Nat.le_of_eq hC.symm,fun x y c h1 h2=>I.ok.inj x y c (cl1 x c h1) (cl1 y c h2),fun x hx=>?_,fun x c hf _=>absurd (show false=true from hf) Ow,fun _=>I.ok.hd hc,I.ok.frames,.inl rfl,fun b hb=>⟨?_,fun x c e=>(f b hb).2.2.2.2.1 x c (cl1 x c e)⟩,
     I.bs,OE I.ok.bsz I.sz,fun b o e hb=>?_,fun b hb hm=>?_,I.stack,I.stkFree⟩,
   rfl,I.bare,Un.kept hk,⟨m,hns,fun i x v h1 h2 h3=>?_⟩,fun x c e=>?_,?_,fun x c e=>I.freeC x c (cl1 x c e),fun p hp=>absurd (show p∈([]:List (Addr×Obj)) from hp) (by simp),I.hok.kept hk,?_⟩
 . rw [kinds] at hx;cases e:scope.names.lookup x with
   | none=>rw [e] at hx;rcases hx with hx|hx<;>cases hx
   | some k =>
     rw [e] at hx;have hm:=PySem.mem_of_lookup e;have hk:k=.free:=by
       by_cases hf:(k==NameKind.free)=true
       . cases k<;>first|rfl|(exact absurd hf (by decide))
       . have hf':(k==NameKind.free)=false:=Bool.eq_false_iff.mpr hf;simp only [Option.map_some,hf',Bool.false_and,OG,if_false] at hx;rcases hx with hx|hx
         . exact absurd (Option.some.inj hx) (S_.nocell _ hm)
         . exact Option.some.inj hx
     exact cl2 (x,k) hm hk
 . show b≠C;rw [hC];exact Ou (flt b hb)
 . obtain ⟨_,_,_,f3,_⟩:=f b hb;rcases f3 with z|z
   . exact I.ok.noex b o e z
   . exact absurd (Ot (Heap.lt_size e) (OE I.ok.bsz z)) (Nat.lt_irrefl _)
 . obtain ⟨_,f1,f2,_⟩:=f b hb;exact (O2.mp (I.stkSub b hm)).elim f1 f2
 . have hj:∃ j,js[i]? = some (some j)/\Z[j]? = some (some v):=by
     unfold capt at h2;rw [On] at h2;cases e:js[i]? with
     | none=>rw [e] at h2;cases h2
     | some o =>
       rw [e] at h2;have h2':(o.bind fun j=>(Z[j]?).join)=some v:=Option.some.inj h2;cases o with
       | none=>cases h2'
       | some j =>
         refine ⟨j,rfl,?_⟩;have h3':(Z[j]?).join=some v:=h2';cases q:Z[j]? with
         | none=>rw [q] at h3';cases h3'
         | some r=>rw [q] at h3';rw [show r=some v from h3']
   obtain ⟨j,hj,hσ⟩:=hj;obtain ⟨hN,hfr⟩:=S_.at (show NC[i]? = some x from h1) hj;have hcell:X.env.scope.names.lookup x=some .cell:=by rw [hsc];exact S_.free (x,.free) (PySem.mem_of_lookup hfr) rfl
   obtain ⟨m0,_,hl⟩:=I.loc;obtain ⟨u,r,l⟩:=hl j x v hN hσ (.inr (.inl hcell));refine ⟨u,r,?_⟩;rcases l with ⟨k,_⟩|⟨_,c,e,z⟩
   . rw [show X.env.kindOf x=some .cell from hcell] at k;cases k
   . obtain ⟨c',e'⟩:=cl2 (x,.free) (PySem.mem_of_lookup hfr) rfl;have ec:=cl1 x c' e';rw [e] at ec;cases ec;obtain ⟨o,ho,hd⟩:=z;exact .inr ⟨.inl (fcell x hfr),c,e',o,hk _ _ ho,hd⟩
 . obtain ⟨v,o,ho,hd⟩:=I.cell x c (cl1 x c e);exact ⟨v,o,hk _ _ ho,hd⟩
 . show H C=none;rw [hC];exact I.hok.fresh (Oq _)
 . unfold capt;rw [List.length_map];exact S_.len
end
section
variable {X:Cx}{elt tg iter:Expr}{ifs:List Expr}{scope sc:Scope}{pos:Pos}{NC:List Str}{js:List (Option Nat)}{k:Nat}{wi:TI}{g:TG}{tc:TT}{te:TE}
theorem Inv.comp_out{pins:List (Addr×Obj)}{Z σ':St}{H3 H':Hp}{s3 s1:Shared}{C:Addr}{fp:List Addr}{h'':Heap}(I3:Inv X pins Z H3 s3)(f:∀ b∈fp,ZcC X pins H3 b)(hC:C=s3.heap.objs.size)
   (I':Inv (Zq X NC scope C s3 H3 fp) [] σ' H' s1) (hs:Heap.SameBut C s1.heap h''):Inv X pins Z H' {s1 with heap:=h''}:=by
 have ne:∀ b o,s3.heap.get? b=some o->b≠C:=fun b o e=>by rw [hC];exact Ou (Heap.lt_size e)
 have u:=I'.base;refine I3.call' (s':={s1 with heap:=h''}) (ch:=fp) I'.os ⟨fun b o e n hb hx=>(hs.2 b (ne b o e)).trans (u.keep b o e n hb hx),fun b o e n hb hx=>?_,u.free,fun b o e hx=>?_,u.tups,u.frzs,u.tbls⟩ ?_ I'.bare fun b hb=>?_
 . obtain ⟨sl,q⟩:=u.slot b o e n hb hx;exact ⟨sl,(hs.2 b (ne b o e)).trans q⟩
 . obtain ⟨o',q⟩:=u.there b o e hx;exact ⟨o',(hs.2 b (ne b o e)).trans q⟩
 . have hfree:H' C=none:=I'.free;intro b ob e;refine (I'.hok b ob e).stay (fun c w' hc q=>(hs.2 c ?_).trans q) (fun _ q=>q) fun _ _ q=>q;rintro rfl;rcases hc with rfl|hc
   . rw [hfree] at e;cases e
   . rw [hfree] at hc;cases hc
 . obtain ⟨_,f1,_,f3,f4,f5⟩:=f b hb;exact ⟨f3,f1,f4,f5⟩
theorem Zks{pins:List (Addr×Obj)}{Z:St}{H3:Hp}{s3 s4:Shared}{C Dd it:Addr}{fp:List Addr}{tn:Nat->Heap->Prop}{J:It}{W:Nat->Nat->List V->Hp->Prop}{Q:VK}{m0:Nat}{post:Result->Shared->Prop}
   (hb:∀ (C:Addr) (s3:Shared) (H3:Hp) (fp:List Addr),PG (Zq X NC scope C s3 H3 fp) tg g/\PIf (Zq X NC scope C s3 H3 fp) ifs tc/\PE (Zq X NC scope C s3 H3 fp) elt te)
   (hk:ZiQ k g) (hjk:∀ j,j<k->js[j]? = some none) (hC:C=s3.heap.objs.size) (f3:∀ b∈fp,ZcC X pins H3 b) (fpl:∀ b∈fp,∃ o,s3.heap.get? b=some o) (I4:Inv (Zq X NC scope C s3 H3 fp) [] (capt js Z) H3 s4) (T:Turn X.prog X.w X.K tg J fp it tn) (st4:tn 0 s4.heap) (hD0:H3 Dd=some (.lst [])) (w0:W 0 m0 [] H3)
   (turn:∀ i m ys H,W i m ys H->H Dd=some (.lst ys)->(J.stop i H/\Q (.ref Dd) H)\/(J.go i H/\ys.length<sizeLine/\∀ x H',J.yld i H x H'->g x (capt js Z) H' fun σ2 H2=>tc σ2 H2 fun b H3 =>
     if b=true then te σ2 H3 fun y H4=>H4 Dd=some (.lst ys)/\∃ m',m'<m/\W (i+1) m' (ys++[y]) (upd H4 Dd (.lst (ys++[y]))) else H3 Dd=some (.lst ys)/\∃ m',m'<m/\W (i+1) m' ys H3))
   (stp:∀ s6 H5,Inv (Zq X NC scope C s3 H3 fp) [] (capt js Z) H5 s6->Q (.ref Dd) H5->post (.ok .next) s6) :
   codeAny (model X.prog X.w) X.A (.compLoop (.ListComp elt [⟨tg,iter,ifs,0⟩] scope pos) 0 (.ref it) (.ref Dd) (compEnvC scope (ZdM X.env scope.names []) C X.env)) post s4:=by
 have stat:∀ {H':Hp},(∀ b∈fp,H' b=none)->∀ b∈fp,ZcC (Zq X NC scope C s3 H3 fp) [] H' b:=fun hn b hb =>
   ⟨hn b hb,(by rw [hC];exact Ou (let ⟨o,e⟩:=fpl b hb;Heap.lt_size e)),fun hm=>I4.ok.exfs b hb hm,.inl hb,fun x c e=>(I4.ok.exf b hb).2 x c e,fun p hp=>absurd (show p∈([]:List (Addr×Obj)) from hp) (by simp)⟩
 refine Zhr (fun n s'=>∃ i ys H',Inv (Zq X NC scope C s3 H3 fp) [] (capt js Z) H' s'/\tn i s'.heap/\(∀ b∈fp,H' b=none)/\H' Dd=some (.lst ys)/\W i n ys H') ?_ m0
   ⟨0,[],_,I4,st4,fun b hb=>(f3 b hb).1,hD0,w0⟩
 rintro n s5 ⟨i,ys,H5,I5,st5,fr5,hD5,w5⟩;rcases turn i n ys H5 w5 hD5 with ⟨stop,qn⟩|⟨go,hlen,step⟩
 . refine wpAny_mono (T.done (Zq X NC scope C s3 H3 fp) rfl rfl rfl rfl i [] s5 (capt js Z) H5 (fun _ _=>False) I5 (stat fr5) st5 stop) (fun r s6 ⟨hr,I6⟩=>?_) fun _ _ z=>z.elim;subst hr;exact stp s6 H5 I6 qn
 . refine wpAny_mono (T.item (Zq X NC scope C s3 H3 fp) rfl rfl rfl rfl i [] s5 (capt js Z) H5 (fun _ _=>False) I5 (stat fr5) st5 go) (fun r s6 ⟨u,hr,h6⟩=>?_) fun _ _ z=>z.elim;subst hr;refine wpAny_mono h6 (fun _ s7 ⟨x,H7,I7,r7,y7,st7,fr7⟩=>?_) fun _ _ z=>z.elim;have I7':=I7.pinned (stat fr7) (T.obj _ _ st7);obtain ⟨pg,pif,pe⟩:=hb C s3 H3 fp;refine wpAny_mono (pg _ s7 (capt js Z) H7 x u _ I7' r7 (hk _ _ _ _ (step x H7 y7))) (fun _ s8 ⟨σ8,H8,I8,q8,l8,k8⟩=>?_) fun _ _ z=>z.elim;have back:∀ {H9:Hp}{s9:Shared},Inv (Zq X NC scope C s3 H3 fp) ([]++ZeG fp s7.heap) σ8 H9 s9 ->
       Inv (Zq X NC scope C s3 H3 fp) [] (capt js Z) H9 s9/\tn (i+1) s9.heap/\∀ b∈fp,H9 b=none:=fun {H9 s9} I9=>by
     refine ⟨(I9.unpinned).weak l8.symm fun j v e=>?_,T.keep _ _ _ st7 fun b hb o e=>(I9.pin (b,o) (Ov _ (Ov _ (Zbz hb e)))).1,fun b hb=>?_⟩
     . by_cases hj:j<k
       . unfold capt at e;rw [On,hjk j hj] at e;cases e
       . rw [k8 j (Nat.le_of_not_lt hj)];exact e
     . obtain ⟨o,e,d⟩:=T.obj _ _ st7 b hb;exact (I9.pin (b,o) (Ov _ (Ov _ (Zbz hb e)))).2.1
   refine wpAny_mono (pif _ s8 σ8 H8 _ I8 q8) (fun ok s9 ⟨H9,I9,q9⟩=>?_) fun _ _ z=>z.elim;cases ok with
   | false =>
     rw [if_neg Ow] at q9 ⊢;obtain ⟨hD9,m',hm,w9⟩:=q9;obtain ⟨b1,b2,b3⟩:=back I9;exact ⟨m',hm,i+1,ys,H9,b1,b2,b3,hD9,w9⟩
   | true =>
     rw [if_pos rfl] at q9 ⊢;refine wpAny_mono (pe _ s9 σ8 H9 _ I9 q9) (fun y s10 ⟨v,H10,I10,r10,hD10,m',hm,w10⟩=>?_) fun _ _ z=>z.elim;refine wpAny_mono (ZfT (X:=Zq X NC scope C s3 H3 fp) _ s10 σ8 H10 (.ref Dd) [v] (.ref Dd) [y]
       (fun _ H11=>H11=upd H10 Dd (.lst (ys++[v]))) I10 rfl (.cons r10 .nil) ⟨_,ys,v,rfl,rfl,hD10,hlen,rfl⟩) (fun _ s11 ⟨_,H11,I11,_,e11⟩=>?_) fun _ _ z=>z.elim
     subst e11;obtain ⟨b1,b2,b3⟩:=back I11;exact ⟨m',hm,i+1,ys++[v],_,b1,b2,b3,Zg,w10⟩
theorem Zhq{U:Option (Value->Sem Unit)}{Q0:Value->Shared->Prop}{Q:VK}{pins:List (Addr×Obj)}{Z:St}{H:Hp}{s:Shared}(S_:CompSc NC X.N js sc scope)(hsc:X.env.scope=sc)(hc:X.calm=true)(hi:PI X tg iter wi)
   (hb:∀ (C:Addr) (s3:Shared) (H3:Hp) (fp:List Addr),PG (Zq X NC scope C s3 H3 fp) tg g/\PIf (Zq X NC scope C s3 H3 fp) ifs tc/\PE (Zq X NC scope C s3 H3 fp) elt te)
   (hk:ZiQ k g) (hjk:∀ j,j<k->js[j]? = some none) (hs:∀ x,foldedSetIterable iter X.env x=pure x) (I:Inv X pins Z H s) (h:ZkL wi js g tc te Z H Q)
   (stp:∀ C Dd (s3 s6:Shared) H3 H5 fp,C=s3.heap.objs.size->Inv X pins Z H3 s3->(∀ b∈fp,ZcC X pins H3 b)->Inv (Zq X NC scope C s3 H3 fp) [] (capt js Z) H5 s6->Q (.ref Dd) H5->compPost (model X.prog X.w) X.A X.xe U Q0 (.ref Dd) C (.ok .next) s6) :
   wpAny (model X.prog X.w) X.A (comprehension (.ListComp elt [⟨tg,iter,ifs,0⟩] scope pos) scope X.env posn (newList []) false (eval iter X.env) U) Q0 X.xe s:=by
 have hcells:∀ y∈scope.names,y.2=.free->∃ c,X.env.cells.lookup y.1=some c:=fun y hy hf=>I.ok.has y.1 (.inl (show X.env.scope.names.lookup y.1=some .cell by rw [hsc];exact S_.free y hy hf));refine wpAny_comprehension_free rfl hs (Zfz hcells) S_.kind S_.locs (thn (hi pins s Z H _ I h) fun xv s1 h1=>thn h1 fun itv s2 h2=>?_);obtain ⟨it,fp,tn,J,H2,e,I2,T,st2,f2,rest⟩:=h2;subst e;have hD:H2 s2.heap.objs.size=none:=I2.hok.fresh (Oq _);obtain ⟨W,⟨m0,w0⟩,turn⟩:=rest s2.heap.objs.size hD;refine wpAny_newObj_type (wpAny_newFunctionEnv S_.nocell (by intro y hy;simp at hy) (fun h4 hns hsb=>?_) S_.kind);have I3:Inv X pins Z (upd H2 s2.heap.objs.size (.lst [])) {s2 with heap:=s2.heap.push {cls:=.type "list",dict:=none,data:=.seq ([]:List Value).toArray}}:=I2.lnew (t':=s2.toks) (ys:=[]) (its:=[]) .nil (Nat.zero_le _);dsimp only at hns hsb ⊢;generalize hs3:({s2 with heap:=s2.heap.push {cls:=.type "list",dict:=none,data:=.seq ([]:List Value).toArray}}:Shared)=s3 at I3;have eh:s2.heap.push {cls:=.type "list",dict:=none,data:=.seq ([]:List Value).toArray}=s3.heap:=by rw [<- hs3]
 have eD:s2.heap.objs.size<s3.heap.objs.size:=by rw [<- eh,Heap.size_push];exact OH _
 rw [eh] at hns hsb;have keep:∀ b o,s3.heap.get? b=some o->h4.get? b=some o:=fun b o e=>(hsb.2 b (Ou (Heap.lt_size e))).trans (Od _ e);have fpl:∀ b∈fp,∃ o,s3.heap.get? b=some o:=fun b hb=>by
   obtain ⟨o,e,_⟩:=T.obj 0 _ st2 b hb;exact ⟨o,by rw [<- eh];exact Od _ e⟩
 have neD:∀ b∈fp,b≠s2.heap.objs.size:=fun b hb=>by
   obtain ⟨o,e,_⟩:=T.obj 0 _ st2 b hb;exact Ou (Heap.lt_size e)
 have f3:∀ b∈fp,ZcC X pins (upd H2 s2.heap.objs.size (.lst [])) b:=fun b hb=>⟨by rw [Zm (neD b hb)];exact (f2 b hb).1,(f2 b hb).2⟩
 have I4:=ZlP (tk:=s2.toks+([]:List (Str×Value)).length) S_ hsc hc I3 f3 fpl rfl hns keep;have st4:tn 0 h4:=T.keep 0 _ _ st2 fun b hb o e=>keep b o (by rw [<- eh];exact Od _ e);have eC:(s2.heap.push {cls:=.type "list",dict:=none,data:=.seq ([]:List Value).toArray}).objs.size=s3.heap.objs.size:=by rw [eh]
 have loop:∀ s4:Shared,s4={s3 with heap:=h4,toks:=s2.toks+([]:List (Str×Value)).length} ->
     codeAny (model X.prog X.w) X.A (.compLoop (.ListComp elt [⟨tg,iter,ifs,0⟩] scope pos) 0 (.ref it) (.ref s2.heap.objs.size) (compEnvC scope (ZdM X.env scope.names []) s3.heap.objs.size X.env))
       (compPost (model X.prog X.w) X.A X.xe U Q0 (.ref s2.heap.objs.size) s3.heap.objs.size) s4:=by
   rintro s4 rfl;exact Zks hb hk hjk rfl f3 fpl I4 T st4 Zg w0 turn fun s6 H5 I6 qn=>stp _ _ s3 s6 _ H5 fp rfl I3 f3 I6 qn
 have e4:({s2 with heap:=h4,toks:=s2.toks+([]:List (Str×Value)).length}:Shared)={s3 with heap:=h4,toks:=s2.toks+([]:List (Str×Value)).length}:=by rw [<- hs3]
 rw [eC];exact codeAny_compStart_list (loop _ e4) (T.self X.A 0 _ _ _ st4 (loop _ e4))
theorem Zm9(S_:CompSc NC X.N js sc scope)(hsc:X.env.scope=sc)(hc:X.calm=true)(hi:PI X tg iter wi)
   (hb:∀ (C:Addr) (s3:Shared) (H3:Hp) (fp:List Addr),PG (Zq X NC scope C s3 H3 fp) tg g/\PIf (Zq X NC scope C s3 H3 fp) ifs tc/\PE (Zq X NC scope C s3 H3 fp) elt te)
   (hk:ZiQ k g) (hjk:∀ j,j<k->js[j]? = some none) (hs:∀ x,foldedSetIterable iter X.env x=pure x:=by intro _;rfl) :
   PE X (.ListComp elt [⟨tg,iter,ifs,0⟩] scope pos) (ZkL wi js g tc te):=fun pins s Z H Q I h=>Zhq S_ hsc hc hi hb hk hjk hs I h fun C Dd s3 s6 H3 H5 fp hC I3 f3 I6 qn=>by
     obtain ⟨m,hm,_⟩:=I6.loc;exact ⟨m,hm,fun h' hs'=>⟨.ref Dd,H5,I3.comp_out f3 hC I6 hs',rfl,qn⟩⟩
end
end L2
end
section
namespace L2
open PySem PySem.Spec PyProof.Rows
section
variable {X:Cx}
noncomputable def TyN(K:PySem.W.Frag)(x:V)(H:Hp)(t:String):Prop:=match x with
 | .int _=>t = "int"
 | .str _=>t = "str"
 | .bl _=>t = "bool"
 | .non=>t = "NoneType"
 | .ref p=>(t = "list" /\ ∃ xs,SqL K H p xs)\/(t = "tuple" /\ ∃ xs,SqT K H p xs)
 | _=>False
theorem Zme:Zae X (.builtin "isinstance") (fun xs H Q=>∃ x t T b,xs=[x,.ty T]/\TyN X.K x H t/\PySem.W.kitOne X.K (.type t) (.type T)=some b/\Q (.bl b) H):=by
 intro pins s Z H xs us Q I r h;obtain ⟨x,t,T,b,rfl,ty,e,q⟩:=h;obtain ⟨u,w',rfl,rx,rT⟩:=vals2 r;obtain rfl:w'=Value.type T:=rT;have fin:∀ tk,EP X pins Z Q (.bool b) {s with toks:=tk}:=fun tk=>⟨.bl b,H,I.tok tk,rfl,q⟩
 cases x with
 | int i =>
   obtain ⟨tk,rfl⟩:=rx;obtain rfl:t = "int" := ty;exact PySem.W.kia_one PySem.W.kitx_int I.kIn trivial e (by intro z;cases z) fin
 | str i =>
   obtain ⟨tk,rfl⟩:=rx;obtain rfl:t = "str" := ty;exact PySem.W.kia_one PySem.W.kitx_str I.kIn trivial e (by intro z;cases z) fin
 | bl i =>
   obtain rfl:u=Value.bool i:=rx;obtain rfl:t = "bool" := ty;exact PySem.W.kia_one PySem.W.kitx_bool I.kIn trivial e (by intro z;cases z) fin
 | non =>
   obtain rfl:u=Value.none:=rx;obtain rfl:t = "NoneType" := ty;exact PySem.W.kia_one PySem.W.kitx_none I.kIn trivial e (by intro z;cases z) fin
 | ref p =>
   obtain rfl:u=Value.ref p:=rx;rcases ty with ⟨rfl,xs,hx⟩|⟨rfl,xs,hx⟩
   . obtain ⟨its,_,pl,_⟩:=I.list hx;exact PySem.W.kia_one PySem.W.kitx_list I.kIn pl.isList.typeIs e (by intro z;cases z) fin
   . obtain ⟨its,_,pl,_⟩:=I.tuple hx;exact PySem.W.kia_one PySem.W.kitx_tuple I.kIn pl.typeIs e (by intro z;cases z) fin
 | _=>exact (show False from ty).elim
theorem Zki{K:PySem.W.Frag}(h:PySem.W.kitOne [] (.type t) (.type T)=some b):PySem.W.kitOne K (.type t) (.type T)=some b:=h
theorem range_all(bs:List Bool):(List.range bs.length).all (fun i=>bs.getD i false)=bs.all id:=by
 rw [Bool.eq_iff_iff,OC,OC];constructor
 . intro h x hx;obtain ⟨i,hi,e⟩:=List.getElem_of_mem hx;have:=h i (List.mem_range.mpr hi);rw [List.getD_eq_getElem?_getD,Og hi] at this;subst e;exact this
 . intro h i hi;have hi':=List.mem_range.mp hi;rw [List.getD_eq_getElem?_getD,Og hi'];exact h _ (List.getElem_mem hi')
noncomputable def ZtR:V->Option Int->Option Int->Hp->VK->Prop:=fun x lo hi H Q=>∃ y,x=.str y/\y.length<=sizeLine/\Q (.str (StrLaws.sliceText y lo hi)) H
theorem Zpd:SlR X ZtR:=by
 intro pins s Z H x v vl vu lo hi sl Q I rx hs pl pu h;obtain ⟨y,rfl,hz,q⟩:=h;obtain ⟨t,rfl⟩:=rx;refine ⟨"str",_,F.slot_str_getitem.lookup,typeIs_str _ _ _,?_⟩;have go:∀ (l u:Option (Int×Tok)),vl=partValue l->vu=partValue u->lo=l.map (·.1)->hi=u.map (·.1)->wpAny (model X.prog X.w) X.A (getItem (.str y t) (.ref sl)) (EP X pins Z Q) X.xe s:=by
   rintro l u rfl rfl rfl rfl;refine wpAny_getItem_str_slice (l:=l) (u:=u) (st:=none) hs rfl ?_;refine post_val_or_str ⟨OE (Txt.slice_le y _ _) hz,fun t' k=>⟨.str _,H,I.tok k,⟨t',rfl⟩,q⟩⟩
 cases pl with
 | none =>
   cases pu with
   | none=>exact go none none rfl rfl rfl rfl
   | int j tj=>exact go none (some (j,tj)) rfl rfl rfl rfl
 | int i ti =>
   cases pu with
   | none=>exact go (some (i,ti)) none rfl rfl rfl rfl
   | int j tj=>exact go (some (i,ti)) (some (j,tj)) rfl rfl rfl rfl
end
end L2
end
section
namespace L2
open PySem PySem.Spec PyProof.Rows
theorem ZH.there(x:ZH P w H h a o):∃ ob,h.get? a=some ob:=by
 cases o with
 | lst xs=>obtain ⟨_,_,_,_,e⟩:=x;exact ⟨_,e⟩
 | tup xs=>obtain ⟨_,_,_,ob,e,_⟩:=x;exact ⟨_,e⟩
 | dK kvs=>obtain ⟨_,_,_,_,o,_,_,e,_⟩:=x;exact ⟨_,e⟩
 | dT kvs=>obtain ⟨_,_,o,_,_,e,_⟩:=x;exact ⟨_,e⟩
 | set S_ n=>obtain ⟨o,_,_,_,e,_⟩:=x;exact ⟨_,e⟩
 | ins C dx fs=>obtain ⟨_,_,_,e,_⟩:=x;exact ⟨_,e⟩
 | own y=>obtain ⟨_,e⟩:=x;exact ⟨_,e⟩
 | xd fs=>obtain ⟨_,⟨_,_,_,e,_⟩,_⟩:=x;exact ⟨_,e⟩
 | rng lo hi=>obtain ⟨_,_,_,e⟩:=x;exact ⟨_,e⟩
 | frz ob u=>obtain ⟨e,_⟩:=x;exact ⟨_,e⟩
 | tbl ps=>exact ⟨_,(show h.get? a=some _ from x)⟩
 | met f y=>exact ⟨_,(show h.get? a=some _ from x)⟩
 | ext φ=>obtain ⟨_,⟨_,e⟩,_⟩:=x;exact ⟨_,e⟩
noncomputable def Kept(fs:List Addr)(H':Hp)(h h1 B_:Heap):Prop:=∀ b o,h1.get? b=some o->(H' b≠none\/((∃ o',h.get? b=some o')/\b ∉ fs))->B_.get? b=some o
noncomputable def CXF(P:Program)(w:World):CXT:=fun outer H s E e s' =>
 ∃ (a:Addr) (cls a0:Value) (H':Hp) (B_:Heap),e=.ref a/\s'.os=s.os/\AllBare s'.gens/\Un (frs outer) [] H H' s.heap s'.heap/\HOk P w H' s'.heap /\
   Heap.FlyingW B_ outer a cls a0 s'.heap/\Kept (frs outer) H' s.heap s'.heap B_/\H' a=none/\E cls none H'
theorem ZeV(un:Un fs [] H H' h h1)(hok:HOk P w H' h1)(kb:Kept fs H' h h1 B_)(stay:B_.StaysIn h2)(up:h1.UpToSlots h2)
   (hf:∀ b∈fs,∃ o,h1.get? b=some o/\∀ vs,o.data≠.fields vs):Un fs [] H H' h h2/\HOk P w H' h2/\Kept fs H' h h2 B_:=by
 have tr:∀ b u,H' b=some u->∃ o,h1.get? b=some o/\h2.get? b=some o/\B_.get? b=some o:=fun b u e=>by
   obtain ⟨o,q⟩:=(hok b u e).there;have z:=kb b o q (.inl (by rw [e];simp));exact ⟨o,q,stay _ _ z,z⟩
 have old:∀ b o,h.get? b=some o->b ∉ fs->∃ o1,h1.get? b=some o1/\h2.get? b=some o1/\B_.get? b=some o1:=fun b o e hb=>by
   obtain ⟨o1,q⟩:=un.there b o e (by simp);have z:=kb b o1 q (.inr ⟨⟨o,e⟩,hb⟩);exact ⟨o1,q,stay _ _ z,z⟩
 refine ⟨⟨fun b o e n hb _=>?_,fun b o e n hb _=>?_,fun b o e n _=>un.free b o e n (by simp),fun b o e _=>?_,un.tups,un.frzs,un.tbls⟩,fun b u e=>?_,fun b o e hb=>?_⟩
 . obtain ⟨o1,q1,q2,_⟩:=old b o e hb;have z:=un.keep b o e n hb (by simp);rw [q1] at z;cases z;exact q2
 . obtain ⟨sl,z⟩:=un.slot b o e n hb (by simp);obtain ⟨o',z',nf⟩:=hf b hb;rw [z] at z';cases z';obtain ⟨sl',q⟩:=up b _ z nf;exact ⟨sl',q⟩
 . by_cases hb:b∈fs
   . obtain ⟨o',z',nf⟩:=hf b hb;obtain ⟨sl',q⟩:=up b _ z' nf;exact ⟨_,q⟩
   . obtain ⟨o1,_,q2,_⟩:=old b o e hb;exact ⟨_,q2⟩
 . refine (hok b u e).stay (fun c v hc q=>?_) (fun _ q=>q) fun _ _ q=>q;have hc':∃ u',H' c=some u':=by
     rcases hc with rfl|hc
     . exact ⟨u,e⟩
     . exact ⟨_,hc⟩
   obtain ⟨u',e'⟩:=hc';obtain ⟨o,q1,q2,_⟩:=tr c u' e';rw [q] at q1;cases q1;exact q2
 . rcases hb with hb|⟨⟨o',e'⟩,hb⟩
   . cases q:H' b with
     | none=>exact absurd q hb
     | some u =>
       obtain ⟨o1,q1,q2,q3⟩:=tr b u q;rw [e] at q2;cases q2;exact q3
   . obtain ⟨o1,q1,q2,q3⟩:=old b o' e' hb;rw [e] at q2;cases q2;exact q3
noncomputable def ZjS(X:Cx)(E:XK):Prop:=∀ (pins:List (Addr×Obj)) (Z:St) (H:Hp) (s:Shared) (h':Heap) (e:Addr) (cls:Value) (vs:List Value),Inv X pins Z H s->Heap.MadeExcOf s.heap h' e cls vs->E cls none H->X.xe (.ref e) {s with heap:=h'}
section
variable {P:Program}{w:World}{K:PySem.W.Frag}{mg:Str->Option Value}{base:Heap}{N:List Str}{qual:Str}{scope:Scope}{f:Addr}{cd:Value}{A:Around}{outer:List Env}{s0:Shared}{H0:Hp}{E:XK}
theorem ZkY:ZjS (ZiC (CXF P w) P w K mg base N qual scope f cd A outer s0 H0 E) E:=by
 intro pins Z H s h' e cls vs I hx hE;have hfr:(A.deeper (envOfC qual scope s0.heap.objs.size f cd)).frames=some (envOfC qual scope s0.heap.objs.size f cd::outer):=I.ok.frames;have hin:∀ env∈(envOfC qual scope s0.heap.objs.size f cd::outer),∀ b,env.frame=some b->b∈(envOfC qual scope s0.heap.objs.size f cd::outer).filterMap (·.frame):=fun env he b hb=>List.mem_filterMap.mpr ⟨env,he,hb⟩;have hst:s.heap.FunFrames base (envOfC qual scope s0.heap.objs.size f cd::outer):=I.stack;show wpAny (model P w) (A.deeper (envOfC qual scope s0.heap.objs.size f cd)) (leaving (envOfC qual scope s0.heap.objs.size f cd) (.ref e)) _ _ {s with heap:=h'};refine wpAny_leaves_madeW (s:={s with heap:=h'}) (base:=PySem.W.hideAll s.heap (frs (envOfC qual scope s0.heap.objs.size f cd::outer))) hfr rfl (fun b o q=>PySem.W.of_hideAll _ q) (PySem.W.funFrames_hide hst hin) hx fun h'' t x1 x2 x3 x4=>?_;have un:Un (frs outer) [] H0 H s0.heap h':=(I.base:Un (frs outer) [] H0 H s0.heap s.heap).trans (Un.kept hx.keeps);have hok:HOk P w H h':=I.hok.kept hx.keeps;have kb:Kept (frs outer) H s0.heap h' (PySem.W.hideAll s.heap (frs (envOfC qual scope s0.heap.objs.size f cd::outer))):=fun b o e1 hb=>by
   rcases hb with hb|⟨⟨o',e'⟩,hb⟩
   . cases q:H b with
     | none=>exact absurd q hb
     | some u =>
       obtain ⟨o1,q1⟩:=(I.hok b u q).there;have q2:=hx.keeps b o1 q1;rw [e1] at q2;cases q2;exact PySem.W.hideAll_get _ q1 fun hm=>by
         have z:H b=none:=I.stkFree b hm;rw [q] at z;cases z
   . obtain ⟨o1,q1⟩:=(I.base:Un (frs outer) [] H0 H s0.heap s.heap).there b o' e' (show b ∉ ([]:List Addr) from List.not_mem_nil);have q2:=hx.keeps b o1 q1;rw [e1] at q2;cases q2;refine PySem.W.hideAll_get _ q1 fun hm=>?_;have hm':b∈s0.heap.objs.size::frs outer:=I.stkSub b hm;rcases O2.mp hm' with z|z
     . rw [z] at e';exact absurd (Heap.lt_size e') (Nat.lt_irrefl _)
     . exact hb z
 have hfo:∀ b∈frs outer,∃ o,h'.get? b=some o/\∀ vs,o.data≠.fields vs:=fun b hb=>by
   obtain ⟨_,o,q,nf⟩:=I.funs.mem hb;exact ⟨o,hx.keeps _ _ q,nf⟩
 obtain ⟨r1,r2,r3⟩:=ZeV un hok kb x1.1 x4 hfo;refine ⟨e,cls,_,H,_,rfl,I.os,I.bare,r1,r2,x1,r3,?_,hE⟩;cases q:H e with
 | none=>rfl
 | some u =>
   obtain ⟨o1,q1⟩:=(I.hok e u q).there;rw [hx.new] at q1;cases q1
theorem Znc(h:∀ cls H',E1 cls none H'->E cls none H'):Za6 (CXF P w) (ZiC (CXF P w) P w K mg base N qual scope f cd A outer s0 H0 E) E1:=by
 intro pins Z H s e s' I hx;obtain ⟨a,cls,a0,H',B_,rfl,os,bare,un,hok,fl,kb,ha,hE⟩:=hx;have I':=I.call' (ch:=[]) os un hok bare (fun b z=>absurd z (by simp));have hfr:(A.deeper (envOfC qual scope s0.heap.objs.size f cd)).frames=some (envOfC qual scope s0.heap.objs.size f cd::outer):=I.ok.frames;show wpAny (model P w) (A.deeper (envOfC qual scope s0.heap.objs.size f cd)) (leaving (envOfC qual scope s0.heap.objs.size f cd) (.ref a)) _ _ s';refine wpAny_leaves_onW hfr rfl fl fun h'' x1 x4=>?_;have kb':Kept (frs outer) H' s0.heap s'.heap B_:=fun b o e1 hb=>by
   refine kb b o e1 ?_;rcases hb with hb|⟨⟨o',e'⟩,hb⟩
   . exact .inl hb
   . obtain ⟨o1,q1⟩:=(I.base:Un (frs outer) [] H0 H s0.heap s.heap).there b o' e' (show b ∉ ([]:List Addr) from List.not_mem_nil);refine .inr ⟨⟨o1,q1⟩,fun hm=>?_⟩;have hm':b∈s0.heap.objs.size::frs outer:=I.stkSub b hm;rcases O2.mp hm' with z|z
     . rw [z] at e';exact absurd (Heap.lt_size e') (Nat.lt_irrefl _)
     . exact hb z
 have hfo:∀ b∈frs outer,∃ o,s'.heap.get? b=some o/\∀ vs,o.data≠.fields vs:=fun b hb=>by
   obtain ⟨_,o,q,nf⟩:=I'.funs.mem hb;exact ⟨o,q,nf⟩
 obtain ⟨r1,r2,r3⟩:=ZeV (I'.base:Un (frs outer) [] H0 H' s0.heap s'.heap) hok kb' x1.1 x4 hfo;exact ⟨a,cls,a0,H',B_,rfl,I'.os,bare,r1,r2,x1,r3,ha,h _ _ hE⟩
end
theorem Zj6:Za6 (CXF P w) X E0:=fun _ _ _ _ _ _ _ h=>by
 obtain ⟨_,_,_,_,_,_,_,_,_,_,_,_,_,z⟩:=h;exact z.elim
end L2
end
section
namespace L2
open PySem PySem.Spec PyProof.Rows
structure ExcN(K:PySem.W.Frag)(C2:Addr):Prop where
 ty:PySem.W.typeIn K (.ref C2)=some (.type "type")
 cls:(PySem.W.clsIn K C2).isSome=true
 exc:PySem.W.subIn K (.ref C2) (.type "BaseException")=some true
end L2
end
section
namespace L2
open PySem PySem.Spec PyProof.Rows
noncomputable def Def(P:Program)(w:World)(K:PySem.W.Frag)(mg:Str->Option Value)(base:Heap)(k:Nat)(x:Str)(ps:List Str)(sp:Sp):Prop :=
 ∃ f fd,mg x=some (.ref f)/\PySem.W.keepIn K (.ref f)=true/\Binds K fd ps []/\FnOk P w K mg base (CXF P w) k f fd ps sp
section
variable {X:Cx}{k:Nat}{x:Str}{ps:List Str}{sp:Sp}{E:XK}{e:Expr}{es:List Expr}{t:TA}{p pos:Pos}
noncomputable def ZtD(sp:Sp)(E:XK)(t:TA):TE:=fun Z H Q=>t Z H fun vs H1=>sp vs H1 Q E
theorem ZpC(D:Def X.prog X.w X.K X.mg X.base k x ps sp)(hr:Room k X.A)(hg:Gl X x)(hx:Za6 (CXF X.prog X.w) X E)(ha:PA X (e::es) t)
   (hdb:(x==("__debug__" : Str))=false:=by decide) (he:starEach (e::es) X.env=(false,eval e X.env)::starEach es X.env:=by rfl) (hpl:(backTo pos (starEach es X.env)).any (·.1)=false:=by rfl) :
   PE X (.Call (.Name x p) (e::es) [] pos) (ZtD sp E t):=by
 obtain ⟨f,fd,h1,h2,h3,h4⟩:=D;intro pins s Z H Q I h;refine Zna h4 hr hg h1 h2 h3 .nil hx ha hdb he hpl pins s Z H Q I ?_;have z:t Z H fun vs H1=>sp vs H1 Q E:=h;show t Z H fun vs H1=>sp (vs++[]) H1 Q E;simpa only [List.append_nil] using z
end
end L2
end
section
namespace L2
open PySem PySem.Spec PyProof.Rows
section
variable {X:Cx}{pins:List (Addr×Obj)}{Z:St}{H:Hp}{s:Shared}{h':Heap}
theorem ZnO{ch:List Addr}(hf:∀ b∈ch,ZcC X pins H b):∀ b∈ch,(b∈X.ex\/X.s₀.heap.objs.size<=b)/\b≠X.env.locals/\(∀ x c,X.env.cells.lookup x=some c->c≠b)/\∀ p∈X.pn++pins,p.1≠b:=fun b hb=>by
 obtain ⟨_,f1,_,f3,f4,f5⟩:=hf b hb;exact ⟨f3,f1,f4,f5⟩
theorem Inv.turnL{t':Nat}{ch:List Addr}(I:Inv X pins Z H s)(hf:∀ b∈ch,ZcC X pins H b)(k:∀ b o,b ∉ ch->s.heap.get? b=some o->h'.get? b=some o):Inv X pins Z H {s with heap:=h',toks:=t'}:=by
 have nit:∀ b u,H b=some u->b ∉ ch:=fun b u e z=>by rw [(hf b z).1] at e;cases e
 refine I.step (g':=s.gens) (d':=s.drawn) (ch:=ch) (ZnO hf) (fun b o _ _ hc e _=>k b o hc e) (fun b o _ _ hc e _=>⟨o.slots,k b o hc e⟩) (fun _ _ _ _ n=>n)
   (fun b o hc e=>⟨o,k b o hc e⟩) (fun _ _ e=>e) (fun _ _ _ e=>e) (fun b ps e=>⟨#[],by rw [e];simp⟩) (fun m hm=>?_) (fun b u e=>?_) I.bare
 . obtain ⟨o,es,ep,ho,r⟩:=hm;exact ⟨o,es,ep,k _ o (fun z=>(hf _ z).2.1 rfl) ho,r⟩
 . refine (I.hok b u e).stay (fun c v hc q=>k c v ?_ q) (fun _ q=>q) fun _ _ q=>q;rcases hc with z|z
   . rw [z];exact nit b u e
   . exact nit c _ z
end
end L2
end
section
namespace L2
open PySem PySem.Spec PyProof.Rows PySem.Builtin PySem.Builtin.ObjectAttr PySem.Builtin.Getset_descriptor
structure ExcA(K:PySem.W.Frag)(D:Addr):Prop where
 ga:PySem.W.findIn K (.ref D) "__getattribute__" = some (some (.builtin "BaseException.__getattribute__"))
 ga2:PySem.W.findIn K (.ref D) "__getattr__" = some none
 cl:PySem.W.findIn K (.ref D) "__class__" = some (some (.builtin "object.__class__"))
 get:PySem.W.specialIn K (.builtin "object.__class__") "__get__" = some (some (.builtin "getset_descriptor.__get__"))
 takes:PySem.W.takesIn K (.builtin "object.__class__")=some true
 obj:PySem.W.mroIn K D (.type "object")=some true
 base:PySem.W.subIn K (.ref D) (.type "BaseException")=some true
 isc:(PySem.W.clsIn K D).isSome=true
end L2
end
section
namespace L2
open PySem PySem.Spec PyProof.Rows
theorem Zn4(h:PSs X b t)(r:t D Z H):∃ t,PSs X b t/\t D Z H:=⟨t,h,r⟩
theorem ZeB:RelV (.str x) (.str x t):=⟨t,rfl⟩
theorem ZeC:RelV (.int x) (.int x t):=⟨t,rfl⟩
theorem Zaf:RelV (.ref a) (.ref a):=rfl
end L2
end
section
namespace L2
open PySem PySem.Spec PyProof.Rows
noncomputable def DkK(P:Program)(w:World)(K:PySem.W.Frag)(a:Addr)(kvs:List (Key×V)):Prop :=
 ∃ (o:Obj) (es:Array DictEntry) (ep:Nat) (vs:List (Key×Value)),K.lookup a=some o/\o.ExactDict/\o.data=.dict es ep/\KeysOf (ZF P w) es/\Pairs (ZF P w) es.toList vs/\(vs.map (·.1)).Nodup/\KV kvs vs/\kvs.length<=sizeLine/\(a==sysModules)=false
noncomputable def Dk(P:Program)(w:World)(K:PySem.W.Frag)(H:Hp)(a:Addr)(kvs:List (Key×V)):Prop:=Rd H a (.dK kvs)\/DkK P w K a kvs
section
variable {X:Cx}{pins:List (Addr×Obj)}{Z:St}{H:Hp}{s:Shared}{a:Addr}
theorem Inv.dk(I:Inv X pins Z H s)(h:Dk X.prog X.w X.K H a kvs):kvs.length<=sizeLine/\(a==sysModules)=false/\∃ vs,KV kvs vs/\s.heap.DictOf (ZF X.prog X.w) a vs:=by
 rcases h with h|⟨o,es,ep,vs,lk,ex,da,ks,ps,nd,kv,z,hm⟩
 . exact ZoI I.hok h
 . exact ⟨z,hm,vs,kv,o,es,ep,I.kIn a o lk,ex,da,ks,ps,nd⟩
noncomputable def ZrL(P:Program)(w:World)(K:PySem.W.Frag)(neg:Bool):R2:=fun x y H Q=>∃ a kvs k,y=.ref a/\x=kV k/\Dk P w K H a kvs/\Q (.bl (if neg then !(ZaU kvs k).isSome else (ZaU kvs k).isSome)) H
theorem ZpK:OpR X (compareOp .In) (ZrL X.prog X.w X.K false):=by
 intro pins s Z H x y v u Q I rx ry h;obtain ⟨a,kvs,k,rfl,rfl,hd,q⟩:=h;cases ry;obtain ⟨z,hm,vs,rel,dd⟩:=I.dk hd;refine wpAny_in_of (Zhc rx) hm dd.mapOf ?_;rw [<- (rel.val k).isSome_eq];exact ⟨.bl _,H,I.tok _,rfl,q⟩
theorem Zj8:OpR X (compareOp .NotIn) (ZrL X.prog X.w X.K true):=by
 intro pins s Z H x y v u Q I rx ry h;obtain ⟨a,kvs,k,rfl,rfl,hd,q⟩:=h;cases ry;obtain ⟨z,hm,vs,rel,dd⟩:=I.dk hd;refine wpAny_notIn_of (Zhc rx) hm dd.mapOf ?_;rw [<- (rel.val k).isSome_eq];exact ⟨.bl _,H,I.tok _,rfl,q⟩
noncomputable def ZtY(P:Program)(w:World)(K:PySem.W.Frag):R2:=fun x y H Q=>∃ a kvs k v,x=.ref a/\y=kV k/\Dk P w K H a kvs/\ZaU kvs k=some v/\Q v H
theorem ZnH:IxR X (ZtY X.prog X.w X.K):=by
 intro value slice pins s Z H x y v u Q I rx ry h hs;obtain ⟨a,kvs,k,z,rfl,rfl,hd,hv,q⟩:=h;cases rx;obtain ⟨_,hm,vs,rel,dd⟩:=I.dk hd;obtain ⟨w',hw,rw'⟩:=ZcA.some_of (v:=z) (o:=valueAt vs k) (by rw [<- hv];exact rel.val k);exact subscriptTail_builtinR (x:=w') dd.typeIs PySem.F.slot_dict_getitem.lookup (wpAny_getItem_of (Zhc ry) dd.mapOf hw ⟨rfl,z,H,I.tok _,rw',q⟩) hs
theorem ZsT(I:Inv X pins Z H s)(e:H a=some (.dK kvs))(l:kvs.length<sizeLine)(ry:RelV (kV k) u)(rv:RelV v r)
   (h:∀ s',Inv X pins Z (upd H a (.dK (putK kvs k v))) s'->Q () s'):wpAny (model X.prog X.w) A (setItem (.ref a) u r) Q E s:=by
 obtain ⟨z,hd,vs,rel,dd⟩:=ZoJ I.hok e;have hz:vs.length<=sizeLine:=by rw [<- rel.length];exact z
 have hl:(putK kvs k v).length<=sizeLine:=by have:=ZbZ kvs k v;lia
 refine wpAny_setItem_pairs (hsz:=hz) (Zhc ry) dd fun h' dd' hs=>h _ ?_;have he:∃ q,h'.get? a=some q:=let ⟨q,_,_,hq,_⟩:=dd';⟨q,hq⟩;exact ZjG I (by rw [e];exact True.intro) hs he (Zmb hl hd (rel.put k rv) dd')
noncomputable def ZrA:Zkx:=fun o i v H Q=>∃ a kvs k,o=.ref a/\i=kV k/\H a=some (.dK kvs)/\kvs.length<sizeLine/\Q (upd H a (.dK (putK kvs k v)))
theorem set_dict:Zky X ZrA:=by
 intro pins s Z H o i v ov iv u Q I ro ri rv h;obtain ⟨a,kvs,k,rfl,rfl,e,l,q⟩:=h;cases ro;exact ZsT I e l ri rv fun s' I'=>⟨_,I',q⟩
end
end L2
end
section
set_option tactic.hygienic false
namespace L2
open PySem PySem.Spec PyProof.Rows
section
variable {X:Cx}{elt tg iter:Expr}{ifs:List Expr}{scope sc:Scope}{pos:Pos}{NC:List Str}{js:List (Option Nat)}{k:Nat}{wi:TI}{g:TG}{tc:TT}{te:TE}
theorem Zh2(hN:X.N.Nodup)(hy:X.N[i0]? = some y)(hx:Loc X.env.scope y)(hf:X.fn y=true\/X.env.scope.names.lookup y=some .local)(S_:CompSc NC X.N js sc scope)(hsc:X.env.scope=sc)(hc:X.calm=true)(hi:PI X tg iter wi)
   (hb:∀ (C:Addr) (s3:Shared) (H3:Hp) (fp:List Addr),PG (Zq X NC scope C s3 H3 fp) tg g/\PIf (Zq X NC scope C s3 H3 fp) ifs tc/\PE (Zq X NC scope C s3 H3 fp) elt te)
   (hk:ZiQ k g) (hjk:∀ j,j<k->js[j]? = some none) (hs:∀ x,foldedSetIterable iter X.env x=pure x:=by intro _;rfl) (hsw:swapsWith (.ListComp elt [⟨tg,iter,ifs,0⟩] scope pos) (some (.Name y py)) spos.line X.env=pure true:=by rfl) :
   PS X (.Assign [.Name y py] (.ListComp elt [⟨tg,iter,ifs,0⟩] scope pos) spos) (ZhV (ZkL wi js g tc te) (ZbL i0)):=by
 intro pins s Z H D0 I h;rw [exec_Assign_Name_used _ _ _ _ hsw];refine wpAny_bind (wpAny_standAt (wpAny_bind ?_));show wpAny _ X.A (do let _ <- comprehension (.ListComp elt [⟨tg,iter,ifs,0⟩] scope pos) scope X.env _ (newList []) false (eval iter X.env) (some (assign (.Name y py) X.env))) _ _ s;refine wpAny_bind (wpAny_mono (Zhq (Q:=fun x H1=>ZbL i0 x Z H1 D0.nx) (Q0:=fun _ s'=>SP X pins D0 .next s') S_ hsc hc hi hb hk hjk hs I h fun C Dd s3 s6 H3 H5 fp hC I3 f3 I6 qn=>?_) (fun _ s' hq=>wpAny_pure (wpAny_pure hq)) fun _ _ e=>e);obtain ⟨m,hm,_⟩:=I6.loc;have Io:Inv X pins Z H5 s6:=I3.comp_out (h'':=s6.heap) f3 hC I6 ⟨rfl,fun _ _=>rfl⟩;have fC:ZcC X pins H5 C:=I3.fpOk (Nat.le_of_eq hC.symm) I6.free;show wpAny _ X.A (assign (.Name y py) X.env (.ref Dd)) _ _ _;refine wpAny_assign_Name (ZfN Io hN hy hx (v:=.ref Dd) rfl (fun s8 I8 ⟨a8,sb8,ha8⟩=>?_) hf);have ne8:C≠a8:=fun z=>by
   rcases ha8 with e|e
   . exact fC.2.1 (z.trans e)
   . exact fC.2.2.2.2.1 _ _ e z.symm
 refine ⟨m,hm.sameBut sb8 ne8,fun h' hs'=>?_⟩;exact ⟨_,H5,I8.turnL (t':=s8.toks) (ch:=[C]) (fun b hb=>by rw [Ox.mp hb];exact fC) (fun b o hb e=>(hs'.2 b (fun z=>hb (by rw [z];exact List.mem_singleton_self _))).trans e),qn⟩
end
end L2
end
section
namespace L2
open PySem PySem.Spec PyProof.Rows
mutual
inductive Dp(K:PySem.W.Frag)(H:Hp):V->PyData->Prop
 | non:Dp K H .non .none
 | bl (b:Bool):Dp K H (.bl b) (.bool b)
 | int (i:Int):Dp K H (.int i) (.int i)
 | str (x:Str) (ok:PyData.strOk x=true):Dp K H (.str x) (.str x)
 | lst {a:Addr}{xs:List V}{ds:List PyData}:SqL K H a xs->Dps K H xs ds->Dp K H (.ref a) (.list ds)
 | tup {a:Addr}{xs:List V}{ds:List PyData}:SqT K H a xs->Dps K H xs ds->Dp K H (.ref a) (.tuple ds)
inductive Dps(K:PySem.W.Frag)(H:Hp):List V->List PyData->Prop
 | nil:Dps K H [] []
 | cons {v:V}{vs:List V}{d:PyData}{ds:List PyData}:Dp K H v d->Dps K H vs ds->Dps K H (v::vs) (d::ds)
end
section
variable {K:PySem.W.Frag}{H H':Hp}
mutual
theorem Dp.lay:∀ {v:V}{d:PyData},Dp K H v d->d.canLay0=true
 | _,_,.non=>rfl
 | _,_,.bl b=>rfl
 | _,_,.int i=>rfl
 | _,_,.str x ok=>ok
 | _,_,.lst h r=>Dps.lay r
 | _,_,.tup h r=>Dps.lay r
theorem Dps.lay:∀ {v:List V}{d:List PyData},Dps K H v d->PyData.canLayAll0 d=true
 | _,_,.nil=>rfl
 | _,_,.cons h r=>by rw [PyData.canLayAll0,Dp.lay h,Dps.lay r];rfl
end
end
section
variable {X:Cx}{pins:List (Addr×Obj)}{Z:St}{H:Hp}{s:Shared}
mutual
theorem Inv.reads(I:Inv X pins Z H s):∀ {v:V}{d:PyData}{u:Value},Dp X.K H v d->RelV v u->∃ as,Reads s.heap u d as
 | _,_,_,.non,r=>by cases r;exact ⟨_,.none⟩
 | _,_,_,.bl b,r=>by cases r;exact ⟨_,.bool b⟩
 | _,_,_,.int i,r=>by obtain ⟨t,rfl⟩:=r;exact ⟨_,.int i t⟩
 | _,_,_,.str x ok,r=>by obtain ⟨t,rfl⟩:=r;exact ⟨_,.str x t⟩
 | _,_,_,.lst h rs,r=>by
   cases r;obtain ⟨its,rv,⟨o,n,e,c,_,dd⟩,_⟩:=I.list h;obtain ⟨as,q⟩:=Inv.readsAll I rs rv;exact ⟨_,.list e c dd (by simpa using q)⟩
 | _,_,_,.tup h rs,r=>by
   cases r;obtain ⟨its,rv,⟨o,e,c,n,dd⟩,_⟩:=I.tuple h;obtain ⟨as,q⟩:=Inv.readsAll I rs rv;exact ⟨_,.tuple e c dd (by simpa using q)⟩
theorem Inv.readsAll(I:Inv X pins Z H s):∀ {v:List V}{d:List PyData}{u:List Value},Dps X.K H v d->Zf v u->∃ as,ReadsAll s.heap u d as
 | _,_,_,.nil,r=>by cases r;exact ⟨_,.nil⟩
 | _,_,_,.cons h rs,r=>by
   cases r with
   | cons r1 r2 =>
     obtain ⟨as,q⟩:=Inv.reads I h r1;obtain ⟨bs,q2⟩:=Inv.readsAll I rs r2;exact ⟨_,.cons q q2⟩
end
end
end L2
end
section
set_option tactic.hygienic false
namespace L2
open PySem PySem.Spec PyProof.Rows
namespace Rv
theorem own:Manifest.owners.lookup (String.ofList ['d','e','s','r','e','v','e','r'].reverse)=some Manifest.sig_reversed:=by kernel_rfl
theorem next:Slot "reversed" "__next__" "reversed.__next__" :=
 .of (owner := "reversed") (n := "__next__") (by rw [typeLookup_type,builtinLookup_eq_fast]<;>kernel_rfl) (by decide +kernel) (by decide +kernel) (by decide +kernel) (by first|exact .inl (by decide +kernel)|exact .inr (by decide +kernel)) (by rw [isSubtype_type]<;>kernel_rfl)
theorem ZoH:entryFor table "reversed.__next__" = some Builtin.«reversed.__next__»:=entryFor_of_tree (by kernel_rfl)
theorem ZoT (a:Value):argsOk "reversed.__next__" ⟨[a],[]⟩:=by
 unfold argsOk;rw [signature?_of (id := "reversed.__next__") (n:=['_','_','t','x','e','n','_','_']) (o:=['d','e','s','r','e','v','e','r']) (by kernel_rfl) own];kernel_rfl
theorem iter:Slot "reversed" "__iter__" "reversed.__iter__" :=
 .of (owner := "reversed") (n := "__iter__") (by rw [typeLookup_type,builtinLookup_eq_fast]<;>kernel_rfl) (by decide +kernel) (by decide +kernel) (by decide +kernel) (by first|exact .inl (by decide +kernel)|exact .inr (by decide +kernel)) (by rw [isSubtype_type]<;>kernel_rfl)
theorem Ztb (a:Value):argsOk "reversed.__iter__" ⟨[a],[]⟩:=by
 unfold argsOk;rw [signature?_of (id := "reversed.__iter__") (n:=['_','_','r','e','t','i','_','_']) (o:=['d','e','s','r','e','v','e','r']) (by kernel_rfl) own];kernel_rfl
theorem ZsS:entryFor table "reversed.__iter__" = some Builtin.«dict_keyiterator.__iter__» :=
 entryFor_alias (id' := "dict_keyiterator.__iter__") (by kernel_rfl) (by first|rfl|decide +kernel|(unfold String.splitOn;simp +decide [String.splitOnAux])) (by decide +kernel) (by kernel_rfl)
theorem Zr8:typeLookup (.type "tuple") "__reversed__" = pure none:=by rw [typeLookup_type,builtinLookup_eq_fast]<;>kernel_rfl
theorem ZmI:isSubtype (.type "reversed") (.type "reversed")=pure true:=by rw [isSubtype_type]<;>kernel_rfl
theorem init:Slot "reversed" "__init__" "object.__init__" :=
 .of (owner := "object") (n := "__init__") (by rw [typeLookup_type,builtinLookup_eq_fast]<;>kernel_rfl) (by decide +kernel) (by decide +kernel) (by decide +kernel) (by first|exact .inl (by decide +kernel)|exact .inr (by decide +kernel)) (by rw [isSubtype_type]<;>kernel_rfl)
theorem called:TypeCalled "reversed" "reversed.__new__" "object.__init__" := ⟨by decide +kernel,F.create_reversed,⟨_,_,F.mro_reversed⟩,F.made_reversed,by decide +kernel,ZmI,init⟩
noncomputable def obj (l:Addr) (i:Int):Obj:={cls:=.type "reversed",data:=.fields #[.ref l,rawInt i]}
noncomputable def Is (h:Heap) (a l:Addr) (i:Int):Prop:=∃ o,h.get? a=some o/\o.cls=.type "reversed" /\ o.data=.fields #[.ref l,rawInt i]
section
variable {prog:Program}{w:World}{A:Around}{E:Value->Shared->Prop}{s:Shared}
theorem Is.typeIs (x:Is s.heap a l i):s.TypeIs (.ref a) "reversed" := let ⟨o,ho,hc,_⟩:=x;⟨o,ho,hc⟩
theorem Is.at(x:Is h a l i)(e:∀ o,h.get? a=some o->h'.get? a=some o):Is h' a l i:=let ⟨o,ho,r⟩:=x;⟨o,e _ ho,r⟩
theorem new(hl:IsTup s.heap l items)(hz:items.size<=sizeLine)
   (h:Q (.ref s.heap.objs.size) {s with heap:=s.heap.push (obj l ((items.size:Int) - 1)),toks:=s.toks+1+1}) :
   codeAny (model prog w) A (.call (.builtin "reversed.__new__") ⟨[.type "reversed",.ref l],[]⟩) (wants Q E) s:=by
 have hfit:(items.size:Int)<2 ^ 63:=by have:=ZbA;lia
 refine codeAny_of_tree ?_;show wpAny _ A.in1 (do checkBuiltinCall "reversed.__new__" ⟨[.type "reversed",.ref l],[]⟩;again (.builtin "reversed.__new__" ⟨[.type "reversed",.ref l],[]⟩)) _ _ s;refine wpAny_bind (wpAny_of_eq (F.newCall_reversed_1 _) (wpAny_pure ⟨plainId_quiet F.plain_reversed_new _,codeAny_builtin F.entry_reversed_new ?_⟩));rw [Around.under_plainId F.plain_reversed_new _];unfold Builtin.«reversed.__new__»;refine wpAny_bind (wpAny_of_eq (newClass_reversed _) ?_)
 try dsimp only
 refine wpAny_bind (wpAny_of_eq (a:=()) (by first|rfl|kernel_rfl) (wpAny_bind (wpAny_of_eq (a:=()) (by first|rfl|kernel_rfl) ?_)))
 try dsimp only
 refine wpAny_bind (wpAny_specialOf hl.typeIs Zr8 ?_)
 try dsimp only
 refine wpAny_bind ?_;show wpAny _ _ (isInstance (.ref l) (.type "dict") >>= fun b=>_) _ _ s;refine wpAny_bind (wpAny_isInstance hl.typeIs F.sub_tuple_dict ?_);show wpAny _ _ (specialOf (.ref l) "__getitem__" >>= fun b=>_) _ _ s;refine wpAny_bind (wpAny_specialOf hl.typeIs slot_tuple_getitem.lookup ?_);refine wpAny_of_eq (a:=true) (by rfl) ?_;show wpAny _ _ (call (.builtin "len") [.ref l] >>= fun b=>_) _ _ s;refine wpAny_bind (len_tuple hl hfit ?_);show wpAny _ _ (asInt? (.int _ _) >>= fun b=>_) _ _ _;refine wpAny_bind (wpAny_pure ?_);show wpAny _ _ (newObj (.type "reversed") (.fields #[.ref l,rawInt ((items.size:Int) - 1)]) >>= fun b=>_) _ _ _;exact wpAny_bind (wpAny_newObj_type (wpAny_pure h))
theorem call(hl:IsTup s.heap l items)(hz:items.size<=sizeLine)
   (h:Q (.ref s.heap.objs.size) {s with heap:=s.heap.push (obj l ((items.size:Int) - 1)),toks:=s.toks+1+1}):wpAny (model prog w) A (PySem.call (.type "reversed") [.ref l]) Q E s:=by
 refine callType_codes called (F.typeCall_reversed_1 _) F.entry_object_init (new (Q:=fun o s1=>o=.ref s.heap.objs.size/\s1={s with heap:=s.heap.push (obj l ((items.size:Int) - 1)),toks:=s.toks+1+1}) hl hz ⟨rfl,rfl⟩) ?_;rintro _ _ ⟨rfl,rfl⟩;have hT:Shared.TypeIs {s with heap:=s.heap.push (obj l ((items.size:Int) - 1)),toks:=s.toks+1+1} (.ref s.heap.objs.size) "reversed" := ⟨_,Oj _ rfl,rfl⟩
 refine ⟨hT,F.args_object_init_2 _ _,?_⟩;exact object_init_meets init.lookup F.made_reversed (by decide) prog w _ _ _ ⟨hT,rfl,h⟩
theorem next_item{it l:Addr}{i:Nat}{Q:Option Value->Shared->Prop}(hit:Is s.heap it l (i:Int))(hl:IsTup s.heap l items)(hz:items.size<=sizeLine)(hx:items[i]? = some x)
   (hQ:∀ h' t',Is h' it l ((i:Int) - 1)->Heap.SameBut it s.heap h'->Q (some x) {s with heap:=h',toks:=t'}):wpAny (model prog w) A (pyNext (.ref it)) Q E s:=by
 obtain ⟨o,ho,hc,hd⟩:=id hit;have hi:i<items.size:=by
   have:=(Array.getElem?_eq_some_iff.mp hx).1;exact this
 have l63:=ZbA;unfold pyNext;refine wpAny_bind (wpAny_attempt (wpAny_callSpecial?_slot (name:=O "__next__") hit.typeIs next (wpAny_call_entry next hit.typeIs ZoH ?_ (ZoT _))));unfold Builtin.«reversed.__next__»;refine wpAny_bind (wpAny_of_eq (a:=(Value.ref it,[])) rfl ?_)
 try dsimp only
 refine wpAny_bind (wpAny_field ho hd (x:=.ref l) rfl (wpAny_bind (wpAny_field ho hd (x:=rawInt (i:Int)) rfl ?_)));show wpAny _ _ (if (i:Int)<0 then _ else _) _ _ s;rw [if_neg (by lia)];show wpAny _ _ (specialOf (.ref l) "__getitem__" >>= fun b=>_) _ _ s;refine wpAny_bind (wpAny_specialOf hl.typeIs slot_tuple_getitem.lookup ?_);show wpAny _ _ (mkInt (i:Int) >>= fun b=>_) _ _ s;refine wpAny_bind (wpAny_mkInt ?_);refine wpAny_bind (wpAny_attempt (getItem_tuple (s:={s with toks:=s.toks+1}) (j:=i) (x:=x) hl (by lia) (by lia) (seqIndex_of (by lia) (by lia)) hx ?_));show wpAny _ _ (field (.ref it) 1 >>= fun b=>_) _ _ _;refine wpAny_bind (wpAny_field ho hd (x:=rawInt (i:Int)) rfl ?_);show wpAny _ _ (setField (.ref it) 1 (rawInt ((i:Int) - 1)) >>= fun b=>_) _ _ _;refine wpAny_bind (wpAny_setField ho hd (by simp) ?_);refine wpAny_pure ⟨x,rfl,wpAny_pure (hQ _ _ ?_ (Heap.SameBut.update ..))⟩;exact ⟨_,Heap.get?_update_self _ ho (Obj.isFreed_of_fields (Obj.data_mapFields hd _)),(Obj.cls_mapFields ..).trans hc,by rw [Obj.data_mapFields hd]<;>simp⟩
theorem next_end(hh:A.handled=none)(hit:Is s.heap it l (-1))(hQ:∀ h',Heap.ExtBut it s.heap h'->Q none {s with heap:=h'}):wpAny (model prog w) A (pyNext (.ref it)) Q E s:=by
 obtain ⟨o,ho,hc,hd⟩:=id hit;unfold pyNext;refine wpAny_bind (wpAny_attempt (wpAny_callSpecial?_slot (name:=O "__next__") hit.typeIs next (wpAny_call_entry next hit.typeIs ZoH ?_ (ZoT _))));unfold Builtin.«reversed.__next__»;refine wpAny_bind (wpAny_of_eq (a:=(Value.ref it,[])) rfl ?_)
 try dsimp only
 refine wpAny_bind (wpAny_field ho hd (x:=.ref l) rfl (wpAny_bind (wpAny_field ho hd (x:=rawInt (-1)) rfl ?_)));show wpAny _ _ (if (-1:Int)<0 then _ else _) _ _ s;rw [if_pos (by decide)];refine wpAny_bind (wpAny_rule ?_);show wpAny _ _ ((setField (.ref it) 1 (rawInt (-1)) >>= fun _=>setField (.ref it) 0 .none) >>= fun b=>_) _ _ _;have e1:=Heap.get?_update_self (Obj.mapFields (·.setIfInBounds 1 (rawInt (-1)))) ho (Obj.isFreed_of_fields (Obj.data_mapFields hd _));refine wpAny_bind (wpAny_bind (wpAny_setField ho hd (by simp) (wpAny_setField e1 (Obj.data_mapFields hd _) (by simp) ?_)));refine wpAny_bind ?_;show wpAny _ _ (newExc (.type "StopIteration") [] >>= fun b=>_) _ _ _;refine wpAny_bind ?_;simp only [newExc,newTuple];refine wpAny_bind (wpAny_newObj_type ?_ (by size_fits));refine wpAny_bind (m:=firstArgMember _ _) (wpAny_of_eq (a:=Value.none) (by first|rfl|(simp only [firstArgMember]<;>rfl)) (wpAny_newObj_type ?_ (by size_fits)));simp only [raiseNew];refine wpAny_bind (wpAny_handled ?_);rw [show A.in1.handled=none from hh];refine wpAny_bind (wpAny_pure (wpAny_throw ?_));refine wpAny_bind (wpAny_isInstance (T := "StopIteration") (b:=true) ⟨_,Oj _ rfl,rfl⟩ isSubtype_stop (wpAny_pure (hQ _ ?_)));exact ((((Heap.ExtBut.refl _ _).trans (Heap.SameBut.update ..).extBut).trans (Heap.SameBut.update ..).extBut).push _).push _
theorem ZfV(hit:Is s.heap it l i)(h:Q (.ref it) s):wpAny (model prog w) A (pyIter (.ref it)) Q E s:=by
 refine wpAny_pyIter_slot hit.typeIs iter (wpAny_call_entry iter hit.typeIs ZsS ?_ (Ztb _));exact wpAny_pure ⟨_,rfl, "reversed",_,hit.typeIs,next.lookup,h⟩
end
end Rv
noncomputable def Itv(K:PySem.W.Frag)(a:Addr)(n:Nat):It :=
 ⟨fun i H=>∃ xs x,SqT K H a xs/\xs.length=n/\xs.reverse[i]? = some x,fun i H x H'=>H'=H/\∀ xs,SqT K H a xs->xs.reverse[i]? = some x,fun i H=>∃ xs,SqT K H a xs/\xs.length=n/\n=i⟩
theorem ZkE{P:Program}{w:World}{K:PySem.W.Frag}{tg:Expr}(a it:Addr)(n:Nat):Turn P w K tg (Itv K a n) [it] it (fun i h=>i<=n/\Rv.Is h it a ((n:Int) - 1 - i)) where
 mem:=by simp
 obj:=fun i h st b hb=>by
   have e:b=it:=by simpa using hb
   subst e;obtain ⟨_,o,e,c,d⟩:=st;exact ⟨o,e,fun v z=>by rw [d] at z;cases z⟩
 keep:=fun i h h' st k=>⟨st.1,st.2.at fun o e=>k it (by simp) o e⟩
 item:=by
   intro X hP hw hK hc i pins s Z H E I hf st hg;subst hP hw hK;obtain ⟨hin,st⟩:=st;obtain ⟨xs,x,hq,hxn,hx⟩:=hg;obtain ⟨its,rv,p,hz⟩:=I.tuple hq;have hl:=rv.length;have hi:i<xs.length:=by
     have:=(Ob.mp hx).1;simpa using this
   have hx':xs[n - 1 - i]? = some x:=by
     rw [List.getElem?_reverse hi] at hx;rw [<- hxn];exact hx
   obtain ⟨u,hu,ru⟩:=rv.get hx';obtain ⟨f0,f1,f2,f3,f4,f5⟩:=hf it (by simp);have e1:(n:Int) - 1 - (i:Nat)=((n - 1 - i:Nat):Int):=by lia
   rw [e1] at st;refine Rv.next_item st p (by simp;lia) (x:=u) (by simpa using hu) fun h' t' st' sb=>?_;have I1:Inv X pins Z H {s with heap:=h',toks:=t'}:=I.turned (t':=t') (fun b o hb e=>(sb.2 b hb).trans e) f0 f1 f3 f4 f5;obtain ⟨o,e,c,d⟩:=id st';have e2:((n - 1 - i:Nat):Int) - 1=(n:Int) - 1 - ((i+1:Nat):Int):=by lia
   refine ⟨u,rfl,Zhe (s:={s with heap:=h',toks:=t'}) e c d (by decide) ⟨x,H,I1,ru,⟨rfl,fun ys hy=>by rw [I.tuple_inj hy hq];exact hx⟩,⟨by lia,by rw [<- e2];exact st'⟩,fun b hb=>(hf b hb).1⟩⟩
 done:=by
   intro X hP hw hK hc i pins s Z H E I hf st hg;subst hP hw hK;obtain ⟨xs,hq,hxn,hx⟩:=hg;obtain ⟨f0,f1,f2,f3,f4,f5⟩:=hf it (by simp);have st1:=st.2;rw [show (n:Int) - 1 - (i:Nat)=-1 by lia] at st1;exact Rv.next_end (I.ok.hd hc) st1 fun h' eb=>⟨rfl,I.turned (t':=s.toks) (fun b o hb e=>eb b o hb e) f0 f1 f3 f4 f5⟩
 self:=fun _ _ _ _ _ st h=>Rv.ZfV st.2 h
end L2
end
section
set_option tactic.hygienic false
namespace L2
open PySem PySem.Spec PyProof.Rows
theorem ZfL:∀ {vs:List Value}{ss:List Str},StrsAre vs ss->Zf (ss.map V.str) vs
 | _,_,.nil=>.nil
 | _,_,.cons y t h=>.cons ⟨t,rfl⟩ (ZfL h)
section
variable {prog:Program}{w:World}{A:Around}{E:Value->Shared->Prop}{s:Shared}
theorem Zd0(K:PySem.W.KdlSrc prog w T r d n P OK)(hh:A.handled=none)(hok:OK s.heap)(hn:n<=sizeLine)
   (h:∀ (h':Heap) (tk:Nat) (acc:Array Value),s.heap.objs.size<=h'.objs.size->(∀ b o,s.heap.get? b=some o->h'.get? b=some o)->ItemsOf P acc n->R acc.toList {s with heap:=h',toks:=tk}) :
   wpAny (model prog w) A (collect (.ref r)) R E s:=by
 have lt:=K.there _ hok;unfold collect;refine wpAny_bind (wpAny_runValue (codeAny_builtin entry_proto_collect' ?_));rw [Around.under_plainId PySem.F.plain_proto_collect _];show wpAny _ A.in1 (newList [] >>= fun x=>again (.builtin "list.__iadd__" ⟨[x,.ref r],[]⟩)) _ _ s;refine wpAny_bind (wpAny_newObj_type (wpAny_pure ⟨plainId_quiet PySem.F.plain_list_iadd _,codeAny_builtin entry_list_iadd' ?_⟩));rw [Around.under_plainId PySem.F.plain_list_iadd _];have e0:(s.heap.push {cls:=.type "list",data:=.seq ([]:List Value).toArray}).get? s.heap.objs.size=some {cls:=.type "list",data:=.seq #[]}:=Oj _ rfl;show wpAny _ A.in1 (Builtin.List.listExtendWith (.ref s.heap.objs.size) (.ref r) (.ref s.heap.objs.size)) _ _ _;have key:=PySem.W.kdl_extend (A:=A) (s:={s with heap:=s.heap.push {cls:=.type "list",data:=.seq ([]:List Value).toArray}})
   (R:=fun (q:Result) (s':Shared)=>∃ (h':Heap) (tk:Nat) (acc:Array Value) (c:Nat),q=.ok (.ret (.ref s.heap.objs.size))/\s'={s with heap:=h',toks:=tk}/\(∀ b o,s.heap.get? b=some o->h'.get? b=some o)/\h'.get? s.heap.objs.size=some {cls:=.type "list",dict:=none,data:=.seq acc c,slots:=#[]}/\ItemsOf P acc n)
   K hh (K.keep _ _ hok fun b _ o e=>Od _ e) s.heap.objs.size (Nat.ne_of_gt lt.1) (Nat.ne_of_gt lt.2) (.ref s.heap.objs.size) 0 e0 (fun h' tk acc c hk hS hacc=>⟨h',tk,acc,c,rfl,rfl,fun b o e=>hk b o (Ou (Heap.lt_size e)) (Od _ e),hS,hacc⟩) hn
 refine wpAny_mono key (fun fin s' x=>?_) fun e s' x=>?_
 . cases fin with
   | done f =>
     obtain ⟨h',tk,acc,c,e,rfl,hk,hS,hacc⟩:=x;cases e;exact wpAny_bind (wpAny_load hS (wpAny_pure (h h' tk acc (Nat.le_of_lt (Heap.lt_size hS)) hk hacc)))
   | again c₁ =>
     refine ⟨x.1,codeAny_mono x.2 fun q s₂ y=>?_⟩;obtain ⟨h',tk,acc,c,rfl,rfl,hk,hS,hacc⟩:=y;exact wpAny_bind (wpAny_load hS (wpAny_pure (h h' tk acc (Nat.le_of_lt (Heap.lt_size hS)) hk hacc)))
 . obtain ⟨_,_,_,_,z,_⟩:=x;cases z
end
theorem ZeJ:∀ {xs:List α}{ys:List β},Paired R xs ys->∀ {i:Nat}{x:α},xs[i]? = some x->∃ y,ys[i]? = some y/\R x y
 | _,_,.nil,i,x,e=>by simp at e
 | _,_,.cons h r,0,x,e=>by cases e;exact ⟨_,rfl,h⟩
 | _,_,.cons h r,i+1,x,e=>by
   obtain ⟨y,h1,h2⟩:=ZeJ r (i:=i) (x:=x) (by simpa using e);exact ⟨y,by simpa using h1,h2⟩
theorem Zev:∀ (ss:List Str) (vs:List Value),vs.length=ss.length->(∀ (j:Nat) (v:Value),vs[j]? = some v->∃ x,ss[j]? = some x/\(ZF P w).is (Sum.inr x) v=true)->StrsAre vs ss
 | [],[],_,_=>.nil
 | s::ss,v::vs,hl,h=>by
   obtain ⟨x,e,hx⟩:=h 0 v rfl;cases e;obtain ⟨t,rfl⟩:=Value.isStrOf_shape (x:=s) (v:=v) hx;exact .cons s t (Zev ss vs (by simpa using hl) fun j u hu=>h (j+1) u (by simpa using hu))
end L2
end
section
namespace L2
open PySem PySem.Spec PyProof.Rows
theorem ZcD:∀ {ns:List Int}{vs:List Value},Zf (ns.map V.int) vs->IntsAre vs ns
 | [],vs,h=>by cases h;exact .nil
 | s::ss,vs,h=>by
   rw [Op] at h;cases h with
   | cons h1 h2 =>
     obtain ⟨t,rfl⟩:=h1;exact .cons s t (ZcD h2)
noncomputable def ZdF(z:Str)(n:Nat):Str:=⟨(List.replicate n z.cps).foldl (·++·) #[]⟩
theorem Ze2(a:Array Nat):∀ (n:Nat) (i:Array Nat),((List.replicate n a).foldl (·++·) i).size=i.size+n * a.size
 | 0,i=>by simp
 | n+1,i=>by
   rw [List.replicate_succ,List.foldl_cons,Ze2 a n (i++a),Array.size_append,Nat.succ_mul]
   lia
theorem Zdb(z:Str)(n:Nat):(ZdF z n).length=n * z.length:=by
 show ((List.replicate n z.cps).foldl (·++·) #[]).size=_;rw [Ze2];simp;rfl
section
variable {X:Cx}
theorem Zkt (hc:X.A.handled=none):Zae X (.builtin "sum") (fun xs H Q=>∃ (a:Addr) (ns:List Int),xs=[.ref a]/\SqL X.K H a (ns.map V.int)/\Q (.int ns.sum) H):=by
 intro pins s Z H xs us Q I r h;obtain ⟨a,ns,rfl,hq,q⟩:=h;obtain ⟨u,rfl,ru⟩:=vals1 r;cases ru;obtain ⟨its,rv,pl,hz⟩:=I.list hq;have hi:=ZcD rv;obtain ⟨ys,e⟩:=hi.allInts.items;refine sum_intListG (xs:=ys) hc (by rw [<- e];exact pl.isList) fun h' tk t' hk=>?_;refine ⟨.int ns.sum,H,I.kept (t':=tk) hk,⟨t',?_⟩,q⟩;have e2:=hi.numsOf;have e3:numsOf (intItems ys).toList=ns:=by rw [<- e];exact e2
 rw [nums_intItems] at e3;rw [preSum_eq,List.take_of_length_le (by simp),e3]
theorem Zng:OpR X (binaryOp .Mult) (fun x y H Q=>∃ z n,x=.str z/\y=.int n/\0<=n/\n<=1000/\z.length<=1000/\Q (.str (ZdF z n.toNat)) H):=by
 intro pins s Z H x y v u Q I rx ry h;obtain ⟨z,n,rfl,rfl,h0,h1,h2,q⟩:=h;obtain ⟨t,rfl⟩:=rx;obtain ⟨t2,rfl⟩:=ry;have hl:z.length * n.toNat<=1000000:=Nat.mul_le_mul h2 (by lia:n.toNat<=1000);have hs:(1000000:Nat)<=sizeLine:=by decide
 refine PySem.P.mul_str (by rw [decide_eq_false (by lia:¬ n < -(2 ^ 63:Int)),decide_eq_false (by lia:¬ n ≥ 2 ^ 63)]<;>rfl) (fun _ _=>?_) (fun _ _=>?_) ?_
 . have h3:1<=n:=by lia
   have h4:(9223372036854775807:Int) / n ≥ 1000:=by
     have:1000<=9223372036854775807 / n:=(Int.le_ediv_iff_mul_le (by lia)).mpr (by lia);exact this
   show ¬ ((z.length:Int) > (2 ^ 63 - 1) / n);rw [show (2 ^ 63 - 1:Int)=9223372036854775807 by decide]
   lia
 . unfold Builtin.Str.tooLong;exact decide_eq_false (by lia)
 . by_cases hn:n<1
   . rw [if_pos hn];refine ⟨by decide,.str _,H,I.tok _,⟨_,rfl⟩,?_⟩;rw [show n.toNat=0 by lia] at q;exact q
   . rw [if_neg hn];by_cases h5:(n==1 || z.length==0)=true
     . rw [if_pos h5];refine ⟨.str _,H,I,⟨_,rfl⟩,?_⟩;have e:ZdF z n.toNat=z:=by
         rw [Bool.or_eq_true] at h5;rcases h5 with h5|h5
         . have e1:n.toNat=1:=by have:=eq_of_beq h5;lia
           rw [e1];unfold ZdF;simp
         . have e1:z.length=0:=eq_of_beq h5;have e2:(ZdF z n.toNat).length=0:=by rw [Zdb,e1];simp
           have f:∀ y:Str,y.length=0->y=⟨#[]⟩:=fun y hy=>by
             cases y with|mk c=>rw [show c=#[] from Array.eq_empty_of_size_eq_zero hy]
           exact (f _ e2).trans (f z e1).symm
       rw [e] at q;exact q
     . rw [if_neg h5];refine ⟨?_,.str _,H,I.tok _,⟨_,rfl⟩,q⟩;show (ZdF z n.toNat).length<=sizeLine;rw [Zdb,Nat.mul_comm]
       lia
end
end L2
end
section
namespace L2
open PySem PySem.Spec PyProof.Rows
section
variable {X:Cx}
theorem Zgm(hi:i.natAbs<2 ^ 2000)(hj:j.natAbs<2 ^ 2000):IntMulOk i j:=by
 have bits:∀ k:Int,k.natAbs<2 ^ 2000->Builtin.Int.intBits k<=2000:=fun k hk=>by
   unfold Builtin.Int.intBits;split
   . lia
   . rename_i h;have h0:k.natAbs≠0:=by simpa using h
     have:=(Nat.log2_lt h0).mpr hk
     lia
 unfold IntMulOk;have h1:=bits i hi;have h2:=bits j hj;have h3:Builtin.Int.intTooBig (Builtin.Int.intBits i+Builtin.Int.intBits j:Nat)=false:=by
   unfold Builtin.Int.intTooBig;rw [decide_eq_false_iff_not];have:(bitsLine:Nat)=134217728:=by decide
   rw [this]
   lia
 intro q;simp only [Oa] at q;have q2:=q.2;rw [show ((Builtin.Int.intBits i:Int)+(Builtin.Int.intBits j:Int))=((Builtin.Int.intBits i+Builtin.Int.intBits j:Nat):Int) by simp] at q2;rw [h3] at q2;cases q2
theorem Zj9:OpR X (binaryOp .Mult) (rI (fun i j=>i.natAbs<2 ^ 2000/\j.natAbs<2 ^ 2000) fun i j=>.int (i * j)):=opI fun _ _ _ _ _ _ _ hc q=>mul_int q (Zgm hc.1 hc.2)
noncomputable def ZrN(K:PySem.W.Frag):R2:=fun x y H Q=>∃ a b ys,x=.ref a/\y=.ref b/\SqT K H a []/\SqT K H b ys/\Q (.ref b) H
theorem Znj:OpR X (binaryOp .Add) (ZrN X.K):=by
 intro pins s Z H x y v u Q I rx ry h;obtain ⟨a,b,ys,rfl,rfl,ha,hb,q⟩:=h;cases rx;cases ry;obtain ⟨its,r1,ht,_⟩:=I.tuple ha;obtain ⟨its2,r2,hb,_⟩:=I.tuple hb;cases r1;obtain ⟨⟨cls,dd,data,sl⟩,ho,hc,n,hd⟩:=id ht;obtain ⟨⟨cls2,dd2,data2,sl2⟩,ho2,hc2,n2,hd2⟩:=id hb;simp only at hc hd hc2 hd2;subst hc hd hc2 hd2;exact concat_meets ⟨_,ho,rfl⟩ ⟨_,ho2,rfl⟩ noFill_tuple_add seq_tuple_add PySem.F.slot_tuple_add PySem.F.entry_tuple_add (PySem.F.args_tuple_add_2 _ _)
     (tuple_addW0 a b _ _ n n2 dd dd2 sl sl2 (by simp)) ⟨ho,ho2,⟨.ref b,H,I,rfl,q⟩⟩
end
end L2
namespace HT
open PySem PyProof.Rows
section
variable {prog:Program}{w:World}{A:Around}{E:Value->Shared->Prop}{s:Shared}
theorem Zct{t sl:Addr}{items:Array Value}{lo hi:Option Int}{Q:Value->Shared->Prop}(ht:IsTup s.heap t items)(hs:s.heap.IsSliceOf sl vl vu .none)(pl:IsPart vl lo)(pu:IsPart vu hi)
   (hw:sIx items.size 0 lo=0/\sIx items.size items.size hi=items.size) (h:Q (.ref t) s):wpAny (model prog w) A (getItem (.ref t) (.ref sl)) Q E s:=by
 obtain ⟨os,hos,hcs,hds⟩:=id hs;have hTs:s.TypeIs (.ref sl) "slice" := ⟨os,hos,hcs⟩
 unfold getItem
 try with_reducible refine wpAny_holding ?_
 first|refine wpAny_bind (wpAny_pure ?_)|skip
 refine wpAny_bind (wpAny_sequenceKey ht.typeIs (by decide) ?_);refine wpAny_bind (wpAny_callSpecial?_slot (name:=O "__getitem__") ht.typeIs PyProof.Rows.slot_tuple_getitem
   (wpAny_call_entry PyProof.Rows.slot_tuple_getitem ht.typeIs entry_tuple_getitem ?_ (args_tuple_getitem _ _)))
 show wpAny _ _ (Builtin.Tuple.tupleItemsOf (.ref t) >>= _) _ _ s;refine wpAny_bind (tupleItemsOf_ ht ?_);refine wpAny_bind (wpAny_typeOf hTs ?_);rw [if_pos (by decide)];refine wpAny_bind (Zbn hs pl pu ?_);have hyes:(((sIx items.size 0 lo:Nat):Int)==0&&(1:Int)==1&&(sIx items.size items.size hi - sIx items.size 0 lo)==items.size)=true:=by
   rw [hw.1,hw.2];simp
 show wpAny _ _ (if (((sIx items.size 0 lo:Nat):Int)==0&&(1:Int)==1&&(sIx items.size items.size hi - sIx items.size 0 lo)==items.size)=true then _ else _) _ _ s;rw [if_pos hyes];unfold Builtin.Tuple.tupleIsExact;refine wpAny_bind (wpAny_bind (wpAny_typeOf ht.typeIs (wpAny_pure ?_)));rw [if_pos (by decide)];exact wpAny_bind (wpAny_rule (wpAny_pure ⟨_,rfl,wpAny_pure h⟩))
end
end HT
namespace L2
open PySem PySem.Spec PyProof.Rows
section
variable {X:Cx}
noncomputable def ZtP(K:PySem.W.Frag):V->Option Int->Option Int->Hp->VK->Prop:=fun x lo hi H Q=>∃ a xs,x=.ref a/\SqT K H a xs /\
 (HT.sIx xs.length 0 lo=0/\HT.sIx xs.length xs.length hi=xs.length)/\Q (.ref a) H
theorem ZkQ:SlR X (ZtP X.K):=by
 intro pins s Z H x v vl vu lo hi sl Q I rx hs pl pu h;obtain ⟨a,xs,rfl,hx,hw,q⟩:=h;cases rx;obtain ⟨its,r,ht,hz⟩:=I.tuple hx;have hlen:its.toArray.size=xs.length:=by rw [Of];exact r.length.symm
 refine ⟨"tuple",_,PyProof.Rows.slot_tuple_getitem.lookup,ht.typeIs,?_⟩;exact HT.Zct ht hs pl pu (by rw [hlen];exact hw) ⟨.ref a,H,I,rfl,q⟩
end
end L2
end
section
set_option tactic.hygienic false
namespace L2
open PySem PySem.Spec PyProof.Rows
noncomputable def Zsf:List Int->Int->Int
 | [],d=>d
 | x::r,_=>r.foldl (fun m y=>if y > m then y else m) x
end L2
end
section
namespace L2
open PySem PySem.Spec PyProof PyProof.Rows PySem.AutoSeq1
set_option maxRecDepth 8000 in
theorem Ziw(l:Addr)(items:Array Value)(n:Nat)(b:Addr)(items2:Array Value)(n2:Nat)(od:Option Addr)(sl:Array (Option Value))(hs0:¬(!items.isEmpty&&Builtin.List.listTooLong (items.size+items2.size))=true)(hs1:items.size<=sizeLine)(hs2:items.size+items2.size<=sizeLine+1) :
   Meets (Builtin.«list.extend» ⟨[.ref l,.ref b],[]⟩) (fun _ R s=>s.heap.get? l=some {cls:=.type "list",dict:=none,data:=.seq items n,slots:=#[]}/\s.heap.get? b=some {cls:=.type "tuple",dict:=od,data:=.seq items2 n2,slots:=sl}/\R (.ok (.ret Value.none)) {s with heap:=s.heap.update l (Obj.mapSeq fun x=>x++items2),toks:=s.toks}) :=
 .of_wp fun prog w A R s h=>by
   obtain ⟨hp,g,d,tk,os⟩:=s;obtain ⟨hl,hb,h⟩:=h;have f1:=idx_int;have f2:=AutoSeq1.sub_tuple_tuple;have f3:=AutoSeq1.sub_list_list;have f4:=AutoSeq1.sub_tuple_list;have f5:=AutoSeq1.sub_list_tuple;have hz':(items++items2).size<=sizeLine+1:=by rw [Array.size_append];exact hs2
   wp_walk using (wpAny_updateSeq hl rfl (hz:=hs1) (_hz':=hz')),wpAny_loadPart' hl,wpAny_loadPart' hb;exact ⟨_,rfl,h⟩
section
variable {X:Cx}
noncomputable def Zk4(K:PySem.W.Frag):V->List V->Hp->VK->Prop:=fun x vs H Q=>∃ l b xs zs,x=.ref l/\vs=[.ref b]/\H l=some (.lst xs)/\SqT K H b zs/\xs.length+zs.length<=sizeLine/\Q .non (upd H l (.lst (xs++zs)))
theorem Zid:MtM X "list.extend" (Zk4 X.K):=by
 intro pins s Z H x vs v us Q I rx rv h;obtain ⟨l,b,xs,zs,rfl,rfl,hH,hB,hz,q⟩:=h;cases rx;obtain ⟨u,rfl,ru⟩:=rv.one;cases ru;obtain ⟨z,its,n,r,hl,e⟩:=I.lstM hH;obtain ⟨its2,r2,⟨o,e2,oc,n2,od⟩,z2⟩:=I.tuple hB;obtain ⟨cls,dc,dat,sl⟩:=o;simp only at oc od;subst oc;subst od;have hl2:=r2.length;have hsz:its.toArray.size+its2.toArray.size<=sizeLine:=by rw [Of,Of];lia
 have hlong:¬ (!its.toArray.isEmpty&&Builtin.List.listTooLong (its.toArray.size+its2.toArray.size))=true:=by
   rw [ZgZ hsz,Bool.and_false];exact Ow
 refine call_meets F.slot_list_extend ⟨_,e,rfl⟩ F.entry_list_extend (F.args_list_extend_2 _ _)
   (Ziw l its.toArray n b its2.toArray n2 dc sl hlong (by rw [Of];lia) (by lia)) ⟨e,e2,?_⟩
 refine ⟨.non,_,I.lset (its':=its++its2) hH e (by simp) (r.append r2) ?_,rfl,q⟩;rw [OA]
 lia
end
end L2
end
section
namespace L2
open PySem PySem.Spec PyProof.Rows
noncomputable def ZqX(K:PySem.W.Frag)(a:Addr)(n:Nat):It :=
 ⟨fun i H=>∃ xs x,SqL K H a xs/\xs.length=n/\xs.reverse[i]? = some x,fun i H x H'=>H'=H/\∀ xs,SqL K H a xs->xs.reverse[i]? = some x,fun i H=>∃ xs,SqL K H a xs/\xs.length=n/\n=i⟩
theorem ZjT{P:Program}{w:World}{K:PySem.W.Frag}{tg:Expr}(a it:Addr)(n:Nat):Turn P w K tg (ZqX K a n) [it] it (fun i h=>i<=n/\h.IsRevIter it a ((n:Int) - 1 - i)) where
 mem:=by simp
 obj:=fun i h st b hb=>by
   have e:b=it:=by simpa using hb
   subst e;obtain ⟨_,o,e,c,d⟩:=st;exact ⟨o,e,fun v z=>by rw [d] at z;cases z⟩
 keep:=fun i h h' st k=>⟨st.1,st.2.at fun o e=>k it (by simp) o e⟩
 item:=by
   intro X hP hw hK hc i pins s Z H E I hf st hg;subst hP hw hK;obtain ⟨hin,st⟩:=st;obtain ⟨xs,x,hq,hxn,hx⟩:=hg;obtain ⟨its,rv,p,hz⟩:=I.list hq;have hl:=rv.length;have hi:i<xs.length:=by
     have:=(Ob.mp hx).1;simpa using this
   have hx':xs[n - 1 - i]? = some x:=by
     rw [List.getElem?_reverse hi] at hx;rw [<- hxn];exact hx
   obtain ⟨u,hu,ru⟩:=rv.get hx';obtain ⟨f0,f1,f2,f3,f4,f5⟩:=hf it (by simp);have e1:(n:Int) - 1 - (i:Nat)=((n - 1 - i:Nat):Int):=by lia
   rw [e1] at st;refine wpAny_pyNext_rev_item st p.isList (x:=u) (by simpa using hu) fun h' st' sb=>?_;have I1:Inv X pins Z H {s with heap:=h'}:=I.turned (t':=s.toks) (fun b o hb e=>(sb.2 b hb).trans e) f0 f1 f3 f4 f5;obtain ⟨o,e,c,d⟩:=id st';have e2:((n - 1 - i:Nat):Int) - 1=(n:Int) - 1 - ((i+1:Nat):Int):=by lia
   exact ⟨u,rfl,Zhe (s:={s with heap:=h'}) e c d (by decide) ⟨x,H,I1,ru,⟨rfl,fun ys hy=>by rw [I.list_inj hy hq];exact hx⟩,⟨by lia,by rw [<- e2];exact st'⟩,fun b hb=>(hf b hb).1⟩⟩
 done:=by
   intro X hP hw hK hc i pins s Z H E I hf st hg;subst hP hw hK;obtain ⟨xs,hq,hxn,hx⟩:=hg;obtain ⟨f0,f1,f2,f3,f4,f5⟩:=hf it (by simp);have st1:=st.2;rw [show (n:Int) - 1 - (i:Nat)=-1 by lia] at st1;exact wpAny_pyNext_rev_end (I.ok.hd hc) st1 fun h' eb=>⟨rfl,I.turned (t':=s.toks) (fun b o hb e=>eb b o hb e) f0 f1 f3 f4 f5⟩
 self:=fun _ _ _ _ _ st h=>wpAny_pyIter_revIter st.2 h
noncomputable def ZsD(K:PySem.W.Frag)(ta:TA):TI:=fun Z H R=>ta Z H fun vs H1=>∃ a xs,vs=[.ref a]/\((SqT K H1 a xs/\R (Itv K a xs.length) H1)\/(SqL K H1 a xs/\R (ZqX K a xs.length) H1))
theorem Zm4 {X:Cx}{tg l:Expr}{ta:TA}{p pos:Pos} (hg:Gl X "reversed") (hm:X.mg "reversed" = none) (ha:PA X [l] ta) (hs:starEach [l] X.env=[(false,eval l X.env)]:=by rfl) :
   PI X tg (.Call (.Name "reversed" p) [l] [] pos) (ZsD X.K ta):=by
 intro pins s Z H R I h;refine Call_ (ZeQ I hg hm boot_reversed (PyProof.Rows.callWith_type1 (thn (ha pos pins s Z H _ I h) fun us s1 ⟨vs,H1,I1,r1,q1⟩=>?_) hs rfl));obtain ⟨a,xs,rfl,q⟩:=q1;obtain ⟨u,rfl,ru⟩:=vals1 r1;obtain rfl:u=Value.ref a:=ru;rcases q with ⟨hq,q⟩|⟨hq,q⟩
 . obtain ⟨its,rv,pl,hz⟩:=I1.tuple hq;have hl:=rv.length;refine Rv.call pl (by simp;lia) ?_;have e1:((its.toArray.size:Nat):Int) - 1=(xs.length:Int) - 1 - ((0:Nat):Int):=by simp;lia
   have st:Rv.Is (s1.heap.push (Rv.obj a (((its.toArray.size:Nat):Int) - 1))) s1.heap.objs.size a ((xs.length:Int) - 1 - ((0:Nat):Int)):=⟨_,Oj _ rfl,rfl,by rw [<- e1];rfl⟩
   refine Rv.ZfV st ?_;refine ⟨s1.heap.objs.size,[s1.heap.objs.size],_,_,H1,rfl,I1.kept (t':=s1.toks+1+1) fun b o e=>Od _ e,ZkE a _ xs.length,⟨Nat.zero_le _,st⟩,fun b hb=>?_,q⟩;have e:b=s1.heap.objs.size:=by simpa using hb
   subst e;exact I1.fpOk (Oq _) (I1.hok.fresh (Oq _))
 . obtain ⟨its,rv,pl,hz⟩:=I1.list hq;have hl:=rv.length;refine call_reversed_list pl.isList ?_;have e1:((its.toArray.size:Nat):Int) - 1=(xs.length:Int) - 1 - ((0:Nat):Int):=by simp;lia
   have st:(s1.heap.push (revObj a (((its.toArray.size:Nat):Int) - 1))).IsRevIter s1.heap.objs.size a ((xs.length:Int) - 1 - ((0:Nat):Int)):=⟨_,Oj _ rfl,rfl,by rw [<- e1];rfl⟩
   refine wpAny_pyIter_revIter st ?_;refine ⟨s1.heap.objs.size,[s1.heap.objs.size],_,_,H1,rfl,I1.kept (t':=s1.toks) fun b o e=>Od _ e,ZjT a _ xs.length,⟨Nat.zero_le _,st⟩,fun b hb=>?_,q⟩;have e:b=s1.heap.objs.size:=by simpa using hb
   subst e;exact I1.fpOk (Oq _) (I1.hok.fresh (Oq _))
end L2
end
section
namespace L2
open PySem PySem.Spec PyProof.Rows
namespace Tx
noncomputable def place(x:Str):List Str->Option Nat
 | []=>none
 | y::r=>if y=x then some 0 else (place x r).map (·+1)
end Tx
end L2
namespace L2
open PySem PySem.Spec PyProof.Rows
noncomputable def Zet (K:PySem.W.Frag):Bool:=K.all fun p=>!decide (p.2.cls=.type "tuple") || p.2.dict.isNone
end L2
end
section
namespace L2
open PySem PySem.Spec PyProof.Rows
noncomputable def ZjZ(d:PyData):Bool:=isDisplay d&&(PyData.showable d&&(PyData.intsShort 13 d&&(decide (PyData.weight d<=2 ^ 20)&&decide (PyData.depth d<=1000))))
noncomputable def Zjd(K:PySem.W.Frag):List V->Hp->VK->Prop:=fun vs H Q=>∃ v d,vs=[v]/\Dp K H v d/\ZjZ d=true/\Q (.str d.shown) H
theorem Zku (hr:Room k X.A):Zae X (.builtin "repr") (Zjd X.K):=by
 intro pins s Z H vs us Q I r h;obtain ⟨v,d,rfl,hd,ho,q⟩:=h;obtain ⟨u,rfl,ru⟩:=vals1 r;obtain ⟨as,r1⟩:=I.reads hd ru;unfold ZjZ at ho;simp only [Oa,decide_eq_true_eq] at ho;obtain ⟨h1,h2,h3,h4,h5⟩:=ho;obtain ⟨a,rfl⟩:=isRef_of_reads r1 h1;have hz:d.shown.length<=sizeLine:=by
   have:=PyData.shown_le 13 (by decide) d (PyData.leavesShort_of_canLay0 13 d hd.lay h3);have e:(2:Nat) ^ 20=1048576:=by decide
   rw [sizeLine_eq]
   lia
 have:=hr.un;refine repr_of_reads' r1 h2 (PyData.noDict_hsm (PyData.hasDict_of_canLay d hd.lay)) hr.gd (by lia) (fun _ _ e=>e) (fun h' t tk hk=>?_) hz;exact ⟨.str d.shown,H,I.kept hk,⟨t,rfl⟩,q⟩
noncomputable def ZrJ(o:Bool):R2:=fun x y H Q=>∃ a b,x=.str a/\y=.str b/\Q (.bl (bif o then !decide (a=b) else decide (a=b))) H
theorem Zlq:∀ {o:Bool},OpR X (compareOp (bif o then .NotEq else .Eq)) (ZrJ o):=by
 intro o;intro pins s Z H x y v u Q I rx ry h;obtain ⟨a,b,rfl,rfl,q⟩:=h;obtain ⟨t,rfl⟩:=rx;obtain ⟨t',rfl⟩:=ry;cases o
 . exact eq_str (Zgs I q (by by_cases e:a=b<;>simp [e]))
 . exact ne_str (Zgs I q (congrArg not (by by_cases e:a=b<;>simp [e])))
end L2
end
section
namespace L2
open PySem PySem.Spec PyProof.Rows
structure XAs(K:PySem.W.Frag)(a b:Addr):Prop extends ExcN K a where
 sub:PySem.W.subIn K (.ref b) (.ref a)=some true
 at':ExcA K b
 one:PySem.W.kitOne K (.ref b) (.ref b)=some true
end L2
end
section
namespace L2
open PySem PySem.Spec PyProof.Rows
noncomputable def Zpb:List Nat->List (List Nat)
 | []=>[[]]
 | c::r=>if c=32 then []::Zpb r else match Zpb r with
   | []=>[[c]]
   | w::ws=>(c::w)::ws
noncomputable def Zss:List (List Nat)->List Nat
 | []=>[]
 | w::r=>match r with
   | []=>w
   | _::_=>w++32::Zss r
noncomputable def tx(l:List Nat):Str:=⟨l.toArray⟩
noncomputable def Zpa(x:Str):List Str:=(Zpb x.cps.toList).map tx
noncomputable def blk:Str:=O " "
noncomputable def Zsr(ss:List Str):Str:=tx (Zss (ss.map (·.cps.toList)))
end L2
end
section
namespace L2
open PySem PySem.Spec PyProof.Rows
noncomputable def ClV (mg:Str->Option Value) (W:Str) (v:Value):Prop:=(mg W=some v/\∃ a,v=.ref a)\/(W=O "ValueError" /\ mg W=none/\v=.type "ValueError")
end L2
end
section
namespace L2
open PySem PySem.Spec PyProof.Rows
noncomputable def KyS(K:PySem.W.Frag)(H:Hp)(b:Addr)(k:NK):Prop:=∃ c,SqT K H b [.int k.1,.ref c]/\SqT K H c (k.2.map .str)
theorem ZgN:∀ {ks:List Str}{us:List Value},Zf (ks.map V.str) us->ItemsAre (PySem.strKind P w) ks us
 | [],_,r=>by rw [Oy] at r;cases r;exact .nil
 | k::ks,_,r=>by
   rw [Op] at r;cases r with
   | cons h t =>
     obtain ⟨t',rfl⟩:=h;exact .cons (by show Value.isStrOf k (.str k t')=true;simp [Value.isStrOf]) (ZgN t)
noncomputable abbrev KN(K:PySem.W.Frag)(H:Hp):List (NK×V)->List (NK×Addr×Value)->Prop:=Paired fun p q=>p.1=q.1/\KyS K H q.2.1 p.1/\RelV p.2 q.2.2
theorem KN.val{K:PySem.W.Frag}(r:KN K H kvs xs)(k:NK):ZcA (ZaU kvs k) ((atKey xs k).map (·.2)):=by
 induction r with
 | nil=>exact True.intro
 | @cons p q ps qs h t ih =>
   obtain ⟨h1,_,h2⟩:=h;by_cases e:p.1=k
   . rw [Zer e,show atKey (q::qs) k=some q.2 by simp [atKey,List.find?_cons,h1.symm.trans e]];exact h2
   . have e':¬ q.1=k:=fun z=>e (h1.trans z);rw [Zes e,show atKey (q::qs) k=atKey qs k by simp [atKey,List.find?_cons,e']];exact ih
theorem KN.put{K:PySem.W.Frag}(r:KN K H kvs xs)(k:NK)(hb:KyS K H b k)(ry:RelV y u):KN K H (putK kvs k y) (storedH xs k b u):=by
 have e:(kvs.any fun kv=>decide (kv.1=k))=(atKey xs k).isSome:=by rw [ZgG,(r.val k).isSome_eq,Option.isSome_map]
 unfold putK storedH;rw [e];by_cases q:(atKey xs k).isSome=true
 . rw [if_pos q,if_pos q];clear e q;induction r with
   | nil=>exact .nil
   | @cons p q ps qs h t ih =>
     refine .cons ?_ ih;obtain ⟨h1,h2,h3⟩:=h;show (if p.1=k then (p.1,y) else p).1=(putAt k u q).1/\KyS K H (putAt k u q).2.1 (if p.1=k then (p.1,y) else p).1/\RelV (if p.1=k then (p.1,y) else p).2 (putAt k u q).2.2;unfold putAt;by_cases e:p.1=k
     . rw [if_pos e,if_pos (h1.symm.trans e)];exact ⟨h1,h2,ry⟩
     . rw [if_neg e,if_neg (fun z=>e (h1.trans z))];exact ⟨h1,h2,h3⟩
 . rw [if_neg q,if_neg q];exact Paired.snoc r ⟨rfl,hb,ry⟩
section
variable {X:Cx}{pins:List (Addr×Obj)}{Z:St}{H:Hp}{s:Shared}{a:Addr}
theorem Inv.nk(I:Inv X pins Z H s)(h:KyS X.K H b k):ZcB X.prog X.w s.heap k b:=by
 obtain ⟨c,h1,h2⟩:=h;obtain ⟨its,r,⟨o,e,cl,n,d⟩,_⟩:=I.tuple h1;obtain ⟨its2,r2,⟨o2,e2,cl2,n2,d2⟩,_⟩:=I.tuple h2;cases r with
 | cons ra t=>cases t with
   | cons rb t =>
     cases t;obtain ⟨t,rfl⟩:=ra;cases (show _=Value.ref c from rb);exact ⟨o,t,c,n,e,cl,d,o2,its2.toArray,n2,e2,cl2,d2,by simpa using ZgN r2⟩
theorem Inv.dn(I:Inv X pins Z H s)(h:H a=some (.dT xs))(r:KN X.K H kvs xs):xs.length<=sizeLine/\(a==sysModules)=false/\s.heap.DictOfH (ZcX X.prog X.w) a xs:=by
 obtain ⟨z,m,o,es,ep,e,ex,d,el,nd⟩:=(show ZH X.prog X.w H s.heap a (.dT xs) from I.hok a _ h)
 refine ⟨z,m,o,es,ep,e,ex,d,el,?_,nd⟩;clear h z e el nd;induction r with
 | nil=>intro x hx;exact nomatch hx
 | @cons p q ps qs hq t ih =>
   intro x hx;rcases O2.mp hx with rfl|hx
   . have:=I.nk hq.2.1;rw [hq.1] at this;exact this
   . exact ih x hx
theorem Zei(hr:Room k X.A):(ZcX X.prog X.w).room X.A.in1:=by
 have:=hr.un;show X.A.units+1+1<cLine
 lia
noncomputable def ZrK(K:PySem.W.Frag)(neg:Bool):R2:=fun x y H Q=>∃ a b kvs xs k,y=.ref a/\x=.ref b/\KyS K H b k/\H a=some (.dT xs)/\KN K H kvs xs/\Q (.bl (if neg then !(ZaU kvs k).isSome else (ZaU kvs k).isSome)) H
theorem ZpJ(hr:Room n X.A):OpR X (compareOp .In) (ZrK X.K false):=by
 intro pins s Z H x y v u Q I rx ry h;obtain ⟨a,b,kvs,xs,k,rfl,rfl,hb,ha,rel,q⟩:=h;cases rx;cases ry;obtain ⟨z,hm,dd⟩:=I.dn ha rel;refine wpAny_in_heap (knd:=ZcX X.prog X.w) (Zei hr) (I.nk hb) hm dd ?_;have e:=(rel.val k).isSome_eq;rw [Option.isSome_map] at e;rw [<- e];exact ⟨.bl _,H,I.tok _,rfl,q⟩
theorem Zj7(hr:Room n X.A):OpR X (compareOp .NotIn) (ZrK X.K true):=by
 intro pins s Z H x y v u Q I rx ry h;obtain ⟨a,b,kvs,xs,k,rfl,rfl,hb,ha,rel,q⟩:=h;cases rx;cases ry;obtain ⟨z,hm,dd⟩:=I.dn ha rel;refine wpAny_notIn_heap (knd:=ZcX X.prog X.w) (Zei hr) (I.nk hb) hm dd ?_;have e:=(rel.val k).isSome_eq;rw [Option.isSome_map] at e;rw [<- e];exact ⟨.bl _,H,I.tok _,rfl,q⟩
noncomputable def ZtW(K:PySem.W.Frag):R2:=fun x y H Q=>∃ a b kvs xs k v,x=.ref a/\y=.ref b/\KyS K H b k/\H a=some (.dT xs)/\KN K H kvs xs/\ZaU kvs k=some v/\Q v H
theorem Zst(hr:Room n X.A):IxR X (ZtW X.K):=by
 intro value slice pins s Z H x y v u Q I rx ry h hs;obtain ⟨a,b,kvs,xs,k,z,rfl,rfl,hb,ha,rel,hv,q⟩:=h;cases rx;cases ry;obtain ⟨_,hm,dd⟩:=I.dn ha rel;obtain ⟨w',hw,rw'⟩:=ZcA.some_of (v:=z) (o:=(atKey xs k).map (·.2)) (by rw [<- hv];exact rel.val k);obtain ⟨p,hp,hp2⟩:=Oo.mp hw;exact subscriptTail_builtinR (x:=w') dd.typeIs PySem.F.slot_dict_getitem.lookup (wpAny_getItem_heap (knd:=ZcX X.prog X.w) (Zei hr) (I.nk hb) dd hp (by rw [hp2];exact ⟨rfl,z,H,I.tok _,rw',q⟩)) hs
noncomputable def Zrz(K:PySem.W.Frag):Zkx:=fun o i v H Q=>∃ a b kvs xs k,o=.ref a/\i=.ref b/\KyS K H b k/\H a=some (.dT xs)/\KN K H kvs xs/\kvs.length<sizeLine/\∀ r,RelV v r->Q (upd H a (.dT (storedH xs k b r)))
theorem Zpg(hr:Room n X.A):Zky X (Zrz X.K):=by
 intro pins s Z H o i v ov iv u Q I ro ri rv h;obtain ⟨a,b,kvs,xs,k,rfl,rfl,hb,ha,rel,l,q⟩:=h;cases ro;cases ri;obtain ⟨z,hm,dd⟩:=I.dn ha rel;refine wpAny_setItem_heap (hsz:=z) (knd:=ZcX X.prog X.w) (Zei hr) (I.nk hb) dd fun h' dd' hs=>⟨_,?_,q u rv⟩
 obtain ⟨o',es,ep,hq,h2,h3,h4,_,h5⟩:=dd';have hl:(storedH xs k b u).length<=sizeLine:=by
   have e1:=Paired.length (rel.put (b:=b) (u:=u) k hb rv);have:=ZbZ kvs k v
   lia
 exact I.write (x:=a) (e:=a) (by rw [ha];exact True.intro) (.inl rfl) (fun c q hc z=>(hs.2 c hc).trans z) ⟨_,hq⟩ (show ZH X.prog X.w _ h' a (.dT (storedH xs k b u)) from ⟨hl,hm,o',es,ep,hq,h2,h3,h4,h5⟩)
noncomputable def Zo7:TE:=fun _ H Q=>∀ p,H p=none->Q (.ref p) (upd H p (.dT []))
theorem Zln:PE X (.Dict [] [] pos) Zo7:=fun pins s Z H Q I h =>
 wpAny_Dict_empty ⟨.ref s.heap.objs.size,_,I.laid (a:=s.heap.objs.size) (o:=.dT []) (t':=s.toks) (fun _ _ q=>Od _ q) (Oq _) (show ZH X.prog X.w _ _ _ (.dT []) from ⟨Nat.zero_le _,beq_eq_false_iff_ne.mpr (Ne.symm (Ou I.big)),_,#[],0,Oj _ rfl,⟨rfl,rfl,rfl⟩,rfl,rfl,List.nodup_nil⟩),rfl,h _ (I.hok.fresh (Oq _))⟩
end
end L2
end
section
namespace L2
open PySem PySem.Spec PyProof.Rows
open AutoSeq1 (wpAny_loadPart')
theorem range_any(bs:List Bool):(List.range bs.length).any (fun i=>bs.getD i false)=bs.any id:=by
 have:=range_all (bs.map fun b=>!b);rw [List.length_map] at this;have e1:(List.range bs.length).any (fun i=>bs.getD i false)=!((List.range bs.length).all fun i=>(bs.map fun b=>!b).getD i false):=by
   rw [List.not_all_eq_any_not,Bool.eq_iff_iff,List.any_eq_true,List.any_eq_true];have z:∀ i∈List.range bs.length,bs.getD i false=!((bs.map fun b=>!b).getD i false):=fun i hi=>by
     have hi:=List.mem_range.mp hi;rw [List.getD_eq_getElem?_getD,List.getD_eq_getElem?_getD,On,Og hi];simp
   exact ⟨fun ⟨i,hi,h⟩=>⟨i,hi,by rw [<- z i hi];exact h⟩,fun ⟨i,hi,h⟩=>⟨i,hi,by rw [z i hi];exact h⟩⟩
 rw [e1,this,List.not_all_eq_any_not,List.any_map];congr 1;funext b;cases b<;>rfl
section
variable {X:Cx}
theorem Zkv (hc:X.calm=true):Zae X (.builtin "any") (fun xs H Q=>∃ (a:Addr) (bs:List Bool),xs=[.ref a]/\SqL X.K H a (bs.map V.bl)/\Q (.bl (bs.any id)) H):=by
 intro pins s Z H xs us Q I r h;obtain ⟨a,bs,rfl,hx,q⟩:=h;obtain ⟨u,rfl,rx⟩:=vals1 r;obtain rfl:u=Value.ref a:=rx;obtain ⟨its,rv,pl,hz⟩:=I.list hx;have hlt:a<s.heap.objs.size:=by obtain ⟨_,_,e,_⟩:=pl;exact Heap.lt_size e
 have hl:its.length=bs.length:=by have:=rv.length;rw [List.length_map] at this;exact this.symm
 refine call_any_walk (wpAny_pyIter_list pl.isList ?_);refine ⟨s.heap.objs.size,_,_,_,_,_,fun i=>bs.getD i false,rfl,Walks.list (A:=X.A.in1) (show X.A.in1.handled=none from I.ok.hd hc) s.heap.objs.size a (Ou hlt) its.toArray,⟨⟨_,Oj _ rfl,rfl,rfl⟩,pl.isList.push _⟩,?_,fun h' tk hk=>?_⟩
 . intro i v s' Q' E' hv hq;have hv':its[i]? = some v:=by simpa using hv
   have hi:i<bs.length:=by rw [<- hl];exact (Ob.mp hv').1
   have hb:(bs.map V.bl)[i]? = some (.bl bs[i]):=by rw [On,Og hi]<;>rfl
   obtain ⟨u',e',r'⟩:=rv.get hb;rw [hv'] at e';cases e';obtain rfl:v=Value.bool bs[i]:=r';refine wpAny_truthy_bool ?_;have e:bs.getD i false=bs[i]:=by rw [List.getD_eq_getElem?_getD,Og hi]<;>rfl
   rw [<- e];exact hq
 . refine ⟨.bl (bs.any id),H,I.kept fun b o e=>hk b o (fun z=>?_) (Od _ e),?_,q⟩
   . have:b=s.heap.objs.size:=by simpa using z
     subst this;exact absurd (Heap.lt_size e) (Nat.lt_irrefl _)
   . rw [<- range_any];show Value.bool ((List.range its.toArray.size).any _)=_;rw [Of,hl]
theorem Zfy{prog:Program}{w:World}{A:Around}{E:Value->Shared->Prop}{s:Shared}{Q₁:Value->Shared->Prop}(K:PySem.W.KdlSrc prog w T r d n P OK)(hh:A.handled=none)(hok:OK s.heap)(hn:n<=sizeLine)
   (h:∀ (h':Heap) (tk:Nat) (acc:Array Value),s.heap.objs.size<=h'.objs.size->(∀ b o,s.heap.get? b=some o->h'.get? b=some o)->ItemsOf P acc n->Q₁ (.ref h'.objs.size) {s with heap:=h'.push {cls:=.type "tuple",data:=.seq acc},toks:=tk}) :
   codeAny (model prog w) A (.call (.builtin "tuple.__new__") ⟨[.type "tuple",.ref r],[]⟩) (wants Q₁ E) s:=by
 refine codeAny_of_tree ?_;show wpAny _ A.in1 (do checkBuiltinCall "tuple.__new__" ⟨[.type "tuple",.ref r],[]⟩;again (.builtin "tuple.__new__" ⟨[.type "tuple",.ref r],[]⟩)) _ _ s;refine wpAny_bind (wpAny_of_eq (PySem.F.newCall_tuple_1 _) (wpAny_pure ⟨plainId_quiet PySem.F.plain_tuple_new _,codeAny_builtin PySem.F.entry_tuple_new ?_⟩));rw [Around.under_plainId PySem.F.plain_tuple_new _];have hsub:=sub_tuple_self;have hinit:=init_tuple_lookup;have hmh:=madeHere_tuple;have hTI:=K.type s hok;have hh2:A.in1.handled=none:=hh;have hh3:A.in1.in1.handled=none:=hh;have nt:=K.notTuple
 wp_walk using wpAny_typeOf hTI,Zd0 K hh2 hok hn,Zd0 K hh3 hok hn
 intro h' tk acc hsz hk hacc;show wpAny _ _ (Builtin.Tuple.tupleExact acc.toList.toArray >>= fun v=>ret v) _ _ _;unfold Builtin.Tuple.tupleExact;refine wpAny_bind (wpAny_newObj_type ?_ (by show acc.toList.toArray.size<=sizeLine;simp only [Array.toArray_toList];rw [hacc.1];exact hn));refine wpAny_pure ?_;have e:acc.toList.toArray=acc:=by simp
 rw [e];exact h h' tk acc hsz hk hacc
theorem Zfj{prog:Program}{w:World}{A:Around}{E:Value->Shared->Prop}{s:Shared}{Q:Value->Shared->Prop}(K:PySem.W.KdlSrc prog w T r d n P OK)(hh:A.handled=none)(hok:OK s.heap)(hn:n<=sizeLine)
   (h:∀ (h':Heap) (tk:Nat) (acc:Array Value),s.heap.objs.size<=h'.objs.size->(∀ b o,s.heap.get? b=some o->h'.get? b=some o)->ItemsOf P acc n->Q (.ref h'.objs.size) {s with heap:=h'.push {cls:=.type "tuple",data:=.seq acc},toks:=tk}) :
   wpAny (model prog w) A (call (.type "tuple") [.ref r]) Q E s:=by
 refine callType_codes (Q₁:=fun obj s₁=>s₁.TypeIs obj "tuple" /\ Q obj s₁) PySem.F.called_tuple (PySem.F.typeCall_tuple_1 _) PySem.F.entry_object_init
   (Zfy K hh hok hn fun h' tk acc hsz hk hacc=>⟨⟨_,Oj _ rfl,rfl⟩,h h' tk acc hsz hk hacc⟩) fun obj s₁ h₁=>?_
 exact ⟨h₁.1,PySem.F.args_object_init_2 obj _,object_init_meets PySem.F.called_tuple.init.lookup PySem.F.called_tuple.made (by decide) prog w A.in1 _ s₁ ⟨h₁.1,rfl,h₁.2⟩⟩
noncomputable def ZmS(P:Program)(w:World)(K:PySem.W.Frag):List V->Hp->VK->Prop:=fun xs H Q=>∃ a kvs,∃ ss:List Str,xs=[.ref a]/\Dk P w K H a kvs/\kvs.map (·.1)=ss.map Sum.inr/\∀ p,H p=none->Q (.ref p) (upd H p (.tup (ss.map V.str)))
theorem Zhv (hc:X.A.handled=none):Zae X (.type "tuple") (ZmS X.prog X.w X.K):=by
 intro pins s Z H xs us Q I r h;obtain ⟨a,kvs,ss,rfl,hd,hks,q⟩:=h;obtain ⟨u,rfl,ru⟩:=vals1 r;cases ru;obtain ⟨z,hm,vs,rel,dd⟩:=I.dk hd;obtain ⟨ep,hat⟩:=dd.dictAt;have hl:vs.length=kvs.length:=(Paired.length rel).symm;have hl2:kvs.length=ss.length:=by
   have:=congrArg List.length hks;simpa using this
 have hkey:∀ (j:Nat) k x,vs[j]? = some (k,x)->∃ y,ss[j]? = some y/\k=Sum.inr y:=fun j k x e=>by
   have hj:j<vs.length:=(Ob.mp e).1;have h1:kvs[j]? = some kvs[j]:=Og (by lia);obtain ⟨u,hu,hu2⟩:=ZeJ rel h1;rw [e] at hu;cases hu;have h3:(kvs.map (·.1))[j]? = some kvs[j].1:=by rw [On,h1];rfl
   rw [hks,On] at h3;obtain ⟨y,hy,e3⟩:=Oo.mp h3;exact ⟨y,hy,hu2.1.symm.trans e3.symm⟩
 refine Zfj (PySem.W.kdl_dict (knd:=ZF X.prog X.w) (kvs:=vs) (ep:=ep) hm) hc hat (by lia) fun h' tk acc hsz hk hacc=>?_;have hS:=Zev (P:=X.prog) (w:=X.w) ss acc.toList (by rw [Array.length_toList,hacc.1];lia) fun j v hv=>by
   obtain ⟨k,x,e,hk2⟩:=hacc.2 j v (by rw [<- Array.getElem?_toList];exact hv);obtain ⟨y,hy,rfl⟩:=hkey j k x e;exact ⟨y,hy,hk2⟩
 have I1:=I.kept (t':=tk) hk;exact ⟨.ref h'.objs.size,_,I1.laid (a:=h'.objs.size) (o:=.tup (ss.map V.str)) (t':=tk) (fun b o e=>Od _ e) (Oq _) ⟨by simp;lia,acc.toList,ZfL hS,by rw [Array.toArray_toList];exact ZbJ.fresh _ _⟩,rfl,q _ (I1.hok.fresh (Oq _))⟩
end
end L2
end
section
set_option tactic.hygienic false
namespace IV
open PySem PySem.Spec PyProof.Rows L2
inductive D where
 | non|bl (b:Bool)|int (i:Int)|str (x:Str)|tup (xs:List D)|ref (i:Nat)|ty (n:String)
 | ro (xs:List D)|kd (x:Str)
inductive DO where
 | lst (xs:List D)|dic (kvs:List (Key×D))|ins (C:Str) (fs:List (Str×D))
 | fdic (kvs:List (Key×D))
 | dnk (kvs:List (NK×D))
noncomputable abbrev Hd:=List DO
inductive R(α:Type) where
 | bad|ok (a:α) (h:Hd)|exc (c:Str) (h:Hd)
noncomputable def R.bind(r:R α)(k:α->Hd->R β):R β:=match r with
 | .bad=>.bad
 | .ok a h=>k a h
 | .exc c h=>.exc c h
theorem R.bind_ok:(R.ok a h).bind k=k a h:=rfl
theorem R.bind_bad:(R.bad:R α).bind k=.bad:=rfl
noncomputable def R.ofO(o:Option α)(h:Hd):R α:=match o with
 | some a=>.ok a h
 | none=>.bad
theorem R.ofO_some:R.ofO (some a) h=.ok a h:=rfl
noncomputable abbrev Ev:=List (Option D)
inductive Bf where
 | len|isi|int|tup|lst|sum|all|srt|mx|sri|lnd|dct|ldk|sto|itx|anb|tdk
 deriving DecidableEq
inductive Mf where
 | app|ext|pop|rev|clr
 deriving DecidableEq
inductive Tf where
 | spl|joi
 deriving DecidableEq
mutual
inductive Ex where
 | var (i:Nat)|cst (d:D)|glo (x:Str)
 | bin (op:Operator) (a b:Ex)|cmp (op:CmpOp) (a b:Ex)|cmp2 (op op':CmpOp) (a b c:Ex)
 | neg (a:Ex)|nt (a:Ex)|ands (es:Exs)|ors (es:Exs)|ite (c:Tx) (a b:Ex)
 | tupl (es:Exs)|lstl (es:Exs)|ix (a i:Ex)|sl (a:Ex) (lo hi:Option Ex)
 | blt (f:Bf) (es:Exs)|call (f:Str) (es:Exs)|meth (m:Mf) (o:Ex) (es:Exs)
 | comp (NC:List Str) (js:List (Option Nat)) (it:Ix) (g:Tg) (c:Option Tx) (e:Ex)
 | sorts (e:Ex)|dictl (ps:Exs)|maxd (e d:Ex)
 | att (Cs:List Str) (o:Ex) (f:Str)|mk (C:Str) (es:Exs)|mcl (C m:Str) (o:Ex) (es:Exs)|any
 | trev (e:Ex)|tix (o e:Ex)|lrv (e:Ex)|lix (o e:Ex)|lin (a b:Ex)
 | rpn (o:Bool) (a b:Ex)
 | dne (a b:Ex)
 | tmt (m:Tf) (o e:Ex)|sin (a b:Ex)|lmu (a b:Ex)
 | nin (n:Bool) (a b:Ex)|nix (a b:Ex)|ndl
inductive Exs where
 | nil|cons (e:Ex) (es:Exs)
inductive Ix where
 | pl (e:Ex)|rng (e:Ex)|rng2 (a b:Ex)|enu (e:Ex)|rev (e:Ex)
 | en1 (e:Ex)|en0 (e:Ex)|dk (e:Ex)
 | zp (a b:Ex)
 | zl (a b:Ex)
 | tw (e:Ex)
inductive Tg where
 | nm (i:Nat)|two (i j:Nat)|many (is:List Nat)
inductive Tx where
 | ex (e:Ex)|ands (ts:Txs)|ors (ts:Txs)|nt (a:Tx)
inductive Txs where
 | one (t:Tx)|cons (t:Tx) (ts:Txs)
end
mutual
inductive Sx where
 | ret (e:Ex)|set (g:Tg) (e:Ex)|put (o i e:Ex)|aug (i:Nat) (op:Operator) (e:Ex)|drp (e:Ex)
 | iff (c:Tx) (a b:Sxs)|whl (c:Tx) (b:Sxs)|forr (g:Tg) (it:Ix) (b:Sxs)|pas|brk|cnt
 | seta (Cs:List Str) (o:Ex) (f:Str) (e:Ex)|auga (Cs:List Str) (o:Ex) (f:Str) (e:Ex)|any
 | rai (C:Str) (e:Ex)|trs (i:Nat) (f:Str) (es:Exs) (C:Str)
 | unl (i j:Nat) (e:Ex)
 | trw (i n:Nat) (f:Str) (es:Exs) (C W w:Str)
 | raf (C:Str) (e:Ex)|tre (i n:Nat) (f:Str) (es:Exs) (C:Str) (Ws:List Str) (bs:List (Str×List Bool))
 | npt (o i e:Ex)|trr (f:Str) (es:Exs) (C:Str) (b:Bool)
inductive Sxs where
 | nil|cons (s:Sx) (r:Sxs)
end
noncomputable instance:DecidableEq D:=fun a b=>Classical.propDecidable (a=b)
noncomputable instance:DecidableEq DO:=fun a b=>Classical.propDecidable (a=b)
mutual
noncomputable def D.py(rd:Nat->Option PyData):D->Option PyData
 | .non=>some .none
 | .bl b=>some (.bool b)
 | .int i=>some (.int i)
 | .str x=>some (.str x)
 | .tup xs=>(D.pys rd xs).map .tuple
 | .ro xs=>(D.pys rd xs).map .list
 | .ref i=>rd i
 | _=>none
noncomputable def D.pys(rd:Nat->Option PyData):List D->Option (List PyData)
 | []=>some []
 | x::xs=>(D.py rd x).bind fun d=>(D.pys rd xs).map fun ds=>d::ds
end
noncomputable def ZkW(h:Hd):Nat->Nat->Option PyData
 | 0,_=>none
 | n+1,i=>match h[i]? with
   | some (.lst xs)=>(D.pys (ZkW h n) xs).map .list
   | _=>none
noncomputable def ZgU(h:Hd)(d:D):Option PyData:=D.py (ZkW h 4) d
noncomputable def Zay(o:DO)(h:Hd):R D:=.ok (.ref h.length) (h++[o])
noncomputable def lstOf(d:D)(h:Hd):Option (List D):=match d with
 | .ref i=>match h[i]? with
   | some (.lst xs)=>some xs
   | _=>none
 | .ro xs=>some xs
 | _=>none
noncomputable def dicOf(GD:Str->Option (List (Key×D)))(d:D)(h:Hd):Option (List (Key×D)):=match d with
 | .ref i=>match h[i]? with
   | some (.dic kvs)=>some kvs
   | some (.fdic kvs)=>some kvs
   | _=>none
 | .kd x=>GD x
 | _=>none
noncomputable def keyOf:D->Option Key
 | .int i=>some (.inl i)
 | .str x=>some (.inr x)
 | _=>none
noncomputable def ZE(kvs:List (Key×D))(k:Key):Option D:=(kvs.find? fun p=>decide (p.1=k)).map (·.2)
noncomputable def putD(kvs:List (Key×D))(k:Key)(v:D):List (Key×D) :=
 if (kvs.any fun kv=>decide (kv.1=k))=true then kvs.map (fun kv=>if kv.1=k then (kv.1,v) else kv) else kvs++[(k,v)]
noncomputable def cutD(xs:List D)(lo hi:Option Int):List D:=(xs.drop (HT.sIx xs.length 0 lo)).take (HT.sIx xs.length xs.length hi - HT.sIx xs.length 0 lo)
noncomputable def D.flat:D->Bool
 | .int _|.str _|.bl _|.non=>true
 | _=>false
noncomputable def eqF:D->D->Bool
 | .int i,.int j=>i==j
 | .str i,.str j=>i==j
 | .non,.non=>true
 | .bl i,.bl j=>i==j
 | .int i,.bl j=>i==(if j then 1 else 0)
 | .bl i,.int j=>(if i then 1 else 0)==j
 | _,_=>false
noncomputable def ZcT(GD:Str->Option (List (Key×D)))(d:D)(h:Hd):Option Bool:=match d with
 | .non=>some false
 | .bl b=>some b
 | .int i=>some (i != 0)
 | .str x=>if x.length<=sizeLine then some (!(x.length==0)) else none
 | .tup xs=>some (!xs.isEmpty)
 | .ref i=>match h[i]? with
   | some (.lst xs)=>some (!xs.isEmpty)
   | some (.dic xs)=>some (!xs.isEmpty)
   | _=>none
 | .ro xs=>some (!xs.isEmpty)
 | _=>none
noncomputable def int2(x y:D)(k:Int->Int->R D):R D:=match x with
 | .int i=>match y with
   | .int j=>k i j
   | _=>.bad
 | _=>.bad
noncomputable def ZqU(x y:D)(h:Hd):R D:=match x with
 | .int i=>match y with
   | .int j=>.ok (.int (i+j)) h
   | _=>.bad
 | .str i=>match y with
   | .str j=>if i.length+j.length<=sizeLine then .ok (.str (i++j)) h else .bad
   | _=>.bad
 | .tup xs=>match y with
   | .tup ys=>if xs.length+ys.length<=sizeLine then .ok (.tup (xs++ys)) h else .bad
   | _=>.bad
 | .ref i=>match y with
   | .ref j=>match h[i]? with
     | some (.lst xs)=>match h[j]? with
       | some (.lst ys)=>if xs.length+ys.length<=sizeLine then Zay (.lst (xs++ys)) h else .bad
       | _=>.bad
     | _=>.bad
   | _=>.bad
 | _=>.bad
noncomputable def Zsc(x y:D)(h:Hd):R D:=match x with
 | .str z=>match y with
   | .int n=>if 0<=n/\n<=1000/\z.length<=1000 then .ok (.str (ZdF z n.toNat)) h else .bad
   | _=>.bad
 | x=>int2 x y fun i j=>if i.natAbs<2 ^ 2000/\j.natAbs<2 ^ 2000 then .ok (.int (i * j)) h else .bad
noncomputable def opB(op:Operator)(x y:D)(h:Hd):R D:=match op with
 | .Add=>ZqU x y h
 | .Sub=>int2 x y fun i j=>.ok (.int (i - j)) h
 | .Mult=>Zsc x y h
 | .Mod=>int2 x y fun i j=>if 0<j then .ok (.int (i % j)) h else .bad
 | .FloorDiv=>int2 x y fun i j=>if 0<j/\j<1073741824 then .ok (.int (i / j)) h else .bad
 | .Pow=>int2 x y fun i j=>if 0<=j/\j<=1000000/\i.natAbs<2 ^ 64 then .ok (.int (i ^ j.toNat)) h else .bad
 | _=>.bad
noncomputable def ZcV(neg:Bool)(x y:D)(h:Hd):R D:=match ZgU h x,ZgU h y with
 | some a,some b=>if min a.depth b.depth<=1100 then .ok (.bl (if neg then !PyData.eqv a b else PyData.eqv a b)) h else .bad
 | _,_=>.bad
noncomputable def seqOf(d:D)(h:Hd):Option (List D):=match d with
 | .tup xs=>some xs
 | d=>lstOf d h
noncomputable def Zbb(GD:Str->Option (List (Key×D)))(neg:Bool)(x y:D)(h:Hd):R D:=match seqOf y h with
 | some xs=>if x.flat&&xs.all D.flat then .ok (.bl (if neg then !xs.any (fun z=>eqF z x) else xs.any fun z=>eqF z x)) h else .bad
 | none=>match dicOf GD y h,keyOf x with
   | some kvs,some k=>.ok (.bl (if neg then !(ZE kvs k).isSome else (ZE kvs k).isSome)) h
   | _,_=>.bad
noncomputable def Zgi(f:Int->Int->Bool)(x y:D)(h:Hd):R D:=match x,y with
 | .int i,.int j=>.ok (.bl (f i j)) h
 | _,_=>.bad
noncomputable def opN(neg:Bool)(x y:D)(h:Hd):R D:=match y with
 | .non=>.ok (.bl (if neg then !decide (x=.non) else decide (x=.non))) h
 | _=>.bad
noncomputable def opC(GD:Str->Option (List (Key×D)))(op:CmpOp)(x y:D)(h:Hd):R D:=match op with
 | .Eq=>ZcV false x y h
 | .NotEq=>ZcV true x y h
 | .Lt=>Zgi (fun i j=>decide (i<j)) x y h
 | .LtE=>Zgi (fun i j=>decide (i<=j)) x y h
 | .Gt=>Zgi (fun i j=>decide (j<i)) x y h
 | .GtE=>Zgi (fun i j=>decide (j<=i)) x y h
 | .In=>Zbb GD false x y h
 | .NotIn=>Zbb GD true x y h
 | .Is=>opN false x y h
 | .IsNot=>opN true x y h
noncomputable def Zcs(GD:Str->Option (List (Key×D)))(x y:D)(h:Hd):R D:=match y with
 | .int i=>match seqOf x h with
   | some xs=>R.ofO (atI xs i) h
   | none=>match x with
     | .str z=>if z.length<=sizeLine then R.ofO ((atI z.cps.toList i).map fun c=>.str ⟨#[c]⟩) h else .bad
     | _=>match dicOf GD x h with
       | some kvs=>R.ofO (ZE kvs (.inl i)) h
       | none=>.bad
 | .str z=>match dicOf GD x h with
   | some kvs=>R.ofO (ZE kvs (.inr z)) h
   | none=>.bad
 | _=>.bad
noncomputable def ZgX(x:D)(l u:Option Int)(h:Hd):R D:=match x with
 | .tup xs=>.ok (.tup (cutD xs l u)) h
 | .str y=>if y.length<=sizeLine then .ok (.str (StrLaws.sliceText y l u)) h else .bad
 | d=>match lstOf d h with
   | some xs=>Zay (.lst (cutD xs l u)) h
   | none=>.bad
noncomputable def Zre(d:D)(h:Hd):Option String:=match d with
 | .int _=>some "int"
 | .str _=>some "str"
 | .bl _=>some "bool"
 | .non=>some "NoneType"
 | .tup _=>some "tuple"
 | d=>(lstOf d h).map fun _ => "list"
noncomputable def Zip (t T:String):Option Bool:=if T∈["int", "str", "bool", "tuple", "list"]/\t∈["int", "str", "bool", "tuple", "list", "NoneType"] then some (t==T || (t == "bool" && T == "int")) else none
noncomputable def intsOf:List D->Option (List Int)
 | []=>some []
 | .int i::r=>(intsOf r).map fun z=>i::z
 | _=>none
noncomputable def Zd2:List D->Option (List Bool)
 | []=>some []
 | .bl i::r=>(Zd2 r).map fun z=>i::z
 | _=>none
noncomputable def strsOf:List D->Option (List Str)
 | []=>some []
 | .str i::r=>(strsOf r).map fun z=>i::z
 | _=>none
noncomputable def Zah:List (Key×D)->Option (List Str)
 | []=>some []
 | (.inr x,_)::r=>(Zah r).map fun z=>x::z
 | _=>none
noncomputable def Zjy:List (Key×D)->Option (List Int)
 | []=>some []
 | (.inl x,_)::r=>(Zjy r).map fun z=>x::z
 | _=>none
noncomputable def ZrP(x:Int):List Int->List Int
 | []=>[x]
 | y::r=>if y<x then y::ZrP x r else x::y::r
noncomputable def Zox:List Int->List Int
 | []=>[]
 | x::r=>ZrP x (Zox r)
noncomputable def ZrQ(x:Str):List Str->List Str
 | []=>[x]
 | y::r=>if ltCps y.cps.toList x.cps.toList then y::ZrQ x r else x::y::r
noncomputable def ZkP:List Str->List Str
 | []=>[]
 | x::r=>ZrQ x (ZkP r)
noncomputable def ddS:List Str->List Str
 | []=>[]
 | x::r=>if x∈r then ddS r else x::ddS r
noncomputable def ZhM(xs:List D)(h:Hd):R D:=match xs with
 | [.str y]=>if y.length<=sizeLine then .ok (.int y.length) h else .bad
 | [d]=>R.ofO ((seqOf d h).map fun xs=>.int xs.length) h
 | _=>.bad
noncomputable def ZqN(xs:List D)(h:Hd):R D:=match xs with
 | [d,.ty T]=>R.ofO ((Zre d h).bind fun t=>(Zip t T).map .bl) h
 | _=>.bad
noncomputable def ZqO(xs:List D)(h:Hd):R D:=match xs with
 | [.int i]=>.ok (.int i) h
 | [.bl b]=>.ok (.int (if b then 1 else 0)) h
 | _=>.bad
noncomputable def Zmm(xs:List D)(h:Hd):R D:=match xs with
 | [.tup xs]=>.ok (.tup xs) h
 | [d]=>R.ofO ((lstOf d h).map .tup) h
 | _=>.bad
noncomputable def Zmq(xs:List D)(h:Hd):R D:=match xs with
 | [d]=>match seqOf d h with
   | some xs=>Zay (.lst xs) h
   | none=>.bad
 | _=>.bad
noncomputable def Zom(xs:List D)(h:Hd):R D:=match xs with
 | [d]=>R.ofO (((lstOf d h).bind intsOf).map fun ns=>.int ns.sum) h
 | _=>.bad
noncomputable def ZuA(xs:List D)(h:Hd):R D:=match xs with
 | [d]=>R.ofO (((lstOf d h).bind Zd2).map fun bs=>.bl (bs.all id)) h
 | _=>.bad
noncomputable def Zon(GD:Str->Option (List (Key×D)))(xs:List D)(h:Hd):R D:=match xs with
 | [d]=>match (dicOf GD d h).bind Zah with
   | some ss=>if ss.length<64/\ss.all PyData.strOk=true then Zay (.lst ((ZkP ss).map .str)) h else .bad
   | none=>.bad
 | _=>.bad
noncomputable def Zus(GD:Str->Option (List (Key×D)))(xs:List D)(h:Hd):R D:=match xs with
 | [d]=>match (dicOf GD d h).bind Zjy with
   | some ns=>if ns.length<64 then Zay (.lst ((Zox ns).map .int)) h else .bad
   | none=>.bad
 | _=>.bad
noncomputable def Zuu(GD:Str->Option (List (Key×D)))(xs:List D)(h:Hd):R D:=match xs with
 | [d]=>R.ofO ((dicOf GD d h).map fun kvs=>.int kvs.length) h
 | _=>.bad
noncomputable def Zuz(xs:List D)(h:Hd):R D:=match xs with
 | [.ref i]=>match h[i]? with
   | some (.dic kvs)=>Zay (.dic kvs) h
   | _=>.bad
 | _=>.bad
noncomputable def Zux(GD:Str->Option (List (Key×D)))(xs:List D)(h:Hd):R D:=match xs with
 | [d]=>match (dicOf GD d h).bind Zah with
   | some ss=>if ss.all PyData.strOk=true then Zay (.lst (ss.map .str)) h else .bad
   | none=>.bad
 | _=>.bad
noncomputable def Zur(xs:List D)(h:Hd):R D:=match xs with
 | [.int i]=>if i.natAbs.log2<1920/\PyData.strOk (Str.ofString (toString i))=true then .ok (.str (Str.ofString (toString i))) h else .bad
 | [.str y]=>.ok (.str y) h
 | _=>.bad
noncomputable def Zuy(xs:List D)(h:Hd):R D:=match xs with
 | [.str y]=>match PySem.intText? y with
   | some n=>if y.length<=640 then .ok (.int n) h else .bad
   | none=>.bad
 | _=>.bad
noncomputable def Zsy:D->Bool
 | .str _=>true
 | _=>false
noncomputable def txm(m:Tf)(x y:D)(h:Hd):R D:=match m,x with
 | .spl,.str a=>match y with
   | .str b=>if b=L2.blk/\a.length<=1000000/\(L2.Zpa a).length<=1000002/\(L2.Zpa a).all PyData.strOk=true then Zay (.lst ((L2.Zpa a).map .str)) h else .bad
   | _=>.bad
 | .joi,.str b=>match (lstOf y h).bind strsOf with
   | some ss=>if b=L2.blk/\JoinOk L2.blk ss=true/\PyData.strOk (L2.Zsr ss)=true then .ok (.str (L2.Zsr ss)) h else .bad
   | none=>.bad
 | _,_=>.bad
noncomputable def Zs0(x y:D)(h:Hd):R D:=match x,y with
 | .str a,.str b=>.ok (.bl (!(Builtin.Str.occurrences b a 0 b.length 1).isEmpty)) h
 | _,_=>.bad
noncomputable def Zs1(x y:D)(h:Hd):R D:=match x with
 | .ref i=>match y with
   | .int n=>match h[i]? with
     | some (.lst xs)=>if 0<=n/\n<=1000000/\xs.length * n.toNat<=1000000 then Zay (.lst (List.replicate n.toNat xs).flatten) h else .bad
     | _=>.bad
   | _=>.bad
 | _=>.bad
noncomputable def nkD:D->Option NK
 | .tup [.int n,.tup ss]=>(strsOf ss).map fun ss=>(n,ss)
 | _=>none
noncomputable def valN(kvs:List (NK×D))(k:NK):Option D:=(kvs.find? fun p=>decide (p.1=k)).map (·.2)
noncomputable def putN(kvs:List (NK×D))(k:NK)(v:D):List (NK×D) :=
 if (kvs.any fun kv=>decide (kv.1=k))=true then kvs.map (fun kv=>if kv.1=k then (kv.1,v) else kv) else kvs++[(k,v)]
noncomputable def Zkq(d:D)(h:Hd):Option (List (NK×D)):=match d with
 | .ref i=>match h[i]? with
   | some (.dnk kvs)=>some kvs
   | _=>none
 | _=>none
noncomputable def ZhL(n:Bool)(x y:D)(h:Hd):R D:=match Zkq y h with
 | some kvs=>match nkD x with
   | some k=>.ok (.bl (if n then !(valN kvs k).isSome else (valN kvs k).isSome)) h
   | none=>.bad
 | none=>.bad
noncomputable def Zmp(x y:D)(h:Hd):R D:=match Zkq x h with
 | some kvs=>match nkD y with
   | some k=>R.ofO (valN kvs k) h
   | none=>.bad
 | none=>.bad
noncomputable def Zmo(o i v:D)(h:Hd):R Unit:=match o with
 | .ref a=>match h[a]? with
   | some (.dnk kvs)=>match nkD i with
     | some k=>if kvs.length<sizeLine then .ok () (h.set a (.dnk (putN kvs k v))) else .bad
     | none=>.bad
   | _=>.bad
 | _=>.bad
noncomputable def ZqP(xs:List D)(h:Hd):R D:=match xs with
 | [d]=>R.ofO (((lstOf d h).bind Zd2).map fun bs=>.bl (bs.any id)) h
 | _=>.bad
noncomputable def Zmn(GD:Str->Option (List (Key×D)))(xs:List D)(h:Hd):R D:=match xs with
 | [d]=>match (dicOf GD d h).bind Zah with
   | some ss=>if ss.all PyData.strOk=true then .ok (.tup (ss.map .str)) h else .bad
   | none=>.bad
 | _=>.bad
noncomputable def ZtK(h:Hd)(o:Option D)(d:D):Bool:=decide (o=some d)&&match ZgU h d with
 | some p=>decide (p.depth<=60)&&PyData.eqv p p
 | none=>false
noncomputable def Zs2(GD:Str->Option (List (Key×D)))(x y:D)(h:Hd):R D:=match dicOf GD x h with
 | some k1=>match dicOf GD y h with
   | some k2=>if k1.length=k2.length/\(k1.all fun p=>ZtK h (ZE k2 p.1) p.2)=true then .ok (.bl false) h else .bad
   | none=>.bad
 | none=>.bad
noncomputable def ZoQ(x d:D)(h:Hd):R D:=match d with
 | .int d=>R.ofO (((lstOf x h).bind intsOf).map fun ns=>.int (Zsf ns d)) h
 | _=>.bad
noncomputable def bMx(xs:List D)(h:Hd):R D:=match xs with
 | [.int i,.int j]=>.ok (.int (if j > i then j else i)) h
 | [d]=>match (lstOf d h).bind intsOf with
   | some ns=>if ns≠[] then .ok (.int (Zsf ns 0)) h else .bad
   | none=>.bad
 | _=>.bad
noncomputable def Za9(GD:Str->Option (List (Key×D))):Bf->List D->Hd->R D
 | .len=>ZhM
 | .isi=>ZqN
 | .int=>ZqO
 | .tup=>Zmm
 | .lst=>Zmq
 | .sum=>Zom
 | .all=>ZuA
 | .srt=>Zon GD
 | .mx=>bMx
 | .sri=>Zus GD
 | .lnd=>Zuu GD
 | .dct=>Zuz
 | .ldk=>Zux GD
 | .sto=>Zur
 | .itx=>Zuy
 | .anb=>ZqP
 | .tdk=>Zmn GD
noncomputable def ZoP(x:D)(h:Hd):R D:=match x with
 | .tup (y::ys)=>.ok (.tup (y::ys).reverse) h
 | _=>.bad
noncomputable def Zut(x:D)(h:Hd):R D:=match x with
 | .tup ys=>Zay (.lst ys.reverse) h
 | _=>.bad
noncomputable def Zsx:D->Bool
 | .tup _=>true
 | _=>false
noncomputable def ZsZ(x y:D)(h:Hd):R D:=match x,y with
 | .tup xs,.str z=>match strsOf xs with
   | some ss=>R.ofO ((Tx.place z ss).map fun (j:Nat)=>.int (j:Int)) h
   | none=>.bad
 | _,_=>.bad
noncomputable def Zuv(x y:D)(h:Hd):R D:=match lstOf x h,y with
 | some xs,.str z=>match strsOf xs with
   | some ss=>R.ofO ((Tx.place z ss).map fun (j:Nat)=>.int (j:Int)) h
   | none=>.bad
 | _,_=>.bad
noncomputable def Zuw(x y:D)(h:Hd):R D:=match ZgU h x,ZgU h y with
 | some a,some (.list bs)=>if min (PyData.depthAll bs) a.depth<=1000 then .ok (.bl (bs.any fun b=>PyData.eqv b a)) h else .bad
 | _,_=>.bad
noncomputable def Zbv:List D->Option (List (Key×D))
 | []=>some []
 | k::v::r=>match keyOf k,Zbv r with
   | some k,some r=>some ((k,v)::r)
   | _,_=>none
 | _=>none
noncomputable def ZbW(kvs more:List (Key×D)):List (Key×D):=more.foldl (fun acc kv=>putD acc kv.1 kv.2) kvs
noncomputable def ZlH(i:Nat)(ys xs:List D)(h:Hd):R D:=match xs with
 | [d]=>if ys.length<sizeLine then .ok .non (h.set i (.lst (ys++[d]))) else .bad
 | _=>.bad
noncomputable def Zp1(i:Nat)(ys xs:List D)(h:Hd):R D:=match xs with
 | [.ref j]=>match h[j]? with
   | some (.lst zs)=>if ys.length+zs.length<=sizeLine then .ok .non (h.set i (.lst (ys++zs))) else .bad
   | _=>.bad
 | [.tup zs]=>if ys.length+zs.length<=sizeLine then .ok .non (h.set i (.lst (ys++zs))) else .bad
 | _=>.bad
noncomputable def ZnB(i:Nat)(ys xs:List D)(h:Hd):R D:=match xs with
 | []=>match ys[ys.length - 1]? with
   | some y=>.ok y (h.set i (.lst ys.dropLast))
   | none=>.bad
 | _=>.bad
noncomputable def Zp0(i:Nat)(ys xs:List D)(h:Hd):R D:=match xs with
 | []=>.ok .non (h.set i (.lst ys.reverse))
 | _=>.bad
noncomputable def Zsg(i:Nat)(ys xs:List D)(h:Hd):R D:=match xs with
 | []=>.ok .non (h.set i (.lst []))
 | _=>.bad
noncomputable def shD(x:D)(h:Hd):R Str:=match ZgU h x with
 | some d=>if L2.ZjZ d=true then .ok d.shown h else .bad
 | none=>.bad
noncomputable def Zd8:Mf->Nat->List D->List D->Hd->R D
 | .app=>ZlH
 | .ext=>Zp1
 | .pop=>ZnB
 | .rev=>Zp0
 | .clr=>Zsg
noncomputable def ZaY(m:Mf)(o:D)(xs:List D)(h:Hd):R D:=match o with
 | .ref i=>match h[i]? with
   | some (.lst ys)=>Zd8 m i ys xs h
   | _=>.bad
 | _=>.bad
noncomputable def Zdg(o:D)(h:Hd):Bool:=match o with
 | .ref i=>match h[i]? with
   | some (.lst _)=>true
   | _=>false
 | _=>false
noncomputable def ZeE(o i v:D)(h:Hd):R Unit:=match o with
 | .ref a=>match h[a]? with
   | some (.lst xs)=>match i with
     | .int k=>match ixN xs.length k with
       | some j=>.ok () (h.set a (.lst (xs.set j v)))
       | none=>.bad
     | _=>.bad
   | some (.dic kvs)=>match keyOf i with
     | some k=>if kvs.length<sizeLine then .ok () (h.set a (.dic (putD kvs k v))) else .bad
     | none=>.bad
   | _=>.bad
 | _=>.bad
structure Wk where
 src:List (Nat×List D)
 xs:List D
noncomputable def Wk.stays:List (Nat×List D)->Hd->Bool
 | [],_=>true
 | (i,xs)::r,h=>decide (h[i]? = some (.lst xs))&&Wk.stays r h
noncomputable def Zeq(d:D)(h:Hd):Option Wk:=match d with
 | .tup xs=>some ⟨[],xs⟩
 | .ro xs=>some ⟨[],xs⟩
 | .ref i=>match h[i]? with
   | some (.lst xs)=>some ⟨[(i,xs)],xs⟩
   | _=>none
 | _=>none
noncomputable def ZgF(d:D)(h:Hd):Option Wk:=match d with
 | .ro xs=>some ⟨[],xs⟩
 | .ref i=>match h[i]? with
   | some (.lst xs)=>some ⟨[(i,xs)],xs⟩
   | _=>none
 | _=>none
noncomputable def ZiU(d:D)(h:Hd):Option Wk:=match d with
 | .tup xs=>some ⟨[],xs⟩
 | .ref i=>match h[i]? with
   | some (.lst xs)=>some ⟨[(i,xs)],xs⟩
   | _=>none
 | _=>none
noncomputable def Z6(lo:Int)(n:Nat):List D:=(List.range n).map fun (k:Nat)=>.int (lo+(k:Int))
noncomputable def Zl9(xs:List D):List D:=xs.mapIdx fun k x=>.tup [.int (k:Int),x]
noncomputable def ZqF(xs:List D):List D:=xs.mapIdx fun k x=>.tup [.int ((k+1:Nat):Int),x]
noncomputable def Zq3(xs ys:List D):List D:=List.zipWith (fun x y=>.tup [x,y]) xs ys
noncomputable def Zsq:Key->D
 | .inl i=>.int i
 | .inr x=>.str x
noncomputable def zpD(x y:D)(h:Hd):R Wk:=match x with
 | .tup xs=>match y with
   | .tup ys=>if xs.length=ys.length then .ok ⟨[],Zq3 xs ys⟩ h else .bad
   | _=>.bad
 | _=>.bad
noncomputable def zlD(x y:D)(h:Hd):R Wk:=match x with
 | .ref i=>match y with
   | .ref j=>match h[i]? with
     | some (.lst xs)=>match h[j]? with
       | some (.lst ys)=>if xs.length<=ys.length then .ok ⟨[(i,xs),(j,ys)],Zq3 xs ys⟩ h else .bad
       | _=>.bad
     | _=>.bad
   | _=>.bad
 | _=>.bad
noncomputable def Zua(x:D)(h:Hd):R Wk:=match x with
 | .ref i=>match h[i]? with
   | some (.dic kvs)=>.ok ⟨[],kvs.map fun p=>Zsq p.1⟩ (h.set i (.fdic kvs))
   | some (.fdic kvs)=>.ok ⟨[],kvs.map fun p=>Zsq p.1⟩ h
   | _=>.bad
 | _=>.bad
noncomputable def ZaR(i:Int):Bool:=decide (-(2 ^ 62)<=i)&&decide (i<2 ^ 62)
noncomputable def ZhY:List Nat->List D->Ev->Ev
 | i::is,x::xs,S=>ZhY is xs (S.set i (some x))
 | _,_,S=>S
noncomputable def Za1(g:Tg)(d:D)(S:Ev):Option Ev:=match g with
 | .nm i=>some (S.set i (some d))
 | .two i j=>match d with
   | .tup [a,b]=>some ((S.set i (some a)).set j (some b))
   | _=>none
 | .many is=>match d with
   | .tup xs=>if xs.length=is.length then some (ZhY is xs S) else none
   | _=>none
noncomputable def Zdr(js:List (Option Nat))(S:Ev):Ev:=js.map fun o=>o.bind fun j=>(S[j]?).join
inductive Fl where
 | nx|bk|ct|rt (d:D)
noncomputable def Z9(src:List (Nat×List D))(g:Tg)(body:Ev->Hd->R (Fl×Ev)):List D->Ev->Hd->R (Fl×Ev)
 | [],S,h=>if Wk.stays src h then .ok (.nx,S) h else .bad
 | d::ds,S,h=>if Wk.stays src h then match Za1 g d S with
     | none=>.bad
     | some ρ1=>(body ρ1 h).bind fun p h2=>match p with
       | (.nx,ρ2)=>Z9 src g body ds ρ2 h2
       | (.ct,ρ2)=>Z9 src g body ds ρ2 h2
       | (.bk,ρ2)=>.ok (.nx,ρ2) h2
       | (.rt d,ρ2)=>.ok (.rt d,ρ2) h2
   else .bad
noncomputable def ZO(test:Ev->Hd->R Bool)(body:Ev->Hd->R (Fl×Ev)):Nat->Ev->Hd->R (Fl×Ev)
 | 0,_,_=>.bad
 | n+1,S,h=>(test S h).bind fun b h1=>if b then (body S h1).bind fun p h2=>match p with
     | (.nx,ρ2)=>ZO test body n ρ2 h2
     | (.ct,ρ2)=>ZO test body n ρ2 h2
     | (.bk,ρ2)=>.ok (.nx,ρ2) h2
     | (.rt d,ρ2)=>.ok (.rt d,ρ2) h2
   else .ok (.nx,S) h1
@[reducible] def R.plain:R α->R α
 | .exc _ _=>.bad
 | r=>r
noncomputable def ZM(src:List (Nat×List D))(g:Tg)(test:Ev->Hd->R Bool)(elt:Ev->Hd->R D):List D->Ev->List D->Hd->R (List D)
 | [],_,acc,h=>if Wk.stays src h then .ok acc h else .bad
 | d::ds,S,acc,h=>if Wk.stays src h/\acc.length<sizeLine then match Za1 g d S with
     | none=>.bad
     | some ρ1=>(test ρ1 h).plain.bind fun b h1=>if b then (elt ρ1 h1).plain.bind fun x h2=>ZM src g test elt ds S (acc++[x]) h2 else ZM src g test elt ds S acc h1
   else .bad
noncomputable def catchR(C:Str)(b:Bool)(S:Ev)(r:R D):R (Fl×Ev):=match r with
 | .ok _ h=>.ok (.nx,S) h
 | .exc c h=>if c=C then .ok (.rt (.bl b),S) h else .bad
 | .bad=>.bad
noncomputable def ZqI(C:Str)(i:Nat)(S:Ev)(r:R D):R (Fl×Ev):=match r with
 | .bad=>.bad
 | .ok v h=>.ok (.nx,S.set i (some v)) h
 | .exc c h=>if c=C then .ok (.nx,S.set i (some .non)) h else .bad
noncomputable def ZqG(W w:Str)(i n:Nat)(S:Ev)(r:R D):R (Fl×Ev):=match r with
 | .bad=>.bad
 | .ok v h=>.ok (.nx,S.set i (some v)) h
 | .exc c h=>if c=W then .ok (.nx,((S.set n none).set i (some (.ref h.length))).set n none) (h++[.lst [.str w,.bl true]]) else .bad
noncomputable def ZqH(bs:List (Str×List Bool))(i n:Nat)(S:Ev)(r:R D):R (Fl×Ev):=match r with
 | .bad=>.bad
 | .ok _ h=>.ok (.nx,S) h
 | .exc c h=>match bs.lookup c with
   | some l=>.ok (.nx,((S.set n none).set i (some (.ref h.length))).set n none) (h++[.lst (l.map .bl)])
   | none=>.bad
noncomputable def ZtO(C:Str)(x:D)(h:Hd):R (Fl×Ev):=match x with
 | .str y=>if y.length<=50000 then .exc C h else .bad
 | _=>.bad
noncomputable def mnm (C m:Str):Str:=C++(O "." ++ m)
noncomputable def Zai(d:D)(h:Hd):Option (Str×List (Str×D)):=match d with
 | .ref i=>match h[i]? with
   | some (.ins C fs)=>some (C,fs)
   | _=>none
 | _=>none
noncomputable def Ze1(Cs:List Str)(f:Str)(x:D)(h:Hd):R D:=match Zai x h with
 | some (C,fs)=>if C∈Cs then R.ofO (fs.lookup f) h else .bad
 | none=>.bad
noncomputable def Zgc(f:Str)(v:D):List (Str×D)->List (Str×D)
 | []=>[(f,v)]
 | (g,x)::r=>if g=f then (g,v)::r else (g,x)::Zgc f v r
noncomputable def ZhZ(Cs:List Str)(f:Str)(x d:D)(h:Hd):R D:=match x with
 | .ref i=>match h[i]? with
   | some (.ins C fs)=>if C∈Cs/\fs.length<1000 then .ok .non (h.set i (.ins C (Zgc f d fs))) else .bad
   | _=>.bad
 | _=>.bad
noncomputable def ZlB (Cf:Str->List D->Hd->R D) (C:Str) (xs:List D) (h:Hd):R D:=(Cf (mnm C (O "__init__")) (.ref h.length::xs) (h++[.ins C []])).bind fun d h2=>match d with
 | .non=>.ok (.ref h.length) h2
 | _=>.bad
structure Tb where
 G:Str->Option D
 GD:Str->Option (List (Key×D))
 C:Str->List D->Hd->R D
 L:Nat
mutual
noncomputable def ev(T:Tb):Ex->Ev->Hd->R D
 | .var i,S,h=>R.ofO (S[i]?).join h
 | .cst d,_,h=>.ok d h
 | .glo x,_,h=>R.ofO (T.G x) h
 | .bin op a b,S,h=>(ev T a S h).bind fun x h1=>(ev T b S h1).bind fun y h2=>opB op x y h2
 | .cmp op a b,S,h=>(ev T a S h).bind fun x h1=>(ev T b S h1).bind fun y h2=>opC T.GD op x y h2
 | .cmp2 op op' a b c,S,h=>(ev T a S h).bind fun x h1=>(ev T b S h1).bind fun y h2=>(opC T.GD op x y h2).bind fun r h3=>match r with
   | .bl true=>(ev T c S h3).bind fun z h4=>opC T.GD op' y z h4
   | .bl false=>.ok (.bl false) h3
   | _=>.bad
 | .neg a,S,h=>(ev T a S h).bind fun x h1=>match x with
   | .int i=>.ok (.int (-i)) h1
   | _=>.bad
 | .nt a,S,h=>(ev T a S h).bind fun x h1=>match x with
   | .bl b=>.ok (.bl (!b)) h1
   | _=>.bad
 | .ands es,S,h=>evAnd T es S h
 | .ors es,S,h=>evOr T es S h
 | .ite c a b,S,h=>(tst T c S h).bind fun c h1=>if c then ev T a S h1 else ev T b S h1
 | .tupl es,S,h=>(evs T es S h).bind fun xs h1=>if xs.length<=sizeLine then .ok (.tup xs) h1 else .bad
 | .lstl es,S,h=>(evs T es S h).bind fun xs h1=>if xs.length<=sizeLine then Zay (.lst xs) h1 else .bad
 | .ix a i,S,h=>(ev T a S h).bind fun x h1=>(ev T i S h1).bind fun y h2=>Zcs T.GD x y h2
 | .sl a lo hi,S,h=>(ev T a S h).bind fun x h1=>(evo T lo S h1).bind fun l h2=>(evo T hi S h2).bind fun u h3=>ZgX x l u h3
 | .blt f es,S,h=>(evs T es S h).bind fun xs h1=>Za9 T.GD f xs h1
 | .call f es,S,h=>(evs T es S h).bind fun xs h1=>T.C f xs h1
 | .meth m o es,S,h=>(ev T o S h).bind fun x h1=>if Zdg x h1 then (evs T es S h1).bind fun xs h2=>ZaY m x xs h2 else .bad
 | .comp _ js it g c e,S,h=>(evi T it S h).bind fun w h1=>(ZM w.src g (tsto T c) (ev T e) w.xs (Zdr js S) [] h1).bind fun xs h2=>Zay (.lst xs) h2
 | .sorts e,S,h=>(ev T e S h).bind fun x h1=>match (lstOf x h1).bind strsOf with
   | some ss=>if ss.length<4000/\(ddS ss).length<64/\ss.all PyData.strOk=true then Zay (.lst ((ZkP (ddS ss)).map .str)) h1 else .bad
   | none=>.bad
 | .maxd e d,S,h=>(ev T e S h).bind fun x h1=>(ev T d S h1).bind fun y h2=>ZoQ x y h2
 | .dictl ps,S,h=>(evs T ps S h).bind fun xs h1=>match Zbv xs with
   | some kvs=>if kvs.length<=15 then Zay (.dic (ZbW [] kvs)) h1 else .bad
   | none=>.bad
 | .att Cs o f,S,h=>(ev T o S h).bind fun x h1=>Ze1 Cs f x h1
 | .mk C es,S,h=>(evs T es S h).bind fun xs h1=>ZlB T.C C xs h1
 | .mcl C m o es,S,h=>(ev T o S h).bind fun x h1=>match Zai x h1 with
   | some (C',fs)=>if C'=C/\fs.lookup m=none then (evs T es S h1).bind fun xs h2=>T.C (mnm C m) (x::xs) h2 else .bad
   | none=>.bad
 | .any,_,_=>.bad
 | .trev e,S,h=>(ev T e S h).bind fun x h1=>ZoP x h1
 | .lrv e,S,h=>(ev T e S h).bind fun x h1=>Zut x h1
 | .tix o e,S,h=>(ev T o S h).bind fun x h1=>if Zsx x then (ev T e S h1).bind fun y h2=>ZsZ x y h2 else .bad
 | .lix o e,S,h=>(ev T o S h).bind fun x h1=>if Zdg x h1 then (ev T e S h1).bind fun y h2=>Zuv x y h2 else .bad
 | .lin a b,S,h=>(ev T a S h).bind fun x h1=>(ev T b S h1).bind fun y h2=>Zuw x y h2
 | .tmt m o e,S,h=>(ev T o S h).bind fun x h1=>if Zsy x then (ev T e S h1).bind fun y h2=>txm m x y h2 else .bad
 | .lmu a b,S,h=>(ev T a S h).bind fun x h1=>(ev T b S h1).bind fun y h2=>Zs1 x y h2
 | .sin a b,S,h=>(ev T a S h).bind fun x h1=>(ev T b S h1).bind fun y h2=>Zs0 x y h2
 | .nin n a b,S,h=>(ev T a S h).bind fun x h1=>(ev T b S h1).bind fun y h2=>ZhL n x y h2
 | .nix a b,S,h=>(ev T a S h).bind fun x h1=>(ev T b S h1).bind fun y h2=>Zmp x y h2
 | .ndl,_,h=>Zay (.dnk []) h
 | .dne a b,S,h=>(ev T a S h).bind fun x h1=>(ev T b S h1).bind fun y h2=>Zs2 T.GD x y h2
 | .rpn o a b,S,h=>(ev T a S h).bind fun x h1=>(shD x h1).bind fun p h1=>(ev T b S h1).bind fun y h2=>(shD y h2).bind fun q h3=>.ok (.bl (bif o then !decide (p=q) else decide (p=q))) h3
noncomputable def evs(T:Tb):Exs->Ev->Hd->R (List D)
 | .nil,_,h=>.ok [] h
 | .cons e es,S,h=>(ev T e S h).bind fun x h1=>(evs T es S h1).bind fun xs h2=>.ok (x::xs) h2
noncomputable def evAnd(T:Tb):Exs->Ev->Hd->R D
 | .nil,_,_=>.bad
 | .cons e es,S,h=>match es with
   | .nil=>ev T e S h
   | .cons _ _=>(ev T e S h).bind fun x h1=>match x with
     | .bl true=>evAnd T es S h1
     | .bl false=>.ok (.bl false) h1
     | _=>.bad
noncomputable def evOr(T:Tb):Exs->Ev->Hd->R D
 | .nil,_,_=>.bad
 | .cons e es,S,h=>match es with
   | .nil=>ev T e S h
   | .cons _ _=>(ev T e S h).bind fun x h1=>match x with
     | .bl true=>.ok (.bl true) h1
     | .bl false=>evOr T es S h1
     | _=>.bad
noncomputable def evo(T:Tb):Option Ex->Ev->Hd->R (Option Int)
 | none,_,h=>.ok none h
 | some e,S,h=>(ev T e S h).bind fun x h1=>match x with
   | .int i=>.ok (some i) h1
   | _=>.bad
noncomputable def tst(T:Tb):Tx->Ev->Hd->R Bool
 | .ex e,S,h=>(ev T e S h).bind fun x h1=>R.ofO (ZcT T.GD x h1) h1
 | .ands ts,S,h=>tstAnd T ts S h
 | .ors ts,S,h=>tstOr T ts S h
 | .nt a,S,h=>(tst T a S h).bind fun c h1=>.ok (!c) h1
noncomputable def tstAnd(T:Tb):Txs->Ev->Hd->R Bool
 | .one t,S,h=>tst T t S h
 | .cons t ts,S,h=>(tst T t S h).bind fun c h1=>if c then tstAnd T ts S h1 else .ok false h1
noncomputable def tstOr(T:Tb):Txs->Ev->Hd->R Bool
 | .one t,S,h=>tst T t S h
 | .cons t ts,S,h=>(tst T t S h).bind fun c h1=>if c then .ok true h1 else tstOr T ts S h1
noncomputable def tsto(T:Tb):Option Tx->Ev->Hd->R Bool
 | none,_,h=>.ok true h
 | some e,S,h=>tst T e S h
noncomputable def evi(T:Tb):Ix->Ev->Hd->R Wk
 | .pl e,S,h=>(ev T e S h).bind fun x h1=>R.ofO (Zeq x h1) h1
 | .rng e,S,h=>(ev T e S h).bind fun x h1=>match x with
   | .int j=>if ZaR j then .ok ⟨[],Z6 0 j.toNat⟩ h1 else .bad
   | _=>.bad
 | .rng2 a b,S,h=>(ev T a S h).bind fun x h1=>(ev T b S h1).bind fun y h2=>match x,y with
   | .int i,.int j=>if ZaR i&&ZaR j then .ok ⟨[],Z6 i (j - i).toNat⟩ h2 else .bad
   | _,_=>.bad
 | .enu e,S,h=>(ev T e S h).bind fun x h1=>R.ofO ((ZgF x h1).map fun w=>⟨w.src,Zl9 w.xs⟩) h1
 | .rev e,S,h=>(ev T e S h).bind fun x h1=>R.ofO ((ZiU x h1).map fun w=>⟨w.src,w.xs.reverse⟩) h1
 | .en1 e,S,h=>(ev T e S h).bind fun x h1=>match x with
   | .tup xs=>.ok ⟨[],ZqF xs⟩ h1
   | _=>.bad
 | .en0 e,S,h=>(ev T e S h).bind fun x h1=>match x with
   | .tup xs=>.ok ⟨[],Zl9 xs⟩ h1
   | _=>.bad
 | .dk e,S,h=>(ev T e S h).bind fun x h1=>Zua x h1
 | .zp a b,S,h=>(ev T a S h).bind fun x h1=>(ev T b S h1).bind fun y h2=>zpD x y h2
 | .tw e,S,h=>(ev T e S h).bind fun x h1=>match x with
   | .str y=>.ok ⟨[],y.cps.toList.map fun c=>.str ⟨#[c]⟩⟩ h1
   | _=>.bad
 | .zl a b,S,h=>(ev T a S h).bind fun x h1=>(ev T b S h1).bind fun y h2=>zlD x y h2
end
noncomputable def Ztq(i j:Nat)(S:Ev)(x:D)(h:Hd):R (Fl×Ev):=match lstOf x h with
 | some [a,b]=>.ok (.nx,(S.set i (some a)).set j (some b)) h
 | _=>.bad
mutual
noncomputable def xs1(T:Tb):Sx->Ev->Hd->R (Fl×Ev)
 | .ret e,S,h=>(ev T e S h).bind fun x h1=>.ok (.rt x,S) h1
 | .set g e,S,h=>(ev T e S h).bind fun x h1=>(R.ofO (Za1 g x S) h1).bind fun ρ1 h2=>.ok (.nx,ρ1) h2
 | .put o i e,S,h=>(ev T e S h).bind fun x h1=>(ev T o S h1).bind fun y h2=>(ev T i S h2).bind fun z h3=>(ZeE y z x h3).bind fun _ h4=>.ok (.nx,S) h4
 | .aug i op e,S,h=>(R.ofO (S[i]?).join h).bind fun x h1=>(ev T e S h1).bind fun y h2=>match op,x,y with
   | .Add,.int a,.int b=>.ok (.nx,S.set i (some (.int (a+b)))) h2
   | _,_,_=>.bad
 | .drp e,S,h=>(ev T e S h).bind fun _ h1=>.ok (.nx,S) h1
 | .iff c a b,S,h=>(tst T c S h).bind fun t h1=>if t then xs2 T a S h1 else xs2 T b S h1
 | .whl c b,S,h=>ZO (tst T c) (xs2 T b) T.L S h
 | .forr g it b,S,h=>(evi T it S h).bind fun w h1=>Z9 w.src g (xs2 T b) w.xs S h1
 | .pas,S,h=>.ok (.nx,S) h
 | .brk,S,h=>.ok (.bk,S) h
 | .cnt,S,h=>.ok (.ct,S) h
 | .seta Cs o f e,S,h=>(ev T e S h).bind fun d h1=>(ev T o S h1).bind fun x h2=>(ZhZ Cs f x d h2).bind fun _ h3=>.ok (.nx,S) h3
 | .auga Cs o f e,S,h=>(ev T o S h).bind fun x h1=>(Ze1 Cs f x h1).bind fun v h2=>(ev T e S h2).bind fun y h3=>match v,y with
   | .int a,.int b=>if (Zai x h1).map (·.1)=(Zai x h3).map (·.1) then (ZhZ Cs f x (.int (a+b)) h3).bind fun _ h4=>.ok (.nx,S) h4 else .bad
   | _,_=>.bad
 | .any,_,_=>.bad
 | .rai C e,S,h=>(ev T e S h).bind fun _ h1=>.exc C h1
 | .trs i f es C,S,h=>(evs T es S h).plain.bind fun xs h1=>ZqI C i S (T.C f xs h1)
 | .unl i j e,S,h=>(ev T e S h).bind fun x h1=>Ztq i j S x h1
 | .raf C e,S,h=>(ev T e S h).bind fun x h1=>ZtO C x h1
 | .tre i n f es _ _ bs,S,h=>(evs T es S h).plain.bind fun xs h1=>ZqH bs i n S (T.C f xs h1)
 | .npt o i e,S,h=>(ev T e S h).bind fun x h1=>(ev T o S h1).bind fun y h2=>(ev T i S h2).bind fun z h3=>(Zmo y z x h3).bind fun _ h4=>.ok (.nx,S) h4
 | .trr f es C b,S,h=>(evs T es S h).plain.bind fun xs h1=>catchR C b S (T.C f xs h1)
 | .trw i n f es _ W w,S,h=>(evs T es S h).plain.bind fun xs h1=>ZqG W w i n S (T.C f xs h1)
noncomputable def xs2(T:Tb):Sxs->Ev->Hd->R (Fl×Ev)
 | .nil,S,h=>.ok (.nx,S) h
 | .cons s r,S,h=>(xs1 T s S h).bind fun p h1=>match p with
   | (.nx,ρ1)=>xs2 T r ρ1 h1
   | p=>.ok p h1
end
structure Fd where
 ps:List Str
 N:List Str
 body:Sxs
structure Pg where
 tb:List (Str×Fd)
 G:Str->Option D
 GD:Str->Option (List (Key×D))
 L:Nat
 ms:List (Str×Fd):=[]
noncomputable def Pg.look(P:Pg)(f:Str):Option Fd:=match P.tb.lookup f with
 | some fd=>some fd
 | none=>P.ms.lookup f
noncomputable def Z7(N:List Str)(ds:List D):Ev:=ds.map some++List.replicate (N.length - ds.length) none
noncomputable def Zh:R (Fl×Ev)->R D
 | .ok (.rt d,_) h=>.ok d h
 | .ok (.nx,_) h=>.ok .non h
 | .exc c h=>.exc c h
 | _=>.bad
noncomputable def run(P:Pg):Nat->Str->List D->Hd->R D
 | 0,_,_,_=>.bad
 | n+1,f,ds,h=>match P.look f with
   | none=>.bad
   | some fd=>if ds.length=fd.ps.length then Zh (xs2 ⟨P.G,P.GD,run P n,P.L⟩ fd.body (Z7 fd.N ds) h) else .bad
noncomputable def Pg.tbl(P:Pg)(n:Nat):Tb:=⟨P.G,P.GD,run P n,P.L⟩
end IV
end
section
set_option tactic.hygienic false
namespace IV
open PySem PySem.Spec PyProof.Rows L2
noncomputable def FzL(K:PySem.W.Frag)(H:Hp)(a:Addr)(xs:List V):Prop :=
 (∃ o,H a=some (.frz o (.lst xs)))\/∃ (o:Obj) (its:Array Value) (n:Nat),K.lookup a=some o/\o.cls=.type "list" /\ o.dict=none/\o.data=.seq its n/\its.size<=sizeLine/\Zf xs its.toList
theorem FzL.sq{K:PySem.W.Frag}(h:FzL K H a xs):SqL K H a xs:=h.elim (fun ⟨o,h⟩=>.inl (.inr ⟨o,h⟩)) .inr
structure Yx where
 K:PySem.W.Frag
 mg:Str->Option Value
mutual
inductive RD(Y:Yx)(H:Hp)(B:List Addr):D->V->Prop
 | non:RD Y H B .non .non
 | bl (b:Bool):RD Y H B (.bl b) (.bl b)
 | int (i:Int):RD Y H B (.int i) (.int i)
 | str (x:Str) (ok:PyData.strOk x=true):RD Y H B (.str x) (.str x)
 | tup {a:Addr}{vs:List V}{ds:List D}:SqT Y.K H a vs->RDs Y H B ds vs->RD Y H B (.tup ds) (.ref a)
 | ref {i:Nat}{a:Addr}:B[i]? = some a->RD Y H B (.ref i) (.ref a)
 | ty (n:String):RD Y H B (.ty n) (.ty n)
 | ro {a:Addr}{vs:List V}{ds:List D}:FzL Y.K H a vs->RDs Y H B ds vs->RD Y H B (.ro ds) (.ref a)
 | kd {x:Str}{a:Addr}:Y.mg x=some (.ref a)->RD Y H B (.kd x) (.ref a)
inductive RDs(Y:Yx)(H:Hp)(B:List Addr):List D->List V->Prop
 | nil:RDs Y H B [] []
 | cons {d:D}{v:V}{ds:List D}{vs:List V}:RD Y H B d v->RDs Y H B ds vs->RDs Y H B (d::ds) (v::vs)
end
inductive RKs(Y:Yx)(H:Hp)(B:List Addr){κ:Type}:List (κ×D)->List (κ×V)->Prop
 | nil:RKs Y H B [] []
 | cons {k:κ}{d:D}{v:V}{ds:List (κ×D)}{vs:List (κ×V)}:RD Y H B d v->RKs Y H B ds vs->RKs Y H B ((k,d)::ds) ((k,v)::vs)
noncomputable def RO(Y:Yx)(H:Hp)(B:List Addr)(a:Addr):DO->Prop
 | .lst ds=>∃ vs,H a=some (.lst vs)/\RDs Y H B ds vs
 | .dic kvs=>∃ kvs',H a=some (.dK kvs')/\RKs Y H B kvs kvs'
 | .ins C fs=>∃ Ca dx fs',H a=some (.ins Ca dx fs')/\Y.mg C=some (.ref Ca)/\RKs Y H B fs fs'
 | .fdic kvs=>∃ o kvs',H a=some (.frz o (.dK kvs'))/\RKs Y H B kvs kvs'
 | .dnk kvs=>∃ kvs' xs,H a=some (.dT xs)/\KN Y.K H kvs' xs/\RKs Y H B kvs kvs'
noncomputable def ZbI(kvs:List (Key×D)):Prop:=∀ p∈kvs,∀ x,p.1=.inr x->PyData.strOk x=true
noncomputable def DOk:DO->Prop
 | .dic kvs=>ZbI kvs
 | .fdic kvs=>ZbI kvs
 | _=>True
structure RH(Y:Yx)(H:Hp)(B:List Addr)(h:Hd):Prop where
 len:h.length=B.length
 nd:B.Nodup
 ob:∀ (i:Nat) (o:DO) (a:Addr),h[i]? = some o->B[i]? = some a->RO Y H B a o
 ks:∀ (i:Nat) (o:DO),h[i]? = some o->DOk o
structure Gr(H:Hp)(B:List Addr)(H':Hp)(μ':List Addr):Prop where
 pre:∀ (i:Nat) (a:Addr),B[i]? = some a->μ'[i]? = some a
 new:∀ a∈μ',a∈B\/H a=none
 keep:∀ b o,b ∉ B->H b=some o->H' b=some o
 fz:∀ b o u,H b=some (.frz o u)->H' b=some (.frz o u)
theorem Gr.refl:Gr H B H B:=⟨fun _ _ h=>h,fun _ h=>.inl h,fun _ _ _ h=>h,fun _ _ _ h=>h⟩
theorem Gr.trans(a:Gr H B H1 μ1)(b:Gr H1 μ1 H2 μ2):Gr H B H2 μ2:=by
 refine ⟨fun i x h=>b.pre i x (a.pre i x h),fun x hx=>?_,fun x o hx h=>?_,fun x o u h=>b.fz x o u (a.fz x o u h)⟩
 . rcases b.new x hx with h|h
   . exact a.new x h
   . by_cases hm:x∈B
     . exact .inl hm
     . cases q:H x with
       | none=>exact .inr rfl
       | some o=>rw [a.keep x o hm q] at h;cases h
 . refine b.keep x o (fun hm=>?_) (a.keep x o hx h);rcases a.new x hm with z|z
   . exact hx z
   . rw [h] at z;cases z
noncomputable def Mu:Option HO->Prop
 | some (.lst _)|some (.dK _)|some (.ins _ _ _)|some (.frz _ (.dK _))|some (.dT _)=>True
 | _=>False
theorem RO.mut(h:RO Y H B a o):Mu (H a):=by
 cases o with
 | lst ds=>obtain ⟨vs,e,_⟩:=h;rw [e];trivial
 | dic ds=>obtain ⟨vs,e,_⟩:=h;rw [e];trivial
 | ins C ds=>obtain ⟨_,_,_,e,_⟩:=h;rw [e];trivial
 | fdic ds=>obtain ⟨_,_,e,_⟩:=h;rw [e];trivial
 | dnk ds=>obtain ⟨_,_,e,_⟩:=h;rw [e];trivial
theorem RH.mem(r:RH Y H B h)(ha:a∈B):∃ (i:Nat) (o:DO),B[i]? = some a/\h[i]? = some o/\RO Y H B a o:=by
 obtain ⟨i,hi⟩:=List.mem_iff_getElem?.mp ha;have hl:i<h.length:=by
   rw [r.len];exact (Ob.mp hi).1
 exact ⟨i,h[i],hi,Og hl,r.ob i _ a (Og hl) hi⟩
theorem RH.mut(r:RH Y H B h)(ha:a∈B):Mu (H a):=let ⟨_,_,_,_,q⟩:=r.mem ha;q.mut
theorem Gr.rdT(r:RH Y H B h)(g:Gr H B H' μ')(t:SqT Y.K H a xs):SqT Y.K H' a xs:=by
 rcases t with t|t
 . rcases t with t|⟨o,t⟩
   . exact .inl (.inl (g.keep a _ (fun hm=>by have:=r.mut hm;rw [t] at this;exact this) t))
   . exact .inl (.inr ⟨o,g.fz a _ _ t⟩)
 . exact .inr t
theorem Gr.rdF(r:RH Y H B h)(g:Gr H B H' μ')(t:FzL Y.K H a xs):FzL Y.K H' a xs:=by
 rcases t with ⟨o,t⟩|t
 . exact .inl ⟨o,g.fz a _ _ t⟩
 . exact .inr t
section
variable {Y:Yx}{H H':Hp}{B μ':List Addr}{h:Hd}
structure Tr(Y:Yx)(H:Hp)(B:List Addr)(H':Hp)(μ':List Addr):Prop where
 t:∀ {a xs},SqT Y.K H a xs->SqT Y.K H' a xs
 f:∀ {a xs},FzL Y.K H a xs->FzL Y.K H' a xs
 m:∀ {i:Nat}{a},B[i]? = some a->μ'[i]? = some a
mutual
theorem RD.tr(T:Tr Y H B H' μ'):∀ {d:D}{v:V},RD Y H B d v->RD Y H' μ' d v
 | _,_,.non=>.non
 | _,_,.bl b=>.bl b
 | _,_,.int i=>.int i
 | _,_,.str x ok=>.str x ok
 | _,_,.tup t s=>.tup (T.t t) (RDs.tr T s)
 | _,_,.ref e=>.ref (T.m e)
 | _,_,.ty n=>.ty n
 | _,_,.ro t s=>.ro (T.f t) (RDs.tr T s)
 | _,_,.kd e=>.kd e
theorem RDs.tr(T:Tr Y H B H' μ'):∀ {d:List D}{v:List V},RDs Y H B d v->RDs Y H' μ' d v
 | _,_,.nil=>.nil
 | _,_,.cons a s=>.cons (RD.tr T a) (RDs.tr T s)
end
theorem RKs.tr(T:Tr Y H B H' μ'):∀ {d:List (κ×D)}{v:List (κ×V)},RKs Y H B d v->RKs Y H' μ' d v
 | _,_,.nil=>.nil
 | _,_,.cons a s=>.cons (a.tr T) (RKs.tr T s)
theorem KyS.tr(T:Tr Y H B H' μ'):KyS Y.K H b k->KyS Y.K H' b k:=fun ⟨c,h1,h2⟩=>⟨c,T.t h1,T.t h2⟩
theorem KN.tr(T:Tr Y H B H' μ')(r:KN Y.K H kvs xs):KN Y.K H' kvs xs:=Paired.mapP r fun _ _ z=>⟨z.1,KyS.tr T z.2.1,z.2.2⟩
theorem RO.tr(T:Tr Y H B H' μ')(q:RO Y H B a o)(e:H' a=H a):RO Y H' μ' a o:=by
 cases o with
 | lst ds=>obtain ⟨vs,z,s⟩:=q;exact ⟨vs,e.trans z,s.tr T⟩
 | dic ds=>obtain ⟨vs,z,s⟩:=q;exact ⟨vs,e.trans z,s.tr T⟩
 | ins C ds=>obtain ⟨a1,a2,a3,z,m,s⟩:=q;exact ⟨a1,a2,a3,e.trans z,m,s.tr T⟩
 | fdic ds=>obtain ⟨o,vs,z,s⟩:=q;exact ⟨o,vs,e.trans z,s.tr T⟩
 | dnk ds=>obtain ⟨vs,xs,z,n,s⟩:=q;exact ⟨vs,xs,e.trans z,KN.tr T n,s.tr T⟩
theorem Gr.tr(r:RH Y H B h)(g:Gr H B H' μ'):Tr Y H B H' μ':=⟨g.rdT r,g.rdF r,g.pre _ _⟩
theorem RD.mono(r:RH Y H B h)(g:Gr H B H' μ')(q:RD Y H B d v):RD Y H' μ' d v:=q.tr (g.tr r)
theorem RDs.mono(r:RH Y H B h)(g:Gr H B H' μ')(q:RDs Y H B d v):RDs Y H' μ' d v:=q.tr (g.tr r)
theorem RKs.mono{d:List (κ×D)}(r:RH Y H B h)(g:Gr H B H' μ')(q:RKs Y H B d v):RKs Y H' μ' d v:=q.tr (g.tr r)
theorem RDs.length:∀ {d:List D}{v:List V},RDs Y H B d v->d.length=v.length
 | _,_,.nil=>rfl
 | _,_,.cons a s=>by rw [Os,Os,s.length]
theorem RKs.length:∀ {d:List (κ×D)}{v:List (κ×V)},RKs Y H B d v->d.length=v.length
 | _,_,.nil=>rfl
 | _,_,.cons a s=>by rw [Os,Os,s.length]
theorem RDs.get:∀ {ds:List D}{vs:List V},RDs Y H B ds vs->∀ {i:Nat}{d:D},ds[i]? = some d->∃ v,vs[i]? = some v/\RD Y H B d v
 | _,_,.nil,i,d,e=>by simp at e
 | _,_,.cons a s,0,d,e=>by cases e;exact ⟨_,rfl,a⟩
 | _,_,.cons a s,i+1,d,e=>by
   obtain ⟨v,h1,h2⟩:=RDs.get s (i:=i) (d:=d) (by simpa using e);exact ⟨v,by simpa using h1,h2⟩
theorem RDs.append:∀ {ds es:List D}{vs ws:List V},RDs Y H B ds vs->RDs Y H B es ws->RDs Y H B (ds++es) (vs++ws)
 | _,_,_,_,.nil,s=>s
 | _,_,_,_,.cons a r,s=>.cons a (r.append s)
theorem RDs.take:∀ {ds:List D}{vs:List V} (n:Nat),RDs Y H B ds vs->RDs Y H B (ds.take n) (vs.take n)
 | _,_,0,_=>.nil
 | _,_,_+1,.nil=>.nil
 | _,_,n+1,.cons a s=>.cons a (s.take n)
theorem RDs.drop:∀ {ds:List D}{vs:List V} (n:Nat),RDs Y H B ds vs->RDs Y H B (ds.drop n) (vs.drop n)
 | _,_,0,s=>s
 | _,_,_+1,.nil=>.nil
 | _,_,n+1,.cons a s=>s.drop n
theorem RDs.reverse(s:RDs Y H B ds vs):RDs Y H B ds.reverse vs.reverse:=by
 have gen:∀ {ds es:List D}{vs ws:List V},RDs Y H B ds vs->RDs Y H B es ws->RDs Y H B (ds.reverseAux es) (vs.reverseAux ws):=by
   intro ds;induction ds with
   | nil=>intro es vs ws a b;cases a;exact b
   | cons d ds ih =>
     intro es vs ws a b;cases a with
     | cons a s =>
       have z:=ih s (RDs.cons a b);exact z
 exact gen s .nil
theorem RDs.dropLast(s:RDs Y H B ds vs):RDs Y H B ds.dropLast vs.dropLast:=by
 rw [List.dropLast_eq_take,List.dropLast_eq_take,s.length];exact s.take _
theorem RDs.set(r:RD Y H B d v):∀ {ds:List D}{vs:List V} (i:Nat),RDs Y H B ds vs->RDs Y H B (ds.set i d) (vs.set i v)
 | _,_,_,.nil=>.nil
 | _,_,0,.cons _ s=>.cons r s
 | _,_,i+1,.cons a s=>.cons a (RDs.set r i s)
theorem RDs.cut(s:RDs Y H B ds vs)(lo hi:Option Int):RDs Y H B (cutD ds lo hi) (Zho vs lo hi):=by
 unfold cutD Zho;rw [s.length];exact (s.drop _).take _
theorem RDs.isEmpty(s:RDs Y H B ds vs):ds.isEmpty=vs.isEmpty:=by cases s<;>rfl
theorem RDs.atI(s:RDs Y H B ds vs)(e:L2.atI ds i=some d):∃ v,L2.atI vs i=some v/\RD Y H B d v:=by
 unfold L2.atI at e ⊢;rw [s.length] at e;cases q:ixN vs.length i with
 | none=>rw [q] at e;cases e
 | some j =>
   rw [q] at e;exact s.get (i:=j) e
theorem RKs.val[DecidableEq κ]:∀ {ds:List (κ×D)}{vs:List (κ×V)},RKs Y H B ds vs->∀ (k:κ),((ds.find? fun p=>decide (p.1=k))=none/\(vs.find? fun p=>decide (p.1=k))=none)\/∃ d v,(ds.find? fun p=>decide (p.1=k))=some (k,d)/\(vs.find? fun p=>decide (p.1=k))=some (k,v)/\RD Y H B d v
 | _,_,.nil,k=>.inl ⟨rfl,rfl⟩
 | _,_,.cons (k:=k') (d:=d) (v:=v) a s,k=>by
   by_cases e:k'=k
   . subst e;exact .inr ⟨d,v,by simp,by simp,a⟩
   . rcases s.val k with ⟨h1,h2⟩|⟨d,v,h1,h2,h3⟩
     . exact .inl ⟨by simp [e,h1],by simp [e,h2]⟩
     . exact .inr ⟨d,v,by simp [e,h1],by simp [e,h2],h3⟩
end
theorem Zqj{α:Type}{l:List α}(hl:l.Nodup){i j:Nat}{x:α}(a:l[i]? = some x)(b:l[j]? = some x):i=j:=by
 obtain ⟨h1,e1⟩:=Ob.mp a;obtain ⟨h2,e2⟩:=Ob.mp b;exact (List.getElem_inj hl).mp (e1.trans e2.symm)
section
variable {Y:Yx}{H:Hp}{B:List Addr}{h:Hd}
theorem Gr.add(g:Gr H0 μ0 H B)(hp:H0 p=none):Gr H0 μ0 H (B++[p]) :=
 ⟨fun i a e=>by have e:=g.pre i a e;rw [Oe (Ob.mp e).1];exact e,fun a ha=>(OD.mp ha).elim (g.new a) fun z=>by rw [Ox.mp z];exact .inr hp,g.keep,g.fz⟩
theorem ZkC{H0 H:Hp}(hp:H0 p=none)(e:H0 b=some u):upd H p o b=H b:=Zm fun z=>by rw [z,hp] at e;cases e
theorem Gr.put(g:Gr H0 μ0 H B)(hp:H0 p=none):Gr H0 μ0 (upd H p o) B:=⟨g.pre,g.new,fun b u hb e=>(ZkC hp e).trans (g.keep b u hb e),fun b u v e=>(ZkC hp e).trans (g.fz b u v e)⟩
theorem Gr.lay0(hp:H p=none):Gr H B (upd H p o) B:=Gr.refl.put hp
theorem Gr.lay(hp:H p=none):Gr H B (upd H p o) (B++[p]):=(Gr.lay0 hp).add hp
noncomputable def NF:Option HO->Prop
 | some (.frz _ _)=>False
 | _=>True
theorem Gr.write(hp:p∈B)(nf:NF (H p)):Gr H B (upd H p o) B :=
 ⟨fun _ _ e=>e,fun a ha=>.inl ha,fun b u hb e=>by rw [Zm (show b≠p from fun z=>hb (by rw [z];exact hp))];exact e,fun b u v e=>by rw [Zm (fun z=>by rw [z] at e;rw [e] at nf;exact nf)];exact e⟩
theorem RO.mono(r:RH Y H B h)(g:Gr H B H' μ')(q:RO Y H B a o)(e:H' a=H a):RO Y H' μ' a o:=q.tr (g.tr r) e
theorem RH.tr(r:RH Y H B h)(T:Tr Y H B H' B)(k:∀ a∈B,H' a=H a):RH Y H' B h :=
 ⟨r.len,r.nd,fun i o a e1 e2=>(r.ob i o a e1 e2).tr T (k a (O1 e2)),r.ks⟩
theorem RH.keep(r:RH Y H B h)(g:Gr H B H' B)(k:∀ a∈B,H' a=H a):RH Y H' B h:=r.tr (g.tr r) k
theorem Tr.more:Tr Y H B H (B++[p]):=⟨id,id,fun e=>by rw [Oe (Ob.mp e).1];exact e⟩
theorem Zqc(k:∀ (i:Nat) (o:DO),h[i]? = some o->DOk o)(dk:DOk o):∀ (i:Nat) (o':DO),(h++[o])[i]? = some o'->DOk o':=by
 intro i o' e1;by_cases hi:i<h.length
 . rw [Oe hi] at e1;exact k i o' e1
 . have hi':i=h.length:=by
     have:=(Ob.mp e1).1;simp at this
     lia
   subst hi';rw [Om (Oq _)] at e1;simp at e1;subst e1;exact dk
theorem RH.add(r:RH Y H B h)(np:p ∉ B)(n:RO Y H (B++[p]) p o)(dk:DOk o:=by trivial):RH Y H (B++[p]) (h++[o]):=by
 refine ⟨by simp [r.len],?_,fun i o' a e1 e2=>?_,Zqc r.ks dk⟩
 . rw [List.nodup_append];refine ⟨r.nd,by simp,fun a ha b hb=>?_⟩;rw [Ox.mp hb];intro z;exact np (z ▸ ha)
 . by_cases hi:i<h.length
   . rw [Oe hi] at e1;rw [Oe (by rw [<- r.len];exact hi)] at e2;exact (r.ob i o' a e1 e2).tr .more rfl
   . have hi':i=h.length:=by
       have:=(Ob.mp e1).1;simp at this
       lia
     subst hi';rw [Om (Oq _)] at e1;rw [Om (by rw [r.len];exact Oq _)] at e2;simp [r.len] at e1 e2;subst e1;subst e2;exact n
theorem RH.fr(r:RH Y H B h)(hp:H p=none):p ∉ B:=fun z=>by have:=r.mut z;rw [hp] at this;exact this
theorem RH.lay0(r:RH Y H B h)(hp:H p=none):RH Y (upd H p u) B h:=r.keep (Gr.lay0 hp) fun a ha=>Zm fun z=>r.fr hp (z ▸ ha)
theorem RH.lay(r:RH Y H B h)(hp:H p=none)(n:RO Y (upd H p u) (B++[p]) p o)(dk:DOk o:=by trivial):RH Y (upd H p u) (B++[p]) (h++[o]):=(r.lay0 hp).add (r.fr hp) n dk
theorem RH.write{p:Addr}{i:Nat}{u:HO}{o:DO}(r:RH Y H B h)(hp:B[i]? = some p)(n:RO Y (upd H p u) B p o)(nf:NF (H p))(dk:DOk o:=by trivial):RH Y (upd H p u) B (h.set i o):=by
 have hm:p∈B:=O1 hp;refine ⟨by simp [r.len],r.nd,fun j o' a e1 e2=>?_,fun j o' e1=>?_⟩
 rotate_right
 . by_cases hj:j=i
   . subst hj;have hl:j<h.length:=by rw [r.len];exact (Ob.mp hp).1
     rw [Ol hl] at e1;cases e1;exact dk
   . rw [Oc (Ne.symm hj)] at e1;exact r.ks j o' e1
 by_cases hj:j=i
 . subst hj;rw [hp] at e2;cases e2;have hl:j<h.length:=by rw [r.len];exact (Ob.mp hp).1
   rw [Ol hl] at e1;cases e1;exact n
 . rw [Oc (Ne.symm hj)] at e1;refine (r.ob j o' a e1 e2).mono r (Gr.write hm nf) (Zm fun z=>hj ?_);subst z;exact Zqj r.nd e2 hp
end
end IV
end
section
set_option tactic.hygienic false
namespace IV
open PySem PySem.Spec PyProof.Rows L2
noncomputable def Fin(Y:Yx)(rel:Hp->List Addr->α->β->Prop)(H:Hp)(B:List Addr)(r:R α)(Q:β->Hp->Prop)(E:XK):Prop:=match r with
 | .bad=>False
 | .ok a h'=>∀ b H' μ',Gr H B H' μ'->RH Y H' μ' h'->rel H' μ' a b->Q b H'
 | .exc c h'=>∀ H' μ' C,Gr H B H' μ'->RH Y H' μ' h'->Y.mg c=some (.ref C)->E (.ref C) none H'
section
variable {Y:Yx}{α β α' β':Type}{rel:Hp->List Addr->α->β->Prop}{rel':Hp->List Addr->α'->β'->Prop}{H H1:Hp}{B μ1:List Addr}{E:XK}
theorem Fin.mono(g:Gr H B H1 μ1)(f:Fin Y rel H B r Q E):Fin Y rel H1 μ1 r Q E:=by
 cases r with
 | bad=>exact f
 | ok a h=>exact fun b H' μ' g'=>f b H' μ' (g.trans g')
 | exc c h=>exact fun H' μ' C g'=>f H' μ' C (g.trans g')
theorem Fin.bind(f:Fin Y rel' H B (r.bind k) Q E)
   (hk:∀ a h1 b H1 μ1,r=.ok a h1->Gr H B H1 μ1->RH Y H1 μ1 h1->rel H1 μ1 a b->Fin Y rel' H1 μ1 (k a h1) Q E->Q1 b H1):Fin Y rel H B r Q1 E:=by
 cases r with
 | bad=>exact f
 | ok a h=>exact fun b H' μ' g' rh rl=>hk a h b H' μ' rfl g' rh rl (Fin.mono g' f)
 | exc c h=>exact f
theorem Fin.ok(f:Fin Y rel H B (.ok a h) Q E)(rh:RH Y H B h)(r:rel H B a b):Q b H:=f b H B Gr.refl rh r
theorem Fin.at(f:Fin Y rel H B (.ok a h) Q E)(g:Gr H B H1 μ1)(rh:RH Y H1 μ1 h)(r:rel H1 μ1 a b):Q b H1:=f b H1 μ1 g rh r
theorem Fin.ofO(f:Fin Y rel H B (R.ofO o h) Q E):∃ a,o=some a/\Fin Y rel H B (.ok a h) Q E:=by
 cases o with
 | none=>exact f.elim
 | some a=>exact ⟨a,rfl,f⟩
theorem Fin.iff[Decidable c](f:Fin Y rel H B (if c then r else .bad) Q E):c/\Fin Y rel H B r Q E:=by
 by_cases h:c
 . rw [if_pos h] at f;exact ⟨h,f⟩
 . rw [if_neg h] at f;exact f.elim
theorem Fin.new(f:Fin Y (RD Y) H B (Zay o h) Q E)(rh:RH Y H B h)(hp:H p=none)(n:RO Y (upd H p u) (B++[p]) p o)(dk:DOk o:=by trivial):Q (.ref p) (upd H p u) :=
 f.at (Gr.lay hp) (rh.lay hp n dk) (.ref (by rw [rh.len];simp))
theorem Fin.tup(f:Fin Y (RD Y) H B (.ok (.tup ds) h) Q E)(rh:RH Y H B h)(hp:H p=none)(r:RDs Y H B ds vs):Q (.ref p) (upd H p (.tup vs)) :=
 f.at (Gr.lay0 hp) (rh.lay0 hp) (.tup (.inl (.inl Zg)) (r.mono rh (Gr.lay0 hp)))
theorem Fin.wrote(f:Fin Y rel H B (.ok a (h.set i o)) Q E)(rh:RH Y H B h)(hp:B[i]? = some p)(n:RO Y (upd H p u) B p o)(r:rel (upd H p u) B a b)(nf:NF (H p))(dk:DOk o:=by trivial):Q b (upd H p u) :=
 f.at (Gr.write (O1 hp) nf) (rh.write hp n nf dk) r
end
section
variable {Y:Yx}{H:Hp}{B:List Addr}{h:Hd}
theorem RD.lst(rh:RH Y H B h)(r:RD Y H B (.ref i) v)(e:h[i]? = some (.lst xs)):∃ a vs,v=.ref a/\B[i]? = some a/\H a=some (.lst vs)/\RDs Y H B xs vs:=by
 cases r with
 | ref q =>
   obtain ⟨vs,h1,h2⟩:=rh.ob i _ _ e q;exact ⟨_,vs,rfl,q,h1,h2⟩
theorem RD.dic(rh:RH Y H B h)(r:RD Y H B (.ref i) v)(e:h[i]? = some (.dic xs)):∃ a vs,v=.ref a/\B[i]? = some a/\H a=some (.dK vs)/\RKs Y H B xs vs:=by
 cases r with
 | ref q =>
   obtain ⟨vs,h1,h2⟩:=rh.ob i _ _ e q;exact ⟨_,vs,rfl,q,h1,h2⟩
theorem RD.lstOf(rh:RH Y H B h)(r:RD Y H B d v)(e:lstOf d h=some xs):∃ a vs,v=.ref a/\SqL Y.K H a vs/\RDs Y H B xs vs:=by
 cases d with
 | ref i =>
   unfold IV.lstOf at e;simp only at e;split at e
   . cases e;rename_i q;obtain ⟨a,vs,h1,h2,h3,h4⟩:=r.lst rh q;exact ⟨a,vs,h1,.of h3,h4⟩
   . cases e
 | ro ys =>
   cases e;cases r with
   | ro q s=>exact ⟨_,_,rfl,q.sq,s⟩
 | _=>cases e
theorem RD.seqOf(rh:RH Y H B h)(r:RD Y H B d v)(e:seqOf d h=some xs):∃ a vs,v=.ref a/\(SqL Y.K H a vs\/SqT Y.K H a vs)/\RDs Y H B xs vs:=by
 by_cases ht:∃ ys,d=.tup ys
 . obtain ⟨ys,rfl⟩:=ht;cases e;cases r with
   | tup q s=>exact ⟨_,_,rfl,.inr q,s⟩
 . have e':IV.lstOf d h=some xs:=by
     cases d with
     | tup ys=>exact absurd ⟨ys,rfl⟩ ht
     | _=>exact e
   obtain ⟨a,vs,h1,h2,h3⟩:=r.lstOf rh e';exact ⟨a,vs,h1,.inl h2,h3⟩
theorem RD.int_inv(r:RD Y H B (.int i) v):v=.int i:=by cases r;rfl
theorem RD.str_inv(r:RD Y H B (.str i) v):v=.str i/\PyData.strOk i=true:=by cases r with|str x ok=>exact ⟨rfl,ok⟩
theorem RD.tup_inv(r:RD Y H B (.tup ds) v):∃ a vs,v=.ref a/\SqT Y.K H a vs/\RDs Y H B ds vs:=by cases r with|tup q s=>exact ⟨_,_,rfl,q,s⟩
theorem ZfS(hx:PyData.strOk x=true)(hy:PyData.strOk y=true):PyData.strOk (x++y)=true:=by
 show (x.cps++y.cps).all _=true;rw [Array.all_append];unfold PyData.strOk at hx hy;rw [hx,hy];rfl
theorem Zlx(hx:PyData.strOk x=true)(n:Nat):PyData.strOk (ZdF x n)=true:=by
 have gen:∀ (n:Nat) (a:Array Nat),a.all (·<0x110000)=true->((List.replicate n x.cps).foldl (·++·) a).all (·<0x110000)=true:=by
   intro n;induction n with
   | zero=>intro a h;exact h
   | succ n ih =>
     intro a h;rw [List.replicate_succ,List.foldl_cons];refine ih _ ?_;rw [Array.all_append,h];exact hx
 exact gen n #[] (by simp)
theorem Zly(hx:PyData.strOk x=true)(h:c∈x.cps.toList):PyData.strOk ⟨#[c]⟩=true:=by
 unfold PyData.strOk at hx ⊢;rw [Array.all_eq_true'] at hx;have:=hx c (by simpa using h);simpa using this
theorem Znz(h:atI xs i=some x):x∈xs:=by
 unfold atI at h;cases q:ixN xs.length i with
 | none=>rw [q] at h;cases h
 | some j =>
   rw [q] at h;exact O1 (i:=j) h
end
section
variable {X:Cx}{Y:Yx}{E:XK}
noncomputable def rB(Y:Yx)(E:XK)(f:D->D->Hd->R D):R2:=fun x y H Q=>∃ dx dy h B,RH Y H B h/\RD Y H B dx x/\RD Y H B dy y/\Fin Y (RD Y) H B (f dx dy h) Q E
theorem Fin.int2(f:Fin Y (RD Y) H B (int2 x y k) Q E):∃ i j,x=.int i/\y=.int j/\Fin Y (RD Y) H B (k i j) Q E:=by
 cases x with
 | int i =>
   cases y with
   | int j=>exact ⟨i,j,rfl,rfl,f⟩
   | _=>exact f.elim
 | _=>exact f.elim
theorem ZpO(hY:Y.K=X.K)(op:Operator):OpR X (binaryOp op) (rB Y E (opB op)):=by
 intro pins s Z H x y v u Q I rx ry hh;obtain ⟨dx,dy,h,B,rh,r1,r2,f⟩:=hh;cases op with
 | Add =>
   have f:Fin Y (RD Y) H B (ZqU dx dy h) Q E:=f;cases dx with
   | int i =>
     cases dy with
     | int j =>
       cases r1;cases r2;exact ZpM pins s Z H _ _ v u Q I rx ry ⟨_,_,rfl,rfl,f.ok rh (.int _)⟩
     | _=>exact f.elim
   | str i =>
     cases dy with
     | str j =>
       obtain ⟨hz,f⟩:=Fin.iff f;cases r1 with|str _ o1 =>
       cases r2 with|str _ o2 =>
       exact Zh7 pins s Z H _ _ v u Q I rx ry ⟨_,_,rfl,rfl,hz,f.ok rh (.str _ (ZfS o1 o2))⟩
     | _=>exact f.elim
   | tup xs =>
     cases dy with
     | tup ys =>
       obtain ⟨hz,f⟩:=Fin.iff f;obtain ⟨a,vs,rfl,t1,s1⟩:=r1.tup_inv;obtain ⟨b,ws,rfl,t2,s2⟩:=r2.tup_inv;rw [s1.length,s2.length] at hz;by_cases h0:vs=[]
       . subst h0;cases s1;exact Znj pins s Z H _ _ v u Q I rx ry ⟨a,b,ws,rfl,rfl,hY ▸ t1,hY ▸ t2,f.ok rh (.tup t2 s2)⟩
       . refine Zni pins s Z H _ _ v u Q I rx ry ⟨a,b,vs,ws,rfl,rfl,hY ▸ t1,hY ▸ t2,h0,hz,fun e=>?_,fun e p hp=>f.tup rh hp (s1.append s2)⟩;subst e;cases s2;rw [List.append_nil] at f;exact f.ok rh (.tup t1 s1)
     | _=>exact f.elim
   | ref i =>
     cases dy with
     | ref j =>
       unfold ZqU at f;simp only at f;split at f
       . rename_i e1;split at f
         . rename_i e2;obtain ⟨hz,f⟩:=f.iff;obtain ⟨a,vs,rfl,_,h1,s1⟩:=r1.lst rh e1;obtain ⟨b,ws,rfl,_,h2,s2⟩:=r2.lst rh e2;rw [s1.length,s2.length] at hz;exact ZpL pins s Z H _ _ v u Q I rx ry ⟨a,b,vs,ws,rfl,rfl,h1,h2,hz,fun p hp=>f.new rh hp ⟨_,Zg,(s1.append s2).mono rh (Gr.lay hp)⟩⟩
         . exact f.elim
       . exact f.elim
     | _=>exact f.elim
   | _=>exact f.elim
 | Sub =>
   obtain ⟨i,j,rfl,rfl,f⟩:=Fin.int2 f;cases r1;cases r2;exact ZpF pins s Z H _ _ v u Q I rx ry ⟨_,_,rfl,rfl,f.ok rh (.int _)⟩
 | Mult =>
   have f:Fin Y (RD Y) H B (Zsc dx dy h) Q E:=f;cases dx with
   | str z =>
     cases dy with
     | int n =>
       obtain ⟨hz,f⟩:=Fin.iff f;cases r1 with|str _ o1 =>
       cases r2;exact Zng pins s Z H _ _ v u Q I rx ry ⟨_,_,rfl,rfl,hz.1,hz.2.1,hz.2.2,f.ok rh (.str _ (Zlx o1 _))⟩
     | _=>exact f.elim
   | int i =>
     obtain ⟨i,j,e1,rfl,f⟩:=Fin.int2 (show Fin Y (RD Y) H B (IV.int2 (.int i) dy fun i j=>if i.natAbs<2 ^ 2000/\j.natAbs<2 ^ 2000 then .ok (.int (i * j)) h else .bad) Q E from f);cases e1;obtain ⟨hz,f⟩:=f.iff;cases r1;cases r2;exact Zj9 pins s Z H _ _ v u Q I rx ry ⟨_,_,rfl,rfl,hz,f.ok rh (.int _)⟩
   | _=>exact f.elim
 | Mod =>
   obtain ⟨i,j,rfl,rfl,f⟩:=Fin.int2 f;obtain ⟨hz,f⟩:=f.iff;cases r1;cases r2;exact ZpH pins s Z H _ _ v u Q I rx ry ⟨_,_,rfl,rfl,hz,f.ok rh (.int _)⟩
 | FloorDiv =>
   obtain ⟨i,j,rfl,rfl,f⟩:=Fin.int2 f;obtain ⟨hz,f⟩:=f.iff;cases r1;cases r2;exact Znh pins s Z H _ _ v u Q I rx ry ⟨_,_,rfl,rfl,hz,f.ok rh (.int _)⟩
 | Pow =>
   obtain ⟨i,j,rfl,rfl,f⟩:=Fin.int2 f;obtain ⟨hz,f⟩:=f.iff;cases r1;cases r2;exact ZpG pins s Z H _ _ v u Q I rx ry ⟨_,_,rfl,rfl,hz,f.ok rh (.int _)⟩
 | _=>exact f.elim
end
end IV
end
section
namespace IV
open PySem PySem.Spec PyProof.Rows L2
structure Gk(X:Cx)(Y:Yx)(T:Tb):Prop where
 K:Y.K=X.K
 mg:Y.mg=X.mg
 gd:∀ x kvs,T.GD x=some kvs->∃ a kvs',X.mg x=some (.ref a)/\DkK X.prog X.w X.K a kvs'/\∀ H B,RKs Y H B kvs kvs'
 g:∀ x d,T.G x=some d->∃ v u,X.mg x=some u/\RelV v u/\∀ H B,RD Y H B d v
 bare:Zet X.K=true
section
variable {X:Cx}{Y:Yx}{E:XK}{T:Tb}{H:Hp}{B:List Addr}{h:Hd}
theorem RD.dicOf(G:Gk X Y T)(rh:RH Y H B h)(r:RD Y H B d v)(e:dicOf T.GD d h=some kvs):∃ a kvs',v=.ref a/\Dk X.prog X.w X.K H a kvs'/\RKs Y H B kvs kvs':=by
 cases d with
 | ref i =>
   unfold IV.dicOf at e;simp only at e;split at e
   . cases e;rename_i q;obtain ⟨a,vs,h1,_,h3,h4⟩:=r.dic rh q;exact ⟨a,vs,h1,.inl (.inl h3),h4⟩
   . cases e;rename_i q;cases r with
     | ref qm =>
       obtain ⟨o,vs,h1,h2⟩:=rh.ob i _ _ q qm;exact ⟨_,vs,rfl,.inl (.inr ⟨o,h1⟩),h2⟩
   . cases e
 | kd x =>
   obtain ⟨a,kvs',h1,h2,h3⟩:=G.gd x kvs e;cases r with
   | kd q =>
     rw [G.mg,h1] at q;cases q;exact ⟨a,kvs',rfl,.inr h2,h3 H B⟩
 | _=>cases e
theorem ZlO(r:RD Y H B d v)(e:keyOf d=some k):∀ x,k=.inr x->PyData.strOk x=true:=by
 cases d with
 | int i=>cases e;intro x z;cases z
 | str i =>
   cases e;intro x z;cases z;cases r with
   | str _ ok=>exact ok
 | _=>cases e
theorem ZeU(h:ZbI kvs)(hk:∀ x,k=.inr x->PyData.strOk x=true):ZbI (putD kvs k c):=by
 intro p hp x e;unfold putD at hp;split at hp
 . obtain ⟨q,hq,rfl⟩:=List.mem_map.mp hp;refine h q hq x ?_;split at e<;>exact e
 . rcases OD.mp hp with hp|hp
   . exact h p hp x e
   . rw [Ox.mp hp] at e;exact hk x e
theorem Zcn(r:RD Y H B d v)(e:keyOf d=some k):v=kV k:=by
 cases d with
 | int i=>cases e;cases r;rfl
 | str i=>cases e;cases r;rfl
 | _=>cases e
theorem RKs.valV_rel(s:RKs Y H B ds vs)(k:Key):(ZE ds k=none/\ZaU vs k=none)\/∃ d v,ZE ds k=some d/\ZaU vs k=some v/\RD Y H B d v:=by
 unfold ZE ZaU;rcases s.val k with ⟨h1,h2⟩|⟨d,v,h1,h2,h3⟩
 . exact .inl ⟨by rw [h1];rfl,by rw [h2];rfl⟩
 . exact .inr ⟨d,v,by rw [h1];rfl,by rw [h2];rfl,h3⟩
theorem RKs.any_rel[DecidableEq κ](k:κ):∀ {ds:List (κ×D)}{vs:List (κ×V)},RKs Y H B ds vs->(ds.any fun kv=>decide (kv.1=k))=(vs.any fun kv=>decide (kv.1=k))
 | _,_,.nil=>rfl
 | _,_,.cons a s=>by rw [List.any_cons,List.any_cons,s.any_rel k]
theorem RKs.map_rel[DecidableEq κ](k:κ)(r:RD Y H B d v):∀ {ds:List (κ×D)}{vs:List (κ×V)},RKs Y H B ds vs->RKs Y H B (ds.map fun kv=>if kv.1=k then (kv.1,d) else kv) (vs.map fun kv=>if kv.1=k then (kv.1,v) else kv)
 | _,_,.nil=>.nil
 | _,_,.cons (k:=k') a s=>by
   rw [Op,Op];by_cases e:k'=k
   . rw [if_pos e,if_pos e];exact .cons r (s.map_rel k r)
   . rw [if_neg e,if_neg e];exact .cons a (s.map_rel k r)
theorem RKs.append:∀ {ds es:List (κ×D)}{vs ws:List (κ×V)},RKs Y H B ds vs->RKs Y H B es ws->RKs Y H B (ds++es) (vs++ws)
 | _,_,_,_,.nil,s=>s
 | _,_,_,_,.cons a r,s=>.cons a (r.append s)
theorem RKs.put(s:RKs Y H B ds vs)(k:Key)(r:RD Y H B d v):RKs Y H B (putD ds k d) (putK vs k v):=by
 unfold putD putK;rw [s.any_rel k];split
 . exact s.map_rel k r
 . exact s.append (.cons r .nil)
mutual
theorem RD.dp(rh:RH Y H B h)(rd:Nat->Option PyData)(hr:∀ i p a,rd i=some p->B[i]? = some a->Dp Y.K H (.ref a) p):∀ {d:D}{v:V}{p:PyData},RD Y H B d v->D.py rd d=some p->Dp Y.K H v p
 | _,_,_,.non,e=>by cases e;exact .non
 | _,_,_,.bl b,e=>by cases e;exact .bl b
 | _,_,_,.int i,e=>by cases e;exact .int i
 | _,_,_,.str x ok,e=>by cases e;exact .str x ok
 | _,_,_,.tup t s,e=>by
   rw [D.py] at e;obtain ⟨ps,e1,rfl⟩:=Oo.mp e;exact .tup t (RDs.dps rh rd hr s e1)
 | _,_,_,.ref q,e=>hr _ _ _ e q
 | _,_,_,.ty n,e=>by cases e
 | _,_,_,.ro t s,e=>by
   rw [D.py] at e;obtain ⟨ps,e1,rfl⟩:=Oo.mp e;exact .lst t.sq (RDs.dps rh rd hr s e1)
 | _,_,_,.kd q,e=>by cases e
theorem RDs.dps(rh:RH Y H B h)(rd:Nat->Option PyData)(hr:∀ i p a,rd i=some p->B[i]? = some a->Dp Y.K H (.ref a) p):∀ {d:List D}{v:List V}{p:List PyData},RDs Y H B d v->D.pys rd d=some p->Dps Y.K H v p
 | _,_,_,.nil,e=>by cases e;exact .nil
 | _,_,_,.cons a s,e=>by
   rw [D.pys] at e;obtain ⟨q,e1,e2⟩:=Option.bind_eq_some_iff.mp e;obtain ⟨qs,e3,rfl⟩:=Oo.mp e2;exact .cons (RD.dp rh rd hr a e1) (RDs.dps rh rd hr s e3)
end
theorem Zi8(rh:RH Y H B h):∀ (n i:Nat) (p:PyData) (a:Addr),ZkW h n i=some p->B[i]? = some a->Dp Y.K H (.ref a) p
 | 0,i,p,a,e,q=>by cases e
 | n+1,i,p,a,e,q=>by
   rw [ZkW] at e;split at e
   . rename_i xs he;obtain ⟨ps,e1,rfl⟩:=Oo.mp e;obtain ⟨vs,z,s⟩:=rh.ob i _ a he q;exact .lst (.of z) (RDs.dps rh _ (Zi8 rh n) s e1)
   . cases e
theorem Zdc(rh:RH Y H B h)(r:RD Y H B d v)(e:ZgU h d=some p):Dp Y.K H v p:=r.dp rh _ (Zi8 rh 4) e
theorem Ze3(r:RD Y H B d v)(f:d.flat=true):ZcL v=true:=by cases r<;>first|rfl|cases f
theorem ZdJ:∀ {ds:List D}{vs:List V},RDs Y H B ds vs->ds.all D.flat=true->vs.all ZcL=true
 | _,_,.nil,_=>rfl
 | _,_,.cons a s,f=>by
   rw [List.all_cons,Oa] at f;rw [List.all_cons,Ze3 a f.1,ZdJ s f.2];rfl
theorem ZqD(r:RD Y H B d v)(q:RD Y H B e w)(f:d.flat=true)(g:e.flat=true):eqF d e=eqV v w:=by
 cases r<;>cases q<;>first|rfl|exact absurd f (by simp [D.flat])|exact absurd g (by simp [D.flat])
theorem any_rel(q:RD Y H B e w)(g:e.flat=true):∀ {ds:List D}{vs:List V},RDs Y H B ds vs->ds.all D.flat=true->(ds.any fun z=>eqF z e)=vs.any fun y=>eqV y w
 | _,_,.nil,_=>rfl
 | _,_,.cons a s,f=>by
   rw [List.all_cons,Oa] at f;rw [List.any_cons,List.any_cons,ZqD a q f.1 g,any_rel q g s f.2]
theorem Znq(hr:Room k X.A)(h60:60<=k)(hY:Y.K=X.K):OpR X (compareOp .Eq) (rB Y E (ZcV false)):=by
 intro pins s Z H x y v u Q I rx ry hh;obtain ⟨dx,dy,h,B,rh,r1,r2,f⟩:=hh;unfold ZcV at f;split at f
 . rename_i e1 e2;obtain ⟨hz,f⟩:=f.iff;have d1:=Zdc rh r1 e1;have d2:=Zdc rh r2 e2;rw [hY] at d1 d2;obtain ⟨as,q1⟩:=I.reads d1 rx;obtain ⟨bs,q2⟩:=I.reads d2 ry;have:=hr.un;exact SeqAt.compareEq_reads q1 q2 d1.lay d2.lay (by lia) ⟨.bl _,H,I,rfl,f.ok rh (.bl _)⟩
 . exact f.elim
theorem Znl(hr:Room k X.A)(h60:60<=k)(hY:Y.K=X.K):OpR X (compareOp .NotEq) (rB Y E (ZcV true)):=by
 intro pins s Z H x y v u Q I rx ry hh;obtain ⟨dx,dy,h,B,rh,r1,r2,f⟩:=hh;unfold ZcV at f;split at f
 . rename_i e1 e2;obtain ⟨hz,f⟩:=f.iff;have d1:=Zdc rh r1 e1;have d2:=Zdc rh r2 e2;rw [hY] at d1 d2;obtain ⟨as,q1⟩:=I.reads d1 rx;obtain ⟨bs,q2⟩:=I.reads d2 ry;have:=hr.un;exact SeqAt.compareNe_reads q1 q2 d1.lay d2.lay (by lia) ⟨.bl _,H,I,rfl,f.ok rh (.bl _)⟩
 . exact f.elim
theorem Zek(ho:OpR X (compareOp op) (rI0 fun i j=>.bl (g i j))):OpR X (compareOp op) (rB Y E (Zgi g)):=by
 intro pins s Z H x y v u Q I rx ry hh;obtain ⟨dx,dy,h,B,rh,r1,r2,f⟩:=hh;unfold Zgi at f;split at f
 . cases r1;cases r2;exact ho pins s Z H _ _ v u Q I rx ry ⟨_,_,rfl,rfl,f.ok rh (.bl _)⟩
 . exact f.elim
theorem Zjl(r:RD Y H B d v):decide (d=.non)=decide (v=.non):=by
 cases r<;>simp
theorem Zno:OpR X (compareOp .Is) (rB Y E (opN false)):=by
 intro pins s Z H x y v u Q I rx ry hh;obtain ⟨dx,dy,h,B,rh,r1,r2,f⟩:=hh;unfold opN at f;split at f
 . cases r2;have z:=Zjl r1;simp only [OG,if_false,z] at f;exact ZpI pins s Z H _ _ v u Q I rx ry ⟨rfl,f.ok rh (.bl _)⟩
 . exact f.elim
theorem Zkb:OpR X (compareOp .IsNot) (rB Y E (opN true)):=by
 intro pins s Z H x y v u Q I rx ry hh;obtain ⟨dx,dy,h,B,rh,r1,r2,f⟩:=hh;unfold opN at f;split at f
 . cases r2;have z:=Zjl r1;simp only [if_true,z] at f;exact Znf pins s Z H _ _ v u Q I rx ry ⟨rfl,f.ok rh (.bl _)⟩
 . exact f.elim
theorem Znp(G:Gk X Y T):OpR X (compareOp .In) (rB Y E (Zbb T.GD false)):=by
 intro pins s Z H x y v u Q I rx ry hh;obtain ⟨dx,dy,h,B,rh,r1,r2,f⟩:=hh;unfold Zbb at f;split at f
 . rename_i xs e1;obtain ⟨hz,f⟩:=f.iff;rw [Oa] at hz;obtain ⟨a,vs,rfl,hs,rs⟩:=r2.seqOf rh e1;have q:=f.ok rh (.bl _);simp only [OG,if_false,any_rel r1 hz.1 rs hz.2] at q;exact Zka pins s Z H _ _ v u Q I rx ry ⟨a,vs,rfl,G.K ▸ hs,Ze3 r1 hz.1,ZdJ rs hz.2,q⟩
 . split at f
   . rename_i kvs k e1 e2;obtain ⟨a,kvs',rfl,hd,rk⟩:=r2.dicOf G rh e1;have q:=f.ok rh (.bl _);have z:(ZE kvs k).isSome=(ZaU kvs' k).isSome:=by
       rcases rk.valV_rel k with ⟨h1,h2⟩|⟨d,v,h1,h2,_⟩<;>rw [h1,h2]<;>rfl
     rw [z] at q;exact ZpK pins s Z H _ _ v u Q I rx ry ⟨a,kvs',k,rfl,Zcn r1 e2,hd,q⟩
   . exact f.elim
theorem Zh8(G:Gk X Y T):OpR X (compareOp .NotIn) (rB Y E (Zbb T.GD true)):=by
 intro pins s Z H x y v u Q I rx ry hh;obtain ⟨dx,dy,h,B,rh,r1,r2,f⟩:=hh;unfold Zbb at f;split at f
 . rename_i xs e1;obtain ⟨hz,f⟩:=f.iff;rw [Oa] at hz;obtain ⟨a,vs,rfl,hs,rs⟩:=r2.seqOf rh e1;have q:=f.ok rh (.bl _);simp only [if_true,any_rel r1 hz.1 rs hz.2] at q;exact Zgh pins s Z H _ _ v u Q I rx ry ⟨a,vs,rfl,G.K ▸ hs,Ze3 r1 hz.1,ZdJ rs hz.2,q⟩
 . split at f
   . rename_i kvs k e1 e2;obtain ⟨a,kvs',rfl,hd,rk⟩:=r2.dicOf G rh e1;have q:=f.ok rh (.bl _);have z:(ZE kvs k).isSome=(ZaU kvs' k).isSome:=by
       rcases rk.valV_rel k with ⟨h1,h2⟩|⟨d,v,h1,h2,_⟩<;>rw [h1,h2]<;>rfl
     rw [z] at q;exact Zj8 pins s Z H _ _ v u Q I rx ry ⟨a,kvs',k,rfl,Zcn r1 e2,hd,q⟩
   . exact f.elim
theorem Zlt(hr:Room k X.A)(h60:60<=k)(G:Gk X Y T)(op:CmpOp):OpR X (compareOp op) (rB Y E (opC T.GD op)):=by
 cases op with
 | Eq=>exact Znq hr h60 G.K
 | NotEq=>exact Znl hr h60 G.K
 | Lt=>exact Zek ZrZ
 | LtE=>exact Zek Zr0
 | Gt=>exact Zek Zr1
 | GtE=>exact Zek Zr2
 | Is=>exact Zno
 | IsNot=>exact Zkb
 | In=>exact Znp G
 | NotIn=>exact Zh8 G
theorem Znm(G:Gk X Y T):IxR X (rB Y E (Zcs T.GD)):=by
 intro value slice pins s Z H x y v u Q I rx ry hh hs;obtain ⟨dx,dy,h,B,rh,r1,r2,f⟩:=hh;have dict:∀ (kvs:List (Key×D)) (k:Key),dicOf T.GD dx h=some kvs->y=kV k->Fin Y (RD Y) H B (R.ofO (ZE kvs k) h) Q E->wpAny (model X.prog X.w) X.A (subscriptTail value slice v u) (EP X pins Z Q) X.xe s:=by
   intro kvs k e1 ey f;obtain ⟨d,e2,f⟩:=f.ofO;obtain ⟨a,kvs',rfl,hd,rk⟩:=r1.dicOf G rh e1;rcases rk.valV_rel k with ⟨h1,h2⟩|⟨d',w,h1,h2,h3⟩
   . rw [h1] at e2;cases e2
   . rw [h1] at e2;cases e2;exact ZnH value slice pins s Z H _ _ v u Q I rx ry ⟨a,kvs',k,w,rfl,ey,hd,h2,f.ok rh h3⟩ hs
 unfold Zcs at f;split at f
 . rename_i i;cases r2;split at f
   . rename_i xs e1;obtain ⟨d,e2,f⟩:=f.ofO;obtain ⟨a,vs,rfl,hq,rs⟩:=r1.seqOf rh e1;obtain ⟨w,e3,rw'⟩:=rs.atI e2;rcases hq with hq|hq
     . exact ZnG value slice pins s Z H _ _ v u Q I rx ry ⟨a,vs,i,w,rfl,rfl,G.K ▸ hq,e3,f.ok rh rw'⟩ hs
     . exact Zqh value slice pins s Z H _ _ v u Q I rx ry ⟨a,vs,i,w,rfl,rfl,G.K ▸ hq,e3,f.ok rh rw'⟩ hs
   . split at f
     . obtain ⟨hz,f⟩:=f.iff;obtain ⟨d,e2,f⟩:=f.ofO;obtain ⟨c,e3,rfl⟩:=Oo.mp e2;obtain ⟨rfl,ok⟩:=r1.str_inv;exact Zqi value slice pins s Z H _ _ v u Q I rx ry ⟨_,i,c,rfl,rfl,hz,e3,f.ok rh (.str _ (Zly ok (Znz e3)))⟩ hs
     . split at f
       . rename_i kvs e1;exact dict kvs (.inl i) e1 rfl f
       . exact f.elim
 . rename_i z;obtain ⟨rfl,ok⟩:=r2.str_inv;split at f
   . rename_i kvs e1;exact dict kvs (.inr z) e1 rfl f
   . exact f.elim
 . exact f.elim
theorem Zlw(hx:PyData.strOk x=true)(h:∀ c∈y.cps.toList,c∈x.cps.toList):PyData.strOk y=true:=by
 unfold PyData.strOk at hx ⊢;rw [Array.all_eq_true'] at hx ⊢;intro c hc;exact hx c (by simpa using h c (by simpa using hc))
theorem ZmF(hY:Y.K=X.K)(rh:RH Y H B h)(r:RD Y H B d v)(e:ZcT T.GD d h=some b):ZqW X.K v H b:=by
 cases d with
 | non=>cases r;cases e;rfl
 | bl c=>cases r;cases e;rfl
 | int c=>cases r;cases e;rfl
 | str c =>
   cases r;unfold ZcT at e;simp only at e;split at e
   . rename_i hz;cases e;refine ⟨hz,?_⟩;by_cases h0:c.length=0
     . simp [h0]
     . have h1:((c.length:Int) != 0)=true:=by
         simp
         lia
       rw [h1];simp [h0]
   . cases e
 | tup xs =>
   obtain ⟨a,vs,rfl,t,s⟩:=r.tup_inv;cases e;exact .inr (.inl ⟨vs,hY ▸ t,by rw [s.isEmpty]⟩)
 | ref i =>
   unfold ZcT at e;simp only at e;split at e
   . rename_i q;cases e;obtain ⟨a,vs,rfl,_,h3,s⟩:=r.lst rh q;exact .inl ⟨vs,.of h3,by rw [s.isEmpty]⟩
   . rename_i q;cases e;obtain ⟨a,vs,rfl,_,h3,s⟩:=r.dic rh q;exact .inr (.inr ⟨vs,h3,by cases s<;>rfl⟩)
   . cases e
 | ro xs =>
   cases e;cases r with
   | ro q s=>exact .inl ⟨_,hY ▸ q.sq,by rw [s.isEmpty]⟩
 | ty n=>cases e
 | kd x=>cases e
end
end IV
end
section
namespace IV
open PySem PySem.Spec PyProof.Rows L2
section
variable {X:Cx}{Y:Yx}{E:XK}{T:Tb}{H:Hp}{B:List Addr}{h:Hd}
noncomputable def rS(Y:Yx)(E:XK):V->Option Int->Option Int->Hp->VK->Prop:=fun x l u H Q=>∃ d h B,RH Y H B h/\RD Y H B d x/\Fin Y (RD Y) H B (ZgX d l u h) Q E
theorem Zey(y:Str)(l u:Option Int):∀ c∈(StrLaws.sliceText y l u).cps.toList,c∈y.cps.toList:=by
 intro c hc;unfold StrLaws.sliceText at hc;split at hc
 . exact hc
 . simp only [List.mem_filterMap] at hc;obtain ⟨i,_,hi⟩:=hc;have:=Array.mem_of_getElem? hi;simpa using this
theorem Zkr{xs:List D}{lo hi:Option Int}(h:HT.sIx xs.length 0 lo=0/\HT.sIx xs.length xs.length hi=xs.length):cutD xs lo hi=xs:=by
 unfold cutD;rw [h.1,h.2];simp
theorem Znk(hY:Y.K=X.K):SlR X (rS Y E):=by
 intro pins s Z H x v vl vu lo hi sl Q I rx hs pl pu hh;obtain ⟨d,h,B,rh,r,f⟩:=hh;unfold ZgX at f;split at f
 . rename_i xs;obtain ⟨a,vs,rfl,t,rs⟩:=r.tup_inv;by_cases hw:HT.sIx vs.length 0 lo=0/\HT.sIx vs.length vs.length hi=vs.length
   . rw [Zkr (by rw [rs.length];exact hw)] at f;exact ZkQ pins s Z H _ v vl vu lo hi sl Q I rx hs pl pu ⟨a,vs,rfl,hY ▸ t,hw,f.ok rh (.tup t rs)⟩
   . exact Zpc pins s Z H _ v vl vu lo hi sl Q I rx hs pl pu ⟨a,vs,rfl,hY ▸ t,hw,fun p hp=>f.tup rh hp (rs.cut lo hi)⟩
 . obtain ⟨hz,f⟩:=f.iff;obtain ⟨rfl,ok⟩:=r.str_inv;exact Zpd pins s Z H _ v vl vu lo hi sl Q I rx hs pl pu ⟨_,rfl,hz,f.ok rh (.str _ (Zlw ok (Zey _ _ _)))⟩
 . split at f
   . rename_i xs e1;obtain ⟨a,vs,rfl,hl,rs⟩:=r.lstOf rh e1;exact ZmJ pins s Z H _ v vl vu lo hi sl Q I rx hs pl pu ⟨a,vs,rfl,hY ▸ hl,fun p hp=>f.new rh hp ⟨_,Zg,(rs.cut lo hi).mono rh (Gr.lay hp)⟩⟩
   . exact f.elim
noncomputable def rF(Y:Yx)(E:XK)(f:List D->Hd->R D):List V->Hp->VK->Prop:=fun xs H Q=>∃ ds h B,RH Y H B h/\RDs Y H B ds xs/\Fin Y (RD Y) H B (f ds h) Q E
theorem RDs.one(r:RDs Y H B [d] xs):∃ x,xs=[x]/\RD Y H B d x:=by
 cases r with
 | cons a s=>cases s;exact ⟨_,rfl,a⟩
theorem RDs.two(r:RDs Y H B [d,e] xs):∃ x y,xs=[x,y]/\RD Y H B d x/\RD Y H B e y:=by
 cases r with
 | cons a s=>obtain ⟨y,rfl,b⟩:=s.one;exact ⟨_,_,rfl,a,b⟩
theorem Zn9 (hY:Y.K=X.K):Zae X (.builtin "len") (rF Y E ZhM):=by
 intro pins s Z H xs us Q I r hh;obtain ⟨ds,h,B,rh,rs,f⟩:=hh;unfold ZhM at f;split at f
 . obtain ⟨hz,f⟩:=f.iff;obtain ⟨x,rfl,rd⟩:=rs.one;obtain ⟨rfl,ok⟩:=rd.str_inv;exact Zgx pins s Z H _ us Q I r ⟨_,rfl,hz,f.ok rh (.int _)⟩
 . obtain ⟨e,e1,f⟩:=f.ofO;obtain ⟨zs,e2,rfl⟩:=Oo.mp e1;obtain ⟨x,rfl,rd⟩:=rs.one;obtain ⟨a,vs,rfl,hq,rv⟩:=rd.seqOf rh e2;refine Zgy pins s Z H _ us Q I r ⟨a,vs,rfl,hY ▸ hq,?_⟩;rw [<- rv.length];exact f.ok rh (.int _)
 . exact f.elim
theorem ZnF{K:PySem.W.Frag}{t T:String}{b:Bool}(e:Zip t T=some b):PySem.W.kitOne K (.type t) (.type T)=some b:=by
 have all:(["int", "str", "bool", "tuple", "list"].all fun T=>["int", "str", "bool", "tuple", "list", "NoneType"].all fun t=>decide (PySem.W.kitOne [] (.type t) (.type T)=some (t==T || (t == "bool" && T == "int"))))=true:=by decide +kernel
 unfold Zip at e;split at e
 . rename_i hm;cases e;rw [OC] at all;have h1:=all T hm.1;rw [OC] at h1;exact Zki (of_decide_eq_true (h1 t hm.2))
 . cases e
theorem Zrd(hY:Y.K=X.K)(rh:RH Y H B h)(r:RD Y H B d v)(e:Zre d h=some t):TyN X.K v H t:=by
 have lst:(IV.lstOf d h).map (fun _ => "list")=some t->TyN X.K v H t:=fun e=>by
   obtain ⟨xs,e1,rfl⟩:=Oo.mp e;obtain ⟨a,vs,rfl,hl,rs⟩:=r.lstOf rh e1;exact .inl ⟨rfl,vs,hY ▸ hl⟩
 cases d with
 | int i=>cases e;cases r;rfl
 | str i=>cases e;cases r;rfl
 | bl i=>cases e;cases r;rfl
 | non=>cases e;cases r;rfl
 | tup xs =>
   cases e;obtain ⟨a,vs,rfl,t,rs⟩:=r.tup_inv;exact .inr ⟨rfl,vs,hY ▸ t⟩
 | ref i=>exact lst e
 | ro xs=>exact lst e
 | ty n=>exact lst e
 | kd x=>exact lst e
theorem Zoa (hY:Y.K=X.K):Zae X (.builtin "isinstance") (rF Y E ZqN):=by
 intro pins s Z H xs us Q I r hh;obtain ⟨ds,h,B,rh,rs,f⟩:=hh;unfold ZqN at f;split at f
 . obtain ⟨e,e1,f⟩:=f.ofO;obtain ⟨t,e2,e3⟩:=Option.bind_eq_some_iff.mp e1;obtain ⟨b,e4,rfl⟩:=Oo.mp e3;obtain ⟨x,y,rfl,r1,r2⟩:=rs.two;cases r2;exact Zme pins s Z H _ us Q I r ⟨x,t,_,b,rfl,Zrd hY rh r1 e2,ZnF e4,f.ok rh (.bl _)⟩
 . exact f.elim
theorem Zob:Zae X (.type "int") (rF Y E ZqO):=by
 intro pins s Z H xs us Q I r hh;obtain ⟨ds,h,B,rh,rs,f⟩:=hh;unfold ZqO at f;split at f
 . obtain ⟨x,rfl,r1⟩:=rs.one;cases r1;exact Zf0 pins s Z H _ us Q I r (.inl ⟨_,rfl,f.ok rh (.int _)⟩)
 . obtain ⟨x,rfl,r1⟩:=rs.one;cases r1;exact Zf0 pins s Z H _ us Q I r (.inr ⟨_,rfl,f.ok rh (.int _)⟩)
 . exact f.elim
theorem Zn5 (hY:Y.K=X.K):Zae X (.type "tuple") (rF Y E Zmm):=by
 intro pins s Z H xs us Q I r hh;obtain ⟨ds,h,B,rh,rs,f⟩:=hh;unfold Zmm at f;split at f
 . obtain ⟨x,rfl,r1⟩:=rs.one;obtain ⟨a,vs,rfl,t,rv⟩:=r1.tup_inv;exact ZcR pins s Z H _ us Q I r ⟨a,vs,rfl,.inr ⟨hY ▸ t,f.ok rh (.tup t rv)⟩⟩
 . obtain ⟨e,e1,f⟩:=f.ofO;obtain ⟨zs,e2,rfl⟩:=Oo.mp e1;obtain ⟨x,rfl,r1⟩:=rs.one;obtain ⟨a,vs,rfl,hl,rv⟩:=r1.lstOf rh e2;exact ZcR pins s Z H _ us Q I r ⟨a,vs,rfl,.inl ⟨hY ▸ hl,fun p hp=>f.tup rh hp rv⟩⟩
 . exact f.elim
theorem Zn8 (hY:Y.K=X.K):Zae X (.type "list") (rF Y E Zmq):=by
 intro pins s Z H xs us Q I r hh;obtain ⟨ds,h,B,rh,rs,f⟩:=hh;unfold Zmq at f;split at f
 . split at f
   . rename_i e2;obtain ⟨x,rfl,r1⟩:=rs.one;obtain ⟨a,vs,rfl,hq,rv⟩:=r1.seqOf rh e2;exact Zgw pins s Z H _ us Q I r ⟨a,vs,rfl,hY ▸ hq,fun p hp=>f.new rh hp ⟨_,Zg,rv.mono rh (Gr.lay hp)⟩⟩
   . exact f.elim
 . exact f.elim
theorem Zhd:∀ {ds:List D}{vs:List V}{ns:List Int},RDs Y H B ds vs->intsOf ds=some ns->vs=ns.map V.int
 | _,_,_,.nil,e=>by cases e;rfl
 | _,_,_,.cons (d:=d) a s,e=>by
   cases d with
   | int i =>
     rw [intsOf] at e;obtain ⟨z,e1,rfl⟩:=Oo.mp e;cases a;rw [Zhd s e1];rfl
   | _=>cases e
theorem ZjP:∀ {ds:List D}{vs:List V}{ns:List Bool},RDs Y H B ds vs->Zd2 ds=some ns->vs=ns.map V.bl
 | _,_,_,.nil,e=>by cases e;rfl
 | _,_,_,.cons (d:=d) a s,e=>by
   cases d with
   | bl i =>
     rw [Zd2] at e;obtain ⟨z,e1,rfl⟩:=Oo.mp e;cases a;rw [ZjP s e1];rfl
   | _=>cases e
theorem Zn7 (hc:X.A.handled=none) (hY:Y.K=X.K):Zae X (.builtin "sum") (rF Y E Zom):=by
 intro pins s Z H xs us Q I r hh;obtain ⟨ds,h,B,rh,rs,f⟩:=hh;unfold Zom at f;split at f
 . obtain ⟨e,e1,f⟩:=f.ofO;obtain ⟨ns,e2,rfl⟩:=Oo.mp e1;obtain ⟨zs,e3,e4⟩:=Option.bind_eq_some_iff.mp e2;obtain ⟨x,rfl,r1⟩:=rs.one;obtain ⟨a,vs,rfl,hl,rv⟩:=r1.lstOf rh e3;rw [Zhd rv e4] at hl;exact Zkt hc pins s Z H _ us Q I r ⟨a,ns,rfl,hY ▸ hl,f.ok rh (.int _)⟩
 . exact f.elim
theorem ZgM:∀ (ss:List Str),(∀ x∈ss,PyData.strOk x=true)->RDs Y H B (ss.map D.str) (ss.map V.str)
 | [],_=>.nil
 | x::ss,h=>.cons (.str _ (h x (.head _))) (ZgM ss fun y hy=>h y (.tail _ hy))
theorem ZfM:∀ {ds:List D}{vs:List V}{ss:List Str},RDs Y H B ds vs->strsOf ds=some ss->vs=ss.map V.str
 | _,_,_,.nil,e=>by cases e;rfl
 | _,_,_,.cons (d:=d) a s,e=>by
   cases d with
   | str i =>
     rw [strsOf] at e;obtain ⟨z,e1,rfl⟩:=Oo.mp e;cases a;rw [ZfM s e1];rfl
   | _=>cases e
noncomputable def rM(Y:Yx)(E:XK)(m:Mf):V->List V->Hp->VK->Prop:=fun x xs H Q=>∃ d ds h B,RH Y H B h/\RD Y H B d x/\RDs Y H B ds xs/\Fin Y (RD Y) H B (ZaY m d ds h) Q E
noncomputable def mid:Mf->String
 | .app => "list.append"
 | .ext => "list.extend"
 | .pop => "list.pop"
 | .rev => "list.reverse"
 | .clr => "list.clear"
theorem Zjo(hY:Y.K=X.K)(m:Mf):MtM X (mid m) (rM Y E m):=by
 intro pins s Z H x xs v us Q I rx rs hh;obtain ⟨d,ds,h,B,rh,r1,r2,f⟩:=hh;unfold ZaY at f;split at f
 . split at f
   . rename_i i ys e;obtain ⟨a,vs,rfl,hi,hl,rv⟩:=r1.lst rh e;cases m with
     | app =>
       unfold Zd8 ZlH at f;simp only at f;split at f
       . obtain ⟨hz,f⟩:=f.iff;obtain ⟨y,rfl,ry⟩:=r2.one;have g:Gr H B (upd H a (.lst (vs++[y]))) B:=Gr.write (O1 hi) (by rw [hl];trivial);exact ZfT pins s Z H _ _ v us Q I rx rs ⟨a,vs,y,rfl,rfl,hl,by rw [<- rv.length];exact hz,f.wrote rh hi ⟨_,Zg,(rv.append (.cons ry .nil)).mono rh g⟩ .non (by rw [hl];trivial)⟩
       . exact f.elim
     | ext =>
       unfold Zd8 Zp1 at f;simp only at f;split at f
       . split at f
         . rename_i zs e2;obtain ⟨hz,f⟩:=f.iff;obtain ⟨y,rfl,ry⟩:=r2.one;obtain ⟨b,ws,rfl,hj,hl2,rw'⟩:=ry.lst rh e2;have g:Gr H B (upd H a (.lst (vs++ws))) B:=Gr.write (O1 hi) (by rw [hl];trivial);exact Zke pins s Z H _ _ v us Q I rx rs ⟨a,b,vs,ws,rfl,rfl,hl,hl2,by rw [<- rv.length,<- rw'.length];exact hz,f.wrote rh hi ⟨_,Zg,(rv.append rw').mono rh g⟩ .non (by rw [hl];trivial)⟩
         . exact f.elim
       . obtain ⟨hz,f⟩:=f.iff;obtain ⟨y,rfl,ry⟩:=r2.one;obtain ⟨b,ws,rfl,t,rw'⟩:=ry.tup_inv;have g:Gr H B (upd H a (.lst (vs++ws))) B:=Gr.write (O1 hi) (by rw [hl];trivial);exact Zid pins s Z H _ _ v us Q I rx rs ⟨a,b,vs,ws,rfl,rfl,hl,hY ▸ t,by rw [<- rv.length,<- rw'.length];exact hz,f.wrote rh hi ⟨_,Zg,(rv.append rw').mono rh g⟩ .non (by rw [hl];trivial)⟩
       . exact f.elim
     | pop =>
       unfold Zd8 ZnB at f;simp only at f;split at f
       . split at f
         . rename_i y e2;cases r2;rw [rv.length] at e2;obtain ⟨w,e3,rw'⟩:=rv.get e2;have g:Gr H B (upd H a (.lst vs.dropLast)) B:=Gr.write (O1 hi) (by rw [hl];trivial);exact ZpW pins s Z H _ _ v us Q I rx rs ⟨a,vs,w,rfl,rfl,hl,e3,f.wrote rh hi ⟨_,Zg,rv.dropLast.mono rh g⟩ (rw'.mono rh g) (by rw [hl];trivial)⟩
         . exact f.elim
       . exact f.elim
     | rev =>
       unfold Zd8 Zp0 at f;simp only at f;split at f
       . cases r2;have g:Gr H B (upd H a (.lst vs.reverse)) B:=Gr.write (O1 hi) (by rw [hl];trivial);exact Zic pins s Z H _ _ v us Q I rx rs ⟨a,vs,rfl,rfl,hl,f.wrote rh hi ⟨_,Zg,rv.reverse.mono rh g⟩ .non (by rw [hl];trivial)⟩
       . exact f.elim
     | clr =>
       unfold Zd8 Zsg at f;simp only at f;split at f
       . cases r2;exact ZlC pins s Z H _ _ v us Q I rx rs ⟨a,vs,rfl,rfl,hl,f.wrote rh hi ⟨_,Zg,.nil⟩ .non (by rw [hl];trivial)⟩
       . exact f.elim
   . exact f.elim
 . exact f.elim
noncomputable def rP(Y:Yx)(E:XK):Zkx:=fun o i v H Q=>∃ a b c h B,RH Y H B h/\RD Y H B a o/\RD Y H B b i/\RD Y H B c v/\Fin Y (fun _ _ (_:Unit) (_:Unit)=>True) H B (ZeE a b c h) (fun _ H'=>Q H') E
theorem Zpn:Zky X (rP Y E):=by
 intro pins s Z H o i v ov iv u Q I ro ri rv hh;obtain ⟨a,b,c,h,B,rh,ra,rb,rc,f⟩:=hh;unfold ZeE at f;split at f
 . split at f
   . rename_i j xs e;split at f
     . split at f
       . rename_i j' e2;obtain ⟨p,vs,rfl,hi,hl,rs⟩:=ra.lst rh e;have hb:=rb.int_inv;subst hb;rw [rs.length] at e2;have g:Gr H B (upd H p (.lst (vs.set j' v))) B:=Gr.write (O1 hi) (by rw [hl];trivial);exact set_list pins s Z H _ _ v ov iv u Q I ro ri rv ⟨p,vs,_,j',rfl,rfl,hl,e2,f.wrote (b:=()) rh hi ⟨_,Zg,(RDs.set rc j' rs).mono rh g⟩ trivial (by rw [hl];trivial)⟩
       . exact f.elim
     . exact f.elim
   . rename_i j kvs e;split at f
     . rename_i k e2;obtain ⟨hz,f⟩:=f.iff;obtain ⟨p,vs,rfl,hi,hl,rs⟩:=ra.dic rh e;have g:Gr H B (upd H p (.dK (putK vs k v))) B:=Gr.write (O1 hi) (by rw [hl];trivial);exact set_dict pins s Z H _ _ v ov iv u Q I ro ri rv ⟨p,vs,k,rfl,Zcn rb e2,hl,by rw [<- rs.length];exact hz,f.wrote (b:=()) rh hi ⟨_,Zg,(rs.put k rc).mono rh g⟩ trivial (by rw [hl];trivial) (ZeU (rh.ks _ _ e) (ZlO rb e2))⟩
     . exact f.elim
   . exact f.elim
 . exact f.elim
end
end IV
end
section
namespace IV
open PySem PySem.Spec PyProof.Rows L2
noncomputable def rW(K:PySem.W.Frag)(x:V)(H1:Hp)(R:It->Hp->Prop):Prop :=
 (∃ a,x=.ref a/\(∃ xs,SqL K H1 a xs)/\R (Itl K a) H1)\/(∃ a,x=.ref a/\(∃ xs,SqT K H1 a xs)/\R (Itt K a) H1)
theorem Zpt(hl:PE X l tl):PI X tg l (fun Z H R=>tl Z H fun x H1=>rW X.K x H1 R):=by
 intro pins s Z H R I h;refine thn (hl pins s Z H _ I h) fun v s1 ⟨x,H1,I1,r1,q1⟩=>?_;have fp1:∀ b∈[s1.heap.objs.size],ZcC X pins H1 b:=fun b hb=>by
   have e:b=s1.heap.objs.size:=by simpa using hb
   subst e;exact I1.fpOk (Oq _) (I1.hok.fresh (Oq _))
 rcases q1 with ⟨a,rfl,⟨xs,hq⟩,q⟩|⟨a,rfl,⟨xs,hq⟩,q⟩
 . cases r1;obtain ⟨its,rv,p,hz⟩:=I1.list hq;exact wpAny_pyIter_list p.isList ⟨s1.heap.objs.size,[s1.heap.objs.size],_,_,H1,rfl,I1.kept (t':=s1.toks) fun b o e=>Od _ e,ZjU a _,⟨_,Oj _ rfl,rfl,rfl⟩,fp1,q⟩
 . cases r1;obtain ⟨its,rv,p,hz⟩:=I1.tuple hq;exact wpAny_pyIter_tuple (show s1.heap.IsTuple a its.toArray from p) ⟨s1.heap.objs.size,[s1.heap.objs.size],_,_,H1,rfl,I1.kept (t':=s1.toks) fun b o e=>Od _ e,ZhQ a _,⟨_,Oj _ rfl,rfl,rfl⟩,fp1,q⟩
noncomputable def WJ(Y:Yx)(H0:Hp)(μ0:List Addr)(w:Wk)(J:It):Prop:=∀ H B h,Gr H0 μ0 H B->RH Y H B h->Wk.stays w.src h=true ->
 (∀ i d,w.xs[i]? = some d->J.go i H/\∀ x H',J.yld i H x H'->Gr H B H' B/\RH Y H' B h/\RD Y H' B d x)/\J.stop w.xs.length H
section
variable {X:Cx}{Y:Yx}{E:XK}{T:Tb}{H:Hp}{B:List Addr}{h:Hd}
theorem ZoW(hY:Y.K=X.K)(rh:RH Y H B h)(t:SqT Y.K H a vs)(s:RDs Y H B xs vs):WJ Y H B ⟨[],xs⟩ (Itt X.K a):=by
 intro H1 μ1 h1 g rh1 st;have t1:=g.rdT rh t;have s1:=s.mono rh g;rw [hY] at t1;refine ⟨fun i d e=>?_,⟨vs,t1,by rw [s.length];exact Oq _⟩⟩;obtain ⟨v,e1,r1⟩:=s1.get e;refine ⟨⟨vs,v,t1,e1⟩,fun x H' ⟨eH,q⟩=>?_⟩;subst eH;have:=q vs t1;rw [e1] at this;cases this;exact ⟨Gr.refl,rh1,r1⟩
theorem Zq6(hY:Y.K=X.K)(rh:RH Y H B h)(t:FzL Y.K H a vs)(s:RDs Y H B xs vs):WJ Y H B ⟨[],xs⟩ (Itl X.K a):=by
 intro H1 μ1 h1 g rh1 st;have t1:=(g.rdF rh t).sq;have s1:=s.mono rh g;rw [hY] at t1;refine ⟨fun i d e=>?_,⟨vs,t1,by rw [s.length];exact Oq _⟩⟩;obtain ⟨v,e1,r1⟩:=s1.get e;refine ⟨⟨vs,v,t1,e1⟩,fun x H' ⟨eH,q⟩=>?_⟩;subst eH;have:=q vs t1;rw [e1] at this;cases this;exact ⟨Gr.refl,rh1,r1⟩
theorem ZgO(st:Wk.stays ((i,xs)::r) h=true):h[i]? = some (.lst xs):=of_decide_eq_true (Bool.and_eq_true_iff.mp st).1
theorem ZoZ(hi:B[i]? = some a):WJ Y H B ⟨[(i,xs)],xs⟩ (Itl X.K a):=by
 intro H1 μ1 h1 g rh1 st;obtain ⟨vs,hl,s1⟩:=rh1.ob i _ a (ZgO st) (g.pre i a hi);have t1:SqL X.K H1 a vs:=.of hl;refine ⟨fun i d e=>?_,⟨vs,t1,by rw [s1.length];exact Oq _⟩⟩;obtain ⟨v,e1,r1⟩:=s1.get e;refine ⟨⟨vs,v,t1,e1⟩,fun x H' ⟨eH,q⟩=>?_⟩;subst eH;have:=q vs t1;rw [e1] at this;cases this;exact ⟨Gr.refl,rh1,r1⟩
theorem ZoX{lo:Int}:WJ Y H B ⟨[],Z6 lo n⟩ (Itr lo n):=by
 intro H1 μ1 h1 g rh1 st;have hl:(Z6 lo n).length=n:=by simp [Z6]
 refine ⟨fun i d e=>?_,by show n<=(Z6 lo n).length;rw [hl];exact Oq _⟩;have hi:i<n:=by
   have:=(Ob.mp e).1;rw [hl] at this;exact this
 refine ⟨hi,fun x H' ⟨eH,q⟩=>?_⟩;subst eH q;have:d=.int (lo+i):=by
   unfold Z6 at e;rw [On,List.getElem?_range hi] at e;exact (Option.some.inj e).symm
 subst this;exact ⟨Gr.refl,rh1,.int _⟩
theorem ZoY(hY:Y.K=X.K)(rh:RH Y H B h)(t:SqT Y.K H a vs)(s:RDs Y H B xs vs):WJ Y H B ⟨[],xs.reverse⟩ (Itv X.K a vs.length):=by
 intro H1 μ1 h1 g rh1 st;have t1:=g.rdT rh t;have s1:=(s.mono rh g).reverse;rw [hY] at t1;refine ⟨fun i d e=>?_,⟨vs,t1,rfl,by simp [s.length]⟩⟩;obtain ⟨v,e1,r1⟩:=s1.get e;refine ⟨⟨vs,v,t1,rfl,e1⟩,fun x H' ⟨eH,q⟩=>?_⟩;subst eH;have:=q vs t1;rw [e1] at this;cases this;exact ⟨Gr.refl,rh1,r1⟩
theorem Zmz(hi:B[i]? = some a):WJ Y H B ⟨[(i,xs)],xs.reverse⟩ (ZqX X.K a xs.length):=by
 intro H1 μ1 h1 g rh1 st;obtain ⟨vs,hl,s0⟩:=rh1.ob i _ a (ZgO st) (g.pre i a hi);have t1:SqL X.K H1 a vs:=.of hl;have s1:=s0.reverse;refine ⟨fun i d e=>?_,⟨vs,t1,s0.length.symm,by simp⟩⟩;obtain ⟨v,e1,r1⟩:=s1.get e;refine ⟨⟨vs,v,t1,s0.length.symm,e1⟩,fun x H' ⟨eH,q⟩=>?_⟩;subst eH;have:=q vs t1;rw [e1] at this;cases this;exact ⟨Gr.refl,rh1,r1⟩
theorem ZmA{d:D}{R:It->Hp->Prop}(hY:Y.K=X.K)(rh:RH Y H B h)(r:RD Y H B d x)(e:Zeq d h=some w)(q:∀ J,WJ Y H B w J->R J H):rW X.K x H R:=by
 cases d with
 | tup xs =>
   cases e;obtain ⟨a,vs,rfl,t,s⟩:=r.tup_inv;exact .inr ⟨a,rfl,⟨vs,hY ▸ t⟩,q _ (ZoW hY rh t s)⟩
 | ro xs =>
   cases e;cases r with
   | ro t s=>exact .inl ⟨_,rfl,⟨_,hY ▸ t.sq⟩,q _ (Zq6 hY rh t s)⟩
 | ref i =>
   unfold Zeq at e;simp only at e;split at e
   . rename_i xs he;cases e;obtain ⟨a,vs,rfl,hi,hl,s⟩:=r.lst rh he;exact .inl ⟨a,rfl,⟨vs,.of hl⟩,q _ (ZoZ hi)⟩
   . cases e
 | _=>cases e
end
end IV
end
section
namespace IV
open PySem PySem.Spec PyProof.Rows L2
structure Kl where
 cs:List Str
 ats:List Str
 ms:List (Str×Str)
 is:List Str
 xs:List Str:=[]
 xa:List (Str×Str):=[]
 xi:List (Str×Str×Bool):=[]
structure Gm where
 N:List Str
 sc:Scope
 fs:List Str
 top:Bool
 kl:Kl
noncomputable def glb (Γ:Gm) (x:Str):Bool:=decide (Γ.sc.names.lookup x=some .globalImplicit)&&!(x==("__debug__" : Str))
noncomputable def ZmC(sc:Scope)(x:Str):Bool:=decide (sc.names.lookup x=some .local) || decide (sc.names.lookup x=some .cell) || decide (sc.names.lookup x=some .free)
noncomputable def ZjN:Bf->Str
 | .len => "len" | .isi => "isinstance" | .int => "int" | .tup => "tuple" | .lst => "list" | .sum => "sum" | .all => "all" | .srt => "sorted" | .mx => "max" | .sri => "sorted" | .lnd => "len" | .dct => "dict" | .ldk => "list" | .anb => "any" | .tdk => "tuple" | .sto => "str" | .itx => "int"
noncomputable def bok:Bf->Bool
 | .mx=>false
 | .srt=>false
 | .all=>false
 | .sri=>false
 | .lnd=>false
 | .dct=>false
 | .ldk=>false
 | .sto=>false
 | .itx=>false
 | _=>true
noncomputable def ZlD:Mf->Str
 | .app => "append" | .ext => "extend" | .pop => "pop" | .rev => "reverse" | .clr => "clear"
noncomputable def ZjO:List Str:=["len", "isinstance", "int", "tuple", "list", "sum", "all", "sorted", "range", "enumerate", "reversed", "str", "bool", "max", "repr", "zip", "set", "dict", "any", "ValueError"]
noncomputable def ZiV:List String:=["int", "str", "bool", "tuple", "list"]
structure Pt where
 a:Expr:=default
 b:Expr:=default
 c:Expr:=default
 xs:List Expr:=[]
 s:Str:=⟨#[]⟩
 op:Operator:=.Add
 cs:List CmpOp:=[]
 u:UnaryOp:=.Not
 bo:BoolOp:=.And
 p:Pos:=default
 kw:List Keyword:=[]
 l:Option Expr:=none
 h:Option Expr:=none
 st:Option Expr:=none
 ks:List (Option Expr):=[]
 gs:List Comprehension:=[]
 sc:Scope:=default
 k:Nat:=0
 v:Const:=.none
noncomputable def tgE:Expr->Nat
 | .Starred _ _=>0|.BoolOp _ _ _=>1|.UnaryOp _ _ _=>2|.IfExp _ _ _ _=>3|.Compare _ _ _ _=>4|.Slice _ _ _ _=>5|.Name _ _=>6|.BinOp _ _ _ _=>7|.Tuple _ _ _=>8|.List _ _=>9
 | .Subscript _ _ _=>10|.Call _ _ _ _=>11|.Attribute _ _ _=>12|.ListComp _ _ _ _=>13|.Dict _ _ _=>14|.Constant _ _ _=>15|.NamedExpr _ _ _=>17|.Set _ _ _=>18|.SetComp _ _ _ _=>19|.DictComp _ _ _ _ _=>19|_=>16
noncomputable def prt(e:Expr):Pt:=match e with
 | .BoolOp o xs p=>{bo:=o,xs:=xs,p:=p}
 | .UnaryOp o x p=>{a:=x,u:=o,p:=p}
 | .IfExp t x y p=>{a:=t,b:=x,c:=y,p:=p}
 | .Compare l os rs p=>{a:=l,cs:=os,xs:=rs,p:=p}
 | .Slice l u s p=>{l:=l,h:=u,st:=s,p:=p}
 | .Name x p=>{s:=x,p:=p}
 | .BinOp l o r p=>{a:=l,b:=r,op:=o,p:=p}
 | .Tuple xs k p=>{xs:=xs,k:=k,p:=p}
 | .List xs p=>{xs:=xs,p:=p}
 | .Subscript x y p=>{a:=x,b:=y,p:=p}
 | .Call f xs kw p=>{a:=f,xs:=xs,kw:=kw,p:=p}
 | .Attribute x n p=>{a:=x,s:=n,p:=p}
 | .ListComp x gs sc p=>{a:=x,gs:=gs,p:=p,sc:=sc}
 | .Dict ks vs p=>{ks:=ks,xs:=vs,p:=p}
 | .Constant c k p=>{v:=c,k:=k,p:=p}
 | _=>{a:=e}
noncomputable def mkE(n:Nat)(p:Pt):Expr:=match n with
 | 1=>.BoolOp p.bo p.xs p.p|2=>.UnaryOp p.u p.a p.p|3=>.IfExp p.a p.b p.c p.p|4=>.Compare p.a p.cs p.xs p.p|5=>.Slice p.l p.h p.st p.p|6=>.Name p.s p.p|7=>.BinOp p.a p.op p.b p.p
 | 8=>.Tuple p.xs p.k p.p|9=>.List p.xs p.p|10=>.Subscript p.a p.b p.p|11=>.Call p.a p.xs p.kw p.p|12=>.Attribute p.a p.s p.p
 | 13=>.ListComp p.a p.gs p.sc p.p|14=>.Dict p.ks p.xs p.p|15=>.Constant p.v p.k p.p|_=>p.a
theorem rb(e:Expr):mkE (tgE e) (prt e)=e:=by cases e<;>rfl
theorem bL{a b:Bool}(h:(a&&b)=true):a=true:=by cases a with|true=>rfl|false=>cases h
theorem bR{a b:Bool}(h:(a&&b)=true):b=true:=by cases a with|true=>exact h|false=>cases h
theorem bO{a b:Bool}{P:Prop}(h:(a || b)=true)(l:a=true->P)(r:b=true->P):P:=by cases a with|true=>exact l rfl|false=>exact r h
theorem ff{P:Prop}(h:false=true):P:=by cases h
theorem dS{α:Type}{P:α->Prop}{a b:α}[Decidable (a=b)](h:decide (a=b)=true)(k:P b):P a:=of_decide_eq_true h ▸ k
noncomputable def an(n:Nat)(e:Expr)(f:Pt->Bool):Bool:=decide (tgE e=n)&&f (prt e)
section
variable {P:Expr->Prop}{e:Expr}
theorem Zav(h:an n e f=true)(k:∀ p,f p=true->P (mkE n p)):P e:=rb e ▸ dS (P:=fun m=>P (mkE m (prt e))) (bL h) (k _ (bR h))
noncomputable def l1{α:Type}(xs:List α)(f:α->Bool):Bool:=match xs with
 | [y]=>f y
 | _=>false
@[elab_as_elim] theorem ZbK{α:Type}{P:List α->Prop}{xs:List α}{f:α->Bool}(h:l1 xs f=true)(k:∀ y,f y=true->P [y]):P xs:=by
 cases xs with
 | nil=>cases h
 | cons y r =>
   cases r with
   | nil=>exact k y h
   | cons _ _=>cases h
noncomputable def l2{α:Type}(xs:List α)(f:α->α->Bool):Bool:=match xs with
 | [x,y]=>f x y
 | _=>false
@[elab_as_elim] theorem Zsp{α:Type}{P:List α->Prop}{xs:List α}{f:α->α->Bool}(h:l2 xs f=true)(k:∀ x y,f x y=true->P [x,y]):P xs:=by
 cases xs with
 | nil=>cases h
 | cons x r =>
   cases r with
   | nil=>cases h
   | cons y r =>
     cases r with
     | nil=>exact k x y h
     | cons _ _=>cases h
noncomputable def l0{α:Type}(xs:List α)(b:Bool):Bool:=xs.isEmpty&&b
theorem Zju{α:Type}{P:List α->Prop}{xs:List α}(h:l0 xs b=true)(k:b=true->P []):P xs:=by
 cases xs with
 | nil=>exact k h
 | cons _ _=>cases h
@[irreducible] noncomputable def aN(e:Expr)(f:Str->Bool):Bool:=an 6 e fun p=>f p.s
@[elab_as_elim] theorem Zsb(h:aN e f=true)(k:∀ x q,f x=true->P (.Name x q)):P e:=by
 unfold aN at h;exact Zav h fun _ h=>k _ _ h
@[irreducible] noncomputable def aX(x:Str)(e:Expr)(b:Bool):Bool:=an 6 e fun p=>decide (p.s=x)&&b
@[elab_as_elim] theorem ZoU(h:aX x e b=true)(k:∀ q,b=true->P (.Name x q)):P e:=by
 unfold aX at h;exact Zav h fun p h=>dS (P:=fun s=>P (.Name s p.p)) (bL h) (k _ (bR h))
@[irreducible] noncomputable def aB2(o:Operator)(e:Expr)(f:Expr->Expr->Bool):Bool:=an 7 e fun p=>decide (p.op=o)&&f p.a p.b
@[elab_as_elim] theorem Zs3(h:aB2 o e f=true)(k:∀ l r q,f l r=true->P (.BinOp l o r q)):P e:=by
 unfold aB2 at h;exact Zav h fun p h=>dS (P:=fun s=>P (.BinOp p.a s p.b p.p)) (bL h) (k _ _ _ (bR h))
@[irreducible] noncomputable def aC1(o:CmpOp)(e:Expr)(f:Expr->Expr->Bool):Bool:=an 4 e fun p=>decide (p.cs=[o])&&l1 p.xs fun r=>f p.a r
@[elab_as_elim] theorem Zf1(h:aC1 o e f=true)(k:∀ l r q,f l r=true->P (.Compare l [o] [r] q)):P e:=by
 unfold aC1 at h;exact Zav h fun p h=>dS (P:=fun s=>P (.Compare p.a s p.xs p.p)) (bL h) (ZbK (P:=fun s=>P (.Compare p.a [o] s p.p)) (bR h) fun _ h=>k _ _ _ h)
@[irreducible] noncomputable def aU(u:UnaryOp)(e:Expr)(f:Expr->Bool):Bool:=an 2 e fun p=>decide (p.u=u)&&f p.a
@[elab_as_elim] theorem Zo2(h:aU u e f=true)(k:∀ x q,f x=true->P (.UnaryOp u x q)):P e:=by
 unfold aU at h;exact Zav h fun p h=>dS (P:=fun s=>P (.UnaryOp s p.a p.p)) (bL h) (k _ _ (bR h))
@[irreducible] noncomputable def aO(o:BoolOp)(e:Expr)(f:List Expr->Bool):Bool:=an 1 e fun p=>decide (p.bo=o)&&f p.xs
@[elab_as_elim] theorem Znu(h:aO o e f=true)(k:∀ xs q,f xs=true->P (.BoolOp o xs q)):P e:=by
 unfold aO at h;exact Zav h fun p h=>dS (P:=fun s=>P (.BoolOp s p.xs p.p)) (bL h) (k _ _ (bR h))
@[irreducible] noncomputable def aI(e:Expr)(f:Expr->Expr->Expr->Bool):Bool:=an 3 e fun p=>f p.a p.b p.c
@[elab_as_elim] theorem Zt8(h:aI e f=true)(k:∀ t x y q,f t x y=true->P (.IfExp t x y q)):P e:=by
 unfold aI at h;exact Zav h fun _ h=>k _ _ _ _ h
@[irreducible] noncomputable def aT(e:Expr)(f:List Expr->Bool):Bool:=an 8 e fun p=>f p.xs
@[elab_as_elim] theorem ZgL(h:aT e f=true)(k:∀ xs j q,f xs=true->P (.Tuple xs j q)):P e:=by
 unfold aT at h;exact Zav h fun _ h=>k _ _ _ h
@[irreducible] noncomputable def aLs(e:Expr)(f:List Expr->Bool):Bool:=an 9 e fun p=>f p.xs
@[elab_as_elim] theorem Zsi(h:aLs e f=true)(k:∀ xs q,f xs=true->P (.List xs q)):P e:=by
 unfold aLs at h;exact Zav h fun _ h=>k _ _ h
@[irreducible] noncomputable def aS(e:Expr)(f:Expr->Expr->Bool):Bool:=an 10 e fun p=>f p.a p.b
@[elab_as_elim] theorem ZkT(h:aS e f=true)(k:∀ x y q,f x y=true->P (.Subscript x y q)):P e:=by
 unfold aS at h;exact Zav h fun _ h=>k _ _ _ h
@[irreducible] noncomputable def aSl(e:Expr)(f:Expr->Option Expr->Option Expr->Bool):Bool:=aS e fun x y=>an 5 y fun p=>p.st.isNone&&f x p.l p.h
@[elab_as_elim] theorem Zrx(h:aSl e f=true)(k:∀ x l u q r,f x l u=true->P (.Subscript x (.Slice l u none q) r)):P e:=by
 unfold aSl at h;exact ZkT h fun x _ r h=>Zav (P:=fun y=>P (.Subscript x y r)) h fun p h=>by
   show P (.Subscript x (.Slice p.l p.h p.st p.p) r);rw [Option.isNone_iff_eq_none.mp (bL h)];exact k _ _ _ _ _ (bR h)
@[irreducible] noncomputable def aCN(n:Str)(e:Expr)(f:List Expr->Bool):Bool:=an 11 e fun p=>aX n p.a (l0 p.kw (f p.xs))
@[elab_as_elim] theorem Zdp(h:aCN n e f=true)(k:∀ p ys q,f ys=true->P (.Call (.Name n p) ys [] q)):P e:=by
 unfold aCN at h;exact Zav h fun p h=>ZoU (P:=fun a=>P (.Call a p.xs p.kw p.p)) h fun q h=>Zju (P:=fun w=>P (.Call (.Name n q) p.xs w p.p)) h fun h=>k _ _ _ h
@[irreducible] noncomputable def aA(n:Str)(e:Expr)(f:Expr->Pos->Bool):Bool:=an 12 e fun p=>decide (p.s=n)&&f p.a p.p
@[elab_as_elim] theorem ZqV(h:aA n e f=true)(k:∀ x q,f x q=true->P (.Attribute x n q)):P e:=by
 unfold aA at h;exact Zav h fun p h=>dS (P:=fun s=>P (.Attribute p.a s p.p)) (bL h) (k _ _ (bR h))
@[irreducible] noncomputable def aCA(n:Str)(e:Expr)(f:Expr->Pos->List Expr->Pos->Bool):Bool:=an 11 e fun p=>aA n p.a fun x ap=>l0 p.kw (f x ap p.xs p.p)
@[elab_as_elim] theorem ZoM(h:aCA n e f=true)(k:∀ x ap ys cp,f x ap ys cp=true->P (.Call (.Attribute x n ap) ys [] cp)):P e:=by
 unfold aCA at h;exact Zav h fun p h=>ZqV (P:=fun a=>P (.Call a p.xs p.kw p.p)) h fun x q h=>Zju (P:=fun w=>P (.Call (.Attribute x n q) p.xs w p.p)) h fun h=>k _ _ _ _ h
@[irreducible] noncomputable def aLC(e:Expr)(f:Expr->Expr->Expr->List Expr->Scope->Bool):Bool:=an 13 e fun p=>l1 p.gs fun g=>match g with|⟨t,i,c,n⟩=>decide (n=0)&&f p.a t i c p.sc
@[elab_as_elim] theorem ZoE(h:aLC e f=true)(k:∀ x t i c sc q,f x t i c sc=true->P (.ListComp x [⟨t,i,c,0⟩] sc q)):P e:=by
 unfold aLC at h;exact Zav h fun p h=>ZbK (P:=fun g=>P (.ListComp p.a g p.sc p.p)) h fun g h=>match g,h with
   | ⟨t,i,c,_⟩,h=>dS (P:=fun s=>P (.ListComp p.a [⟨t,i,c,s⟩] p.sc p.p)) (bL h) (k _ _ _ _ _ _ (bR h))
@[irreducible] noncomputable def aD(e:Expr)(f:List (Option Expr)->List Expr->Bool):Bool:=an 14 e fun p=>f p.ks p.xs
@[elab_as_elim] theorem ZsU(h:aD e f=true)(k:∀ ks vs q,f ks vs=true->P (.Dict ks vs q)):P e:=by
 unfold aD at h;exact Zav h fun _ h=>k _ _ _ h
@[irreducible] noncomputable def aK(e:Expr)(f:Const->Bool):Bool:=an 15 e fun p=>f p.v
@[elab_as_elim] theorem Zt7(h:aK e f=true)(k:∀ c j q,f c=true->P (.Constant c j q)):P e:=by
 unfold aK at h;exact Zav h fun _ h=>k _ _ _ h
end
noncomputable def Zup:D->Const->Bool
 | .int i,.int j=>decide (i=j)
 | .str x,.str y=>decide (x=y)&&PyData.strOk y
 | .bl b,.bool c=>decide (b=c)
 | .non,.none=>true
 | _,_=>false
noncomputable def ZsW(Γ:Gm)(d:D)(e:Expr):Bool:=(aK e fun c=>Zup d c) || match d with
 | .ty n=>aX (Str.ofString n) e (decide (n∈ZiV)&&glb Γ (Str.ofString n))
 | _=>false
noncomputable def Zmd(NC N:List Str)(js:List (Option Nat))(sc scope:Scope):Bool :=
 decide (scope.kind=.function)&&decide (sc.kind=.function)&&(scope.names.all fun y=>decide (y.2≠.cell))&&(scope.names.all fun y=>!decide (y.2=.local) || decide (scope.names.lookup y.1=some .local)) &&
   (scope.names.all fun y=>!decide (y.2=.free) || decide (sc.names.lookup y.1=some .cell))&&decide NC.Nodup&&decide (js.length=NC.length) &&
   ((NC.zip js).all fun p=>p.2.all fun j=>decide (N[j]? = some p.1)&&decide (scope.names.lookup p.1=some .free))
theorem Zhp(h:Zmd NC N js sc scope=true):CompSc NC N js sc scope:=by
 unfold Zmd at h;rw [Oa,Oa,Oa,Oa,Oa,Oa,Oa] at h;obtain ⟨⟨⟨⟨⟨⟨⟨a,b⟩,c⟩,d⟩,e⟩,f⟩,g⟩,i⟩:=h;rw [OC] at c d e;refine ⟨of_decide_eq_true a,of_decide_eq_true b,fun y hy=>of_decide_eq_true (c y hy),fun y hy e1=>?_,fun y hy e1=>?_,of_decide_eq_true f,of_decide_eq_true g,i⟩
 . have:=d y hy;rw [decide_eq_true e1] at this;simpa using this
 . have:=e y hy;rw [decide_eq_true e1] at this;simpa using this
noncomputable def Zkd(N:List Str)(own:Str->Bool)(i:Nat)(e:Expr):Bool:=aN e fun x=>decide (N[i]? = some x)&&own x
noncomputable def ZjJ(N:List Str)(own:Str->Bool):List Nat->List Expr->Bool
 | [],es=>es.isEmpty
 | i::is,es=>match es with
   | e::es=>Zkd N own i e&&ZjJ N own is es
   | []=>false
noncomputable def ZjL(N:List Str)(own:Str->Bool)(i j:Nat)(e:Expr):Bool:=aT e fun es=>l2 es fun a b=>Zkd N own i a&&Zkd N own j b
noncomputable def ZjK(N:List Str)(own:Str->Bool)(is:List Nat)(e:Expr):Bool:=aT e fun es=>ZjJ N own is es
noncomputable def Zn0(N:List Str)(own:Str->Bool)(g:Tg)(e:Expr):Bool:=match g with
 | .nm i=>Zkd N own i e
 | .two i j=>ZjL N own i j e
 | .many is=>ZjK N own is e
@[elab_as_elim] theorem Zbc{P:Expr->Prop}(h:Zkd N own i e=true)(k:∀ x p,N[i]? = some x->own x=true->P (.Name x p)):P e:=Zsb h fun _ _ h=>k _ _ (of_decide_eq_true (bL h)) (bR h)
noncomputable def isTup(e:Expr):Bool:=decide (tgE e=8)
@[elab_as_elim] theorem Zsu{P:Expr->Prop}(h:isTup e=true)(k:∀ xs j q,P (.Tuple xs j q)):P e:=ZgL (P:=P) (f:=fun _=>true) (by unfold aT an;rw [show decide (tgE e=8)=true from h];rfl) fun _ _ _ _=>k _ _ _
noncomputable def tgk:Tg->Nat
 | .nm i=>i+1
 | .two i j=>max i j+1
 | .many is=>is.foldr max 0+1
noncomputable def ZrY(sc:Scope)(x:Str):Bool:=decide (sc.names.lookup x=some .local)
noncomputable def ownD(sc:Scope)(x:Str):Bool:=decide (sc.names.lookup x=some .local) || decide (sc.names.lookup x=some .cell)
noncomputable def Zbi(e:Expr):Bool:=decide (tgE e≠18)
noncomputable def ZbU(e:Expr):Bool:=decide (tgE e≠5)
noncomputable def ZaS(e:Expr):Bool:=decide (tgE e≠0)
noncomputable def Zbo(e:Expr):Bool:=!(decide (tgE e=11)&&(prt e).xs.isEmpty)
noncomputable def Zh4(e:Expr):Bool:=decide (6<=tgE e)&&decide (tgE e<=16)
mutual
noncomputable def chk(Γ:Gm):Ex->Expr->Bool
 | .var i,e=>aN e fun x=>decide (Γ.N[i]? = some x)&&(ZmC Γ.sc x&&(!(x==("__debug__" : Str))&&!(x==("__classdict__" : Str))))
 | .cst d,e=>ZsW Γ d e
 | .glo x,e=>aX x e (glb Γ x)
 | .bin op a b,e=>aB2 op e fun l r=>chk Γ a l&&chk Γ b r
 | .cmp op a b,e=>aC1 op e fun l r=>chk Γ a l&&(chk Γ b r&&Zbi r)
 | .cmp2 _ _ _ _ _,_=>false
 | .neg a,e=>aU .USub e fun x=>chk Γ a x
 | .nt a,e=>aU .Not e fun x=>chk Γ a x
 | .ands es,e=>aO .And e fun xs=>chks Γ es xs
 | .ors es,e=>aO .Or e fun xs=>chks Γ es xs
 | .ite c a b,e=>aI e fun t x y=>chkt Γ c t&&(chk Γ a x&&chk Γ b y)
 | .tupl es,e=>aT e fun xs=>chks Γ es xs
 | .lstl es,e=>aLs e fun xs=>chks Γ es xs
 | .ix a i,e=>aS e fun x y=>chk Γ a x&&(chk Γ i y&&ZbU y)
 | .sl a lo hi,e=>aSl e fun x l u=>chk Γ a x&&(chko Γ lo l&&chko Γ hi u)
 | .blt f es,e=>aCN (ZjN f) e fun ys=>(bok f&&glb Γ (ZjN f))&&(chks Γ es ys&&!ys.isEmpty)
 | .call f es,e=>aCN f e fun ys=>decide (f∈Γ.fs)&&(glb Γ f&&(chks Γ es ys&&!ys.isEmpty))
 | .meth m o es,e=>aCA (ZlD m) e fun x ap ys cp=>chk Γ o x&&(Zbo x&&(chks Γ es ys&&(decide (ys.length<29)&&(ap.endLine==cp.line))))
 | .trev _,_=>false
 | .lrv _,_=>false
 | .tix _ _,_=>false
 | .tmt _ _ _,_=>false
 | .lix _ _,_=>false
 | .lmu _ _,_=>false
 | .sin _ _,_=>false
 | .lin _ _,_=>false
 | .dne _ _,_=>false
 | .nin n a b,e=>aC1 (if n then .NotIn else .In) e fun l r=>chk Γ a l&&(chk Γ b r&&Zbi r)
 | .nix a i,e=>aS e fun x y=>chk Γ a x&&(chk Γ i y&&ZbU y)
 | .ndl,e=>aD e fun keys values=>keys.isEmpty&&values.isEmpty
 | .rpn o a b,e=>aC1 (bif o then .NotEq else .Eq) e fun l r=>aCN "repr" l fun ys=>l1 ys fun y=>aCN "repr" r fun zs=>l1 zs fun z=>glb Γ "repr" && (chk Γ a y&&(ZaS y&&(chk Γ b z&&ZaS z)))
 | .comp NC js it g c e,x=>aLC x fun elt tg iter ifs scope=>Γ.top&&(Zmd NC Γ.N js Γ.sc scope&&(chki Γ it tg iter&&(Zbi iter&&(Zn0 NC (ZrY scope) g tg&&(((List.range (tgk g)).all fun j=>decide (js[j]? = some none)) &&
       (chkf ⟨NC,scope,Γ.fs,false,Γ.kl⟩ c ifs&&chk ⟨NC,scope,Γ.fs,false,Γ.kl⟩ e elt))))))
 | .sorts _,_=>false
 | .maxd _ _,_=>false
 | .dictl ps,e=>aD e fun keys values=>decide (keys.length<=15)&&chkp Γ ps keys values
 | .att Cs o f,e=>aA f e fun x _=>chk Γ o x&&(Zbo x&&((Cs.all fun C=>decide (C∈Γ.kl.cs))&&decide (f∈Γ.kl.ats)))
 | .mk C es,e=>aCN C e fun ys=>decide (C∈Γ.kl.is)&&(glb Γ C&&chks Γ es ys)
 | .mcl C m o es,e=>aCA m e fun x ap ys cp=>chk Γ o x&&(Zbo x&&(chks Γ es ys&&(decide ((C,m)∈Γ.kl.ms)&&(decide (ys.length<29)&&(ap.endLine==cp.line)))))
 | .any,_=>true
noncomputable def chks(Γ:Gm):Exs->List Expr->Bool
 | .nil,es=>es.isEmpty
 | .cons e r,es=>match es with
   | x::xs=>chk Γ e x&&(ZaS x&&chks Γ r xs)
   | []=>false
noncomputable def chkp(Γ:Gm):Exs->List (Option Expr)->List Expr->Bool
 | .nil,ks,vs=>ks.isEmpty&&vs.isEmpty
 | .cons k r,ks,vs=>match r with
   | .cons v r'=>match ks,vs with
     | some kx::ks,vx::vs=>chk Γ k kx&&(chk Γ v vx&&chkp Γ r' ks vs)
     | _,_=>false
   | .nil=>false
noncomputable def chko(Γ:Gm):Option Ex->Option Expr->Bool
 | none,x=>x.isNone
 | some a,x=>match x with
   | some x=>chk Γ a x
   | none=>false
noncomputable def chkf(Γ:Gm):Option Tx->List Expr->Bool
 | none,x=>x.isEmpty
 | some a,x=>l1 x fun x=>chkt Γ a x
noncomputable def Zuo(Γ:Gm):Ex->Expr->Bool
 | .cmp op a b,e=>aC1 op e fun l r=>chk Γ a l&&(chk Γ b r&&Zbi r)
 | .nin n a b,e=>aC1 (if n then .NotIn else .In) e fun l r=>chk Γ a l&&(chk Γ b r&&Zbi r)
 | .rpn o a b,e=>aC1 (bif o then .NotEq else .Eq) e fun l r=>aCN "repr" l fun ys=>l1 ys fun y=>aCN "repr" r fun zs=>l1 zs fun z=>glb Γ "repr" && (chk Γ a y&&(ZaS y&&(chk Γ b z&&ZaS z)))
 | _,_=>false
noncomputable def chkt(Γ:Gm):Tx->Expr->Bool
 | .ex e,x=>(Zh4 x&&chk Γ e x) || Zuo Γ e x
 | .ands ts,x=>aO .And x fun xs=>chkts Γ ts xs
 | .ors ts,x=>aO .Or x fun xs=>chkts Γ ts xs
 | .nt t,x=>aU .Not x fun y=>chkt Γ t y
noncomputable def chkts(Γ:Gm):Txs->List Expr->Bool
 | .one t,xs=>l1 xs fun x=>chkt Γ t x
 | .cons t ts,xs=>match xs with
   | x::r=>chkt Γ t x&&(!r.isEmpty&&chkts Γ ts r)
   | _=>false
noncomputable def chki(Γ:Gm):Ix->Expr->Expr->Bool
 | .pl e,_,x=>chk Γ e x
 | .tw _,_,_=>false
 | .rng e,_,x=>aCN "range" x fun ys=>l1 ys fun y=>glb Γ "range" && (chk Γ e y&&ZaS y)
 | .rng2 _ _,_,_=>false
 | .enu _,_,_=>false
 | .rev e,_,x=>aCN "reversed" x fun ys=>l1 ys fun y=>glb Γ "reversed" && (chk Γ e y&&ZaS y)
 | .en1 _,_,_=>false
 | .zl _ _,_,_=>false
 | .zp _ _,_,_=>false
 | .en0 _,_,_=>false
 | .dk _,_,_=>false
end
end IV
end
section
namespace IV
open PySem PySem.Spec PyProof.Rows L2
section
variable {X:Cx}{Y:Yx}{E:XK}{T:Tb}{H:Hp}{B:List Addr}{h:Hd}
theorem ZdX:∀ {ds:List (Key×D)}{vs:List (Key×V)}{ss:List Str},RKs Y H B ds vs->Zah ds=some ss->vs.map (·.1)=ss.map Sum.inr
 | _,_,_,.nil,e=>by cases e;rfl
 | _,_,_,.cons (k:=k) a s,e=>by
   cases k with
   | inl i=>cases e
   | inr x =>
     rw [Zah] at e;obtain ⟨z,e1,rfl⟩:=Oo.mp e;rw [Op,Op,ZdX s e1]
end
end IV
end
section
namespace IV
open PySem PySem.Spec PyProof.Rows L2
section
variable {X:Cx}{Y:Yx}{E:XK}{T:Tb}{H:Hp}{B:List Addr}{h:Hd}
theorem Zia(r:RD Y H B d v)(e:nkD d=some k):∃ b,v=.ref b/\KyS Y.K H b k:=by
 unfold nkD at e;split at e
 . obtain ⟨ss,e1,e2⟩:=Oo.mp e;subst e2;obtain ⟨a,vs,rfl,t,rs⟩:=r.tup_inv;obtain ⟨x,y,rfl,ra,rb⟩:=rs.two;cases ra.int_inv;obtain ⟨c,ws,rfl,t2,rs2⟩:=rb.tup_inv;rw [ZfM rs2 e1] at t2;exact ⟨a,rfl,c,t,t2⟩
 . cases e
theorem RD.dn(rh:RH Y H B h)(r:RD Y H B d v)(e:Zkq d h=some kvs):∃ a kvs' xs,v=.ref a/\H a=some (.dT xs)/\KN Y.K H kvs' xs/\RKs Y H B kvs kvs':=by
 unfold Zkq at e;split at e
 . split at e
   . rename_i i kvs0 q;cases e;cases r with
     | ref hi =>
       obtain ⟨kvs',xs,h1,h2,h3⟩:=rh.ob _ _ _ q hi;exact ⟨_,kvs',xs,rfl,h1,h2,h3⟩
   . cases e
 . cases e
theorem ZgH(s:RKs Y H B ds vs)(k:NK):(valN ds k=none/\ZaU vs k=none)\/∃ d v,valN ds k=some d/\ZaU vs k=some v/\RD Y H B d v:=by
 unfold valN ZaU;rcases s.val k with ⟨h1,h2⟩|⟨d,v,h1,h2,r⟩
 . exact .inl ⟨by rw [h1];rfl,by rw [h2];rfl⟩
 . exact .inr ⟨d,v,by rw [h1];rfl,by rw [h2];rfl,r⟩
theorem ZgY(n:Bool)(hr:Room k X.A)(hY:Y.K=X.K):OpR X (compareOp (if n then .NotIn else .In)) (rB Y E (ZhL n)):=by
 intro pins s Z H x y v u Q I rx ry hh;obtain ⟨dx,dy,h,B,rh,r1,r2,f⟩:=hh;unfold ZhL at f;split at f
 . rename_i kvs e1;split at f
   . rename_i k e2;obtain ⟨a,kvs',xs,rfl,ha,kn,rk⟩:=r2.dn rh e1;obtain ⟨b,rfl,kb⟩:=Zia r1 e2;rw [hY] at kn kb;have e:(valN kvs k).isSome=(ZaU kvs' k).isSome:=by
       rcases ZgH rk k with ⟨q1,q2⟩|⟨_,_,q1,q2,_⟩<;>rw [q1,q2]<;>rfl
     rw [e] at f;cases n with
     | true=>exact Zj7 hr pins s Z H _ _ v u Q I rx ry ⟨a,b,kvs',xs,k,rfl,rfl,kb,ha,kn,f.ok rh (.bl _)⟩
     | false=>exact ZpJ hr pins s Z H _ _ v u Q I rx ry ⟨a,b,kvs',xs,k,rfl,rfl,kb,ha,kn,f.ok rh (.bl _)⟩
   . exact f.elim
 . exact f.elim
theorem Zqk(hr:Room k X.A)(hY:Y.K=X.K):IxR X (rB Y E Zmp):=by
 intro value slice pins s Z H x y v u Q I rx ry hh hs;obtain ⟨dx,dy,h,B,rh,r1,r2,f⟩:=hh;unfold Zmp at f;split at f
 . rename_i kvs e1;split at f
   . rename_i k e2;obtain ⟨d,e3,f⟩:=f.ofO;obtain ⟨a,kvs',xs,rfl,ha,kn,rk⟩:=r1.dn rh e1;obtain ⟨b,rfl,kb⟩:=Zia r2 e2;rw [hY] at kn kb;rcases ZgH rk k with ⟨q1,_⟩|⟨d',w,q1,q2,q3⟩
     . rw [q1] at e3;cases e3
     . rw [q1] at e3;cases e3;exact Zst hr value slice pins s Z H _ _ v u Q I rx ry ⟨a,b,kvs',xs,k,w,rfl,rfl,kb,ha,kn,q2,f.ok rh q3⟩ hs
   . exact f.elim
 . exact f.elim
theorem RKs.putN{ds:List (NK×D)}{vs:List (NK×V)}(s:RKs Y H B ds vs)(k:NK)(r:RD Y H B d v):RKs Y H B (putN ds k d) (putK vs k v):=by
 unfold IV.putN putK;rw [s.any_rel k];split
 . exact s.map_rel k r
 . exact s.append (.cons r .nil)
noncomputable def rPN(Y:Yx)(E:XK):Zkx:=fun o i v H Q=>∃ a b c h B,RH Y H B h/\RD Y H B a o/\RD Y H B b i/\RD Y H B c v/\Fin Y (fun _ _ (_:Unit) (_:Unit)=>True) H B (Zmo a b c h) (fun _ H'=>Q H') E
theorem ZpS(hr:Room k X.A)(hY:Y.K=X.K):Zky X (rPN Y E):=by
 intro pins s Z H o i v ov iv u Q I ro ri rv hh;obtain ⟨a,b,c,h,B,rh,ra,rb,rc,f⟩:=hh;unfold Zmo at f;split at f
 . split at f
   . rename_i j kvs e;split at f
     . rename_i k e2;obtain ⟨hz,f⟩:=f.iff;obtain ⟨b',rfl,kb⟩:=Zia rb e2;cases ra with
       | ref hi =>
         obtain ⟨kvs',xs,ha,kn,rk⟩:=rh.ob _ _ _ e hi;have kn':=kn;have kb':=kb;rw [hY] at kn' kb';refine Zpg hr pins s Z H _ _ v ov iv u Q I ro ri rv ⟨_,b',kvs',xs,k,rfl,rfl,kb',ha,kn',by rw [<- rk.length];exact hz,fun r hrv=>?_⟩;have g:Gr H B (upd H _ (.dT (storedH xs k b' r))) B:=Gr.write (O1 hi) (by rw [ha];trivial);exact f.wrote (b:=()) rh hi ⟨putK kvs' k v,storedH xs k b' r,Zg,KN.tr (g.tr rh) (kn.put k kb hrv),(rk.putN k rc).mono rh g⟩ trivial (by rw [ha];trivial)
     . exact f.elim
   . exact f.elim
 . exact f.elim
theorem Zoc (hc:X.calm=true) (hY:Y.K=X.K):Zae X (.builtin "any") (rF Y E ZqP):=by
 intro pins s Z H xs us Q I r hh;obtain ⟨ds,h,B,rh,rs,f⟩:=hh;unfold ZqP at f;split at f
 . obtain ⟨e,e1,f⟩:=f.ofO;obtain ⟨ns,e2,rfl⟩:=Oo.mp e1;obtain ⟨zs,e3,e4⟩:=Option.bind_eq_some_iff.mp e2;obtain ⟨x,rfl,r1⟩:=rs.one;obtain ⟨a,vs,rfl,hl,rv⟩:=r1.lstOf rh e3;rw [ZjP rv e4] at hl;exact Zkv hc pins s Z H _ us Q I r ⟨a,ns,rfl,hY ▸ hl,f.ok rh (.bl _)⟩
 . exact f.elim
theorem Zn6 (hc:X.A.handled=none) (G:Gk X Y T):Zae X (.type "tuple") (rF Y E (Zmn T.GD)):=by
 intro pins s Z H xs us Q I r hh;obtain ⟨ds,h,B,rh,rs,f⟩:=hh;unfold Zmn at f;split at f
 . split at f
   . rename_i ss e2;obtain ⟨hok,f⟩:=f.iff;obtain ⟨kvs,e3,e4⟩:=Option.bind_eq_some_iff.mp e2;obtain ⟨x,rfl,r1⟩:=rs.one;obtain ⟨a,kvs',rfl,hd,rk⟩:=r1.dicOf G rh e3;refine Zhv hc pins s Z H _ us Q I r ⟨a,kvs',ss,rfl,hd,ZdX rk e4,fun p hp=>?_⟩;exact f.tup rh hp (ZgM _ fun y hy=>OC.mp hok y hy)
   . exact f.elim
 . exact f.elim
end
end IV
end
section
set_option tactic.hygienic false
namespace IV
open PySem PySem.Spec PyProof.Rows L2
noncomputable def RS(Y:Yx)(H:Hp)(B:List Addr)(S:Ev)(Z:L2.St):Prop:=Z.length=S.length/\∀ (i:Nat) (d:D),S[i]? = some (some d)->∃ v,Z[i]? = some (some v)/\RD Y H B d v
section
variable {Y:Yx}{H H':Hp}{B μ':List Addr}{h:Hd}{S:Ev}{Z:L2.St}
theorem RS.mono(rh:RH Y H B h)(g:Gr H B H' μ')(r:RS Y H B S Z):RS Y H' μ' S Z:=⟨r.1,fun i d e=>let ⟨v,h1,h2⟩:=r.2 i d e;⟨v,h1,h2.mono rh g⟩⟩
theorem RS.var(r:RS Y H B S Z){i:Nat}{d:D}(e:(S[i]?).join=some d):∃ v,Z[i]? = some (some v)/\RD Y H B d v:=by
 refine r.2 i d ?_;cases q:S[i]? with
 | none=>rw [q] at e;cases e
 | some o=>rw [q] at e;cases o with
   | none=>cases e
   | some d'=>cases e;rfl
theorem RS.set(r:RS Y H B S Z){i:Nat}{d:D}{v:V}(q:RD Y H B d v):RS Y H B (S.set i (some d)) (Z.set i (some v)):=by
 refine ⟨by simp [r.1],fun j e he=>?_⟩;by_cases hj:i=j
 . subst hj;have hl:i<S.length:=by
     have:=(Ob.mp he).1;simpa using this
   rw [Ol hl] at he;cases he;exact ⟨v,by rw [Ol (by rw [r.1];exact hl)],q⟩
 . rw [Oc hj] at he;obtain ⟨w,h1,h2⟩:=r.2 j e he;exact ⟨w,by rw [Oc hj];exact h1,h2⟩
theorem RS.capt(r:RS Y H B S Z)(js:List (Option Nat)):RS Y H B (Zdr js S) (capt js Z):=by
 refine ⟨by simp [Zdr,L2.capt],fun i d e=>?_⟩;unfold Zdr at e;unfold L2.capt;rw [On] at e ⊢;cases q:js[i]? with
 | none=>rw [q] at e;cases e
 | some o =>
   rw [q] at e;cases o with
   | none=>cases e
   | some j =>
     have e':(S[j]?).join=some d:=by simpa using e
     obtain ⟨v,h1,h2⟩:=r.var e';exact ⟨v,by simp [h1],h2⟩
end
inductive Sm(Y:Yx)(E:XK){α β:Type}(rel:Hp->List Addr->α->β->Prop)(m:Ev->Hd->R α)(Z:L2.St)(H:Hp)(Q:β->Hp->Prop):Prop
 | mk (S:Ev) (h:Hd) (B:List Addr) (rh:RH Y H B h) (rs:RS Y H B S Z) (f:Fin Y rel H B (m S h) Q E):Sm Y E rel m Z H Q
noncomputable def eqR{α:Type}:Hp->List Addr->α->α->Prop:=fun _ _ a b=>a=b
theorem Sm.bind{α β γ δ:Type}{Q:β->Hp->Prop}{rel:Hp->List Addr->γ->δ->Prop}{rel':Hp->List Addr->α->β->Prop}{m:Ev->Hd->R γ}{k:Ev->γ->Hd->R α}(s:Sm Y E rel' (fun S h=>(m S h).bind (k S)) Z H Q)
   {Q1:δ->Hp->Prop}
   (hk:∀ S d h1 v H1 μ1,RH Y H1 μ1 h1->RS Y H1 μ1 S Z->rel H1 μ1 d v->Fin Y rel' H1 μ1 (k S d h1) Q E->Q1 v H1):Sm Y E rel m Z H Q1:=by
 cases s with
 | mk S h B rh rs f=>exact ⟨S,h,B,rh,rs,f.bind fun d h1 x H1 μ1 _ g rh1 rd f1=>hk S d h1 x H1 μ1 rh1 (rs.mono rh g) rd f1⟩
section
variable (T:Tb) (Y:Yx) (E:XK)
noncomputable def ZY(e:Ex):TE:=Sm Y E (RD Y) (ev T e)
noncomputable def ZkS(e:Exs):TA:=Sm Y E (RDs Y) (evs T e)
noncomputable def Zh0(e:Tx):TT:=Sm Y E eqR (tst T e)
noncomputable def ZtI(e:Option Ex):TO:=Sm Y E eqR (evo T e)
noncomputable def ZtJ(e:Ix):TI:=Sm Y E (WJ Y) (evi T e)
noncomputable def Zd6(f:Str):Sp:=fun vs H Q E=>∃ ds h B,RH Y H B h/\RDs Y H B ds vs/\Fin Y (RD Y) H B (T.C f ds h) Q E
end
structure Gd(T:Tb)(Γ:Gm)(X:Cx)(Y:Yx)(E:XK)(k:Nat):Prop where
 gk:Gk X Y T
 N:X.N=Γ.N
 sc:Γ.top=true->X.env.scope=Γ.sc
 vis:∀ x,ZmC Γ.sc x=true->Vis X.env.scope x
 glo:∀ x,Γ.sc.names.lookup x=some .globalImplicit->Gl X x
 nd:X.N.Nodup
 calm:X.calm=true
 room:Room k X.A
 h60:60<=k
 pass:Za6 (CXF X.prog X.w) X E
 defs:∀ f∈Γ.fs,∃ ps,Def X.prog X.w X.K X.mg X.base k f ps (Zd6 T Y f)
 blt:∀ x∈ZjO,X.mg x=none
 room1:Room (k+1) X.A
 cls:∀ C∈Γ.kl.cs,∃ a,X.mg C=some (.ref a)/\Cls X.K a/\∀ f∈Γ.kl.ats,Za7 X.K a f
 mts:∀ p∈Γ.kl.ms,∃ a f fd ps,X.mg p.1=some (.ref a)/\Cls X.K a/\Meth X.K a p.2 f/\FnOk X.prog X.w X.K X.mg X.base (CXF X.prog X.w) k f fd ps (Zd6 T Y (mnm p.1 p.2))/\Binds X.K fd ps []
 mks:∀ C∈Γ.kl.is,∃ a f fd ps,X.mg C=some (.ref a)/\Mk X.K a f/\FnOk X.prog X.w X.K X.mg X.base (CXF X.prog X.w) k f fd ps (Zd6 T Y (mnm C (O "__init__")))/\Binds X.K fd ps []
theorem _root_.L2.PE.imp(h:PE X e t)(i:∀ Z H Q,t' Z H Q->t Z H Q):PE X e t':=fun pins s Z H Q I q=>h pins s Z H Q I (i Z H Q q)
theorem _root_.L2.PT.imp(h:PT X e t)(i:∀ Z H Q,t' Z H Q->t Z H Q):PT X e t':=fun pins s Z H Q I q=>h pins s Z H Q I (i Z H Q q)
theorem _root_.L2.PW.imp(h:PW X e t)(i:∀ Z H Q,t' Z H Q->t Z H Q):PW X e t':=fun w pins s Z H Q I q=>h w pins s Z H Q I (i Z H Q q)
theorem _root_.L2.PA.imp(h:PA X e t)(i:∀ Z H Q,t' Z H Q->t Z H Q):PA X e t':=fun p pins s Z H Q I q=>h p pins s Z H Q I (i Z H Q q)
theorem _root_.L2.PO.imp(h:PO X e t)(i:∀ Z H Q,t' Z H Q->t Z H Q):PO X e t':=fun pins s Z H Q I q=>h pins s Z H Q I (i Z H Q q)
theorem _root_.L2.PI.imp(h:PI X tg e t)(i:∀ Z H Q,t' Z H Q->t Z H Q):PI X tg e t':=fun pins s Z H Q I q=>h pins s Z H Q I (i Z H Q q)
structure Kd(x:Expr):Prop where
 star:tgE x≠0->∀ xs env,starEach (x::xs) env=(false,eval x env)::starEach xs env
 set:tgE x≠18->∀ env v,foldedSetIterable x env v=pure v
 mark:tgE x≠18->∀ op,behindInMarks op x=false
 ix:tgE x≠5->ZgD x
 put:tgE x≠5->∀ o pos env v,assign (.Subscript o x pos) env v=(do
     let ov <- holding [v] (eval o env);let iv <- holding [v,ov] (eval x env)
     standAt pos
     holding [v,ov,iv] (setItem ov iv v)
     release [v,ov,iv] [])
 tr:Zh4 x=true->∀ env whole,isTrue x env whole=(do let v <- whole;standAt x.pos;holding [v] (truthy v))
 sw:tgE x≠13->tgE x≠19->∀ t n env,swapsWith x t n env=pure false
 st:tgE x≠8->∀ es j q env,swappedStores [.Tuple es j q] x env=pure none
theorem kdE(x:Expr):Kd x:=by
 cases x<;>exact ⟨by first|exact fun _ _ _=>rfl|exact fun h=>absurd rfl h,by first|exact fun _ _ _=>rfl|exact fun h=>absurd rfl h,by first|exact fun _ _=>rfl|exact fun h=>absurd rfl h,by first|exact fun _ _ _=>rfl|exact fun h=>absurd rfl h,
   by first|exact fun _ _ _ _ _=>rfl|exact fun h=>absurd rfl h,
   by first|exact fun _ _ _=>rfl|exact fun h=>ff h,by first|exact fun _ _ _ _ _=>rfl|exact fun h=>absurd rfl h|exact fun _ h=>absurd rfl h,by first|exact fun _ _ _ _ _=>rfl|exact fun h=>absurd rfl h⟩
theorem ZT(env:Env)(h:ZaS x=true):starEach (x::xs) env=(false,eval x env)::starEach xs env:=(kdE x).star (of_decide_eq_true h) _ _
theorem ZhX(env:Env)(h:Zbi x=true):∀ v,foldedSetIterable x env v=pure v:=(kdE x).set (of_decide_eq_true h) _
theorem Zel(h:Zbi x=true):behindInMarks op x=false:=(kdE x).mark (of_decide_eq_true h) _
theorem ZgP(h:ZbU x=true):ZgD x:=(kdE x).ix (of_decide_eq_true h)
theorem Zen(h:Zbo x=true):attributeBase x n env (eval x env)=eval x env:=by
 cases x with
 | Call f as ks p =>
   cases as with
   | nil=>cases h
   | cons a as=>cases f<;>rfl
 | _=>rfl
theorem Zda(Γ:Gm)(env:Env):∀ (es:Exs) (xs:List Expr),chks Γ es xs=true->∀ pos,(backTo pos (starEach xs env)).any (·.1)=false/\(backTo pos (starEach xs env)).all (fun x=>!x.1)=true
 | .nil,[],_,_=>⟨rfl,rfl⟩
 | .nil,_::_,h,_=>ff h
 | .cons _ _,[],h,_=>ff h
 | .cons _ r,x::xs,h,pos=>by
   rw [ZT env (bL (bR h))];exact Zda Γ env r xs (bR (bR h)) pos
theorem ZcP(env:Env)(h:chks Γ es (y::r)=true):starEach (y::r) env=(false,eval y env)::starEach r env/\∀ pos,(backTo pos (starEach r env)).any (·.1)=false:=by
 cases es with
 | nil=>exact ff h
 | cons e s=>exact ⟨ZT env (bL (bR h)),fun pos=>(Zda Γ env s r (bR (bR h)) pos).1⟩
@[elab_as_elim] theorem ZoK{P:List Expr->Prop}(h:chks Γ es ys=true)(h1:(!ys.isEmpty)=true)(k:∀ y r,chks Γ es (y::r)=true->P (y::r)):P ys:=by
 cases ys with
 | nil=>exact ff h1
 | cons y r=>exact k y r h
theorem Gd.gl {T:Tb}{Γ:Gm}{X:Cx}{Y:Yx}{E:XK}{k:Nat} (G:Gd T Γ X Y E k) {x:Str} (h:glb Γ x=true):Gl X x/\(x==("__debug__" : Str))=false:=by
 unfold glb at h;rw [Oa] at h;exact ⟨G.glo x (of_decide_eq_true h.1),by simpa using h.2⟩
theorem ZeP{f:Str->NameKind->NameKind}(x:Str):∀ names:List (Str×NameKind),(names.map fun p=>(p.1,f p.1 p.2)).lookup x=(names.lookup x).map (f x)
 | []=>rfl
 | (n,k)::r=>by
   rw [Op,OF,OF];by_cases e:x=n
   . subst e;simp
   . have:(x==n)=false:=by simpa using e
     simp only [this];exact ZeP x r
theorem ZaV(scope:Scope)(env:Env)(x:Str):(relabel scope env).names.lookup x=(scope.names.lookup x).map fun k=>if (k==NameKind.free&&env.scope.kind==.function&&env.kindOf x==some .cell) then NameKind.cell else k:=by
 have e:(relabel scope env).names=scope.names.map fun p=>(p.1,(fun (n:Str) (k:NameKind)=>if (k==NameKind.free&&env.scope.kind==.function&&env.kindOf n==some .cell) then NameKind.cell else k) p.1 p.2):=by
   unfold relabel;simp only;refine List.map_congr_left fun p _=>?_;obtain ⟨n,k⟩:=p;simp only;split<;>rfl
 rw [e];exact ZeP (f:=fun (n:Str) (k:NameKind)=>if (k==NameKind.free&&env.scope.kind==.function&&env.kindOf n==some .cell) then NameKind.cell else k) x scope.names
theorem Gd.comp{T:Tb}{Γ:Gm}{X:Cx}{Y:Yx}{E:XK}{k:Nat}(G:Gd T Γ X Y E k)(NC:List Str)(scope:Scope)(C:Addr)(s3:Shared)(H3:Hp)(fp:List Addr)(nd:NC.Nodup):Gd T ⟨NC,scope,Γ.fs,false,Γ.kl⟩ (Zq X NC scope C s3 H3 fp) Y E0 k:=by
 refine ⟨⟨G.gk.K,G.gk.mg,G.gk.gd,G.gk.g,G.gk.bare⟩,rfl,(fun h=>by cases h),fun x hx=>?_,fun x hx=>?_,nd,rfl,G.room,G.h60,Zj6,G.defs,G.blt,G.room1,G.cls,G.mts,G.mks⟩
 . show Vis (relabel scope X.env) x;unfold Vis;rw [ZaV];unfold ZmC at hx;rw [Bool.or_eq_true,Bool.or_eq_true] at hx;rcases hx with (hx|hx)|hx
   . rw [of_decide_eq_true hx];exact .inl rfl
   . rw [of_decide_eq_true hx];exact .inr (.inl rfl)
   . rw [of_decide_eq_true hx];by_cases q:(X.env.scope.kind==.function&&X.env.kindOf x==some .cell)=true
     . refine .inr (.inl ?_);have:(NameKind.free==NameKind.free&&X.env.scope.kind==.function&&X.env.kindOf x==some .cell)=true:=by simpa using q
       simp only [Option.map_some,this,if_true]
     . refine .inr (.inr ?_);have:¬ ((NameKind.free==NameKind.free&&X.env.scope.kind==.function&&X.env.kindOf x==some .cell)=true):=by simpa using q
       simp only [Option.map_some,this,if_false];rfl
 . show (relabel scope X.env).names.lookup x=some .globalImplicit;rw [ZaV,hx];rfl
section
variable {T:Tb}{Y:Yx}{E:XK}{Z:L2.St}{H:Hp}{Q:VK}
theorem Zj0{a b:Ex}{f:D->D->Hd->R D}(s:Sm Y E (RD Y) (fun S h=>(ev T a S h).bind fun x h1=>(ev T b S h1).bind fun y h2=>f x y h2) Z H Q):ZY T Y E a Z H fun x H1=>ZY T Y E b Z H1 fun y H2=>rB Y E f x y H2 Q :=
 s.bind fun S d h1 x H1 μ1 rh1 rs1 rd f1=>⟨S,h1,μ1,rh1,rs1,f1.bind fun e h2 y H2 μ2 _ g2 rh2 re f2=>⟨d,e,h2,μ2,rh2,rd.mono rh1 g2,re,f2⟩⟩
end
theorem ZqJ{T:Tb}{Γ:Gm}{X:Cx}{Y:Yx}{E:XK}{k:Nat}(G:Gd T Γ X Y E k)(f:Bf)(hb:bok f=true){e:Expr}{es:List Expr}{t:TA}{p pos:Pos}(hg:Gl X (ZjN f))(ha:PA X (e::es) t)
   (he:starEach (e::es) X.env=(false,eval e X.env)::starEach es X.env) (hpl:(backTo pos (starEach es X.env)).any (·.1)=false):PE X (.Call (.Name (ZjN f) p) (e::es) [] pos) (tCB (rF Y E (Za9 T.GD f)) t):=by
 have hY:=G.gk.K;cases f with
 | len=>exact ZbR (Zn9 hY) hg (G.blt _ (by decide)) (by decide +kernel) ha (by decide) (by decide) he hpl
 | isi=>exact ZbR (Zoa hY) hg (G.blt _ (by decide)) (by decide +kernel) ha (by decide) (by decide) he hpl
 | int=>exact Zcl Zob hg (G.blt _ (by decide)) (by decide +kernel) ha (by decide) (by decide) he hpl
 | tup=>exact Zcl (Zn5 hY) hg (G.blt _ (by decide)) (by decide +kernel) ha (by decide) (by decide) he hpl
 | lst=>exact Zcl (Zn8 hY) hg (G.blt _ (by decide)) (by decide +kernel) ha (by decide) (by decide) he hpl
 | sum=>exact ZbR (Zn7 G.room.hd hY) hg (G.blt _ (by decide)) (by decide +kernel) ha (by decide) (by decide) he hpl
 | all=>cases hb
 | mx=>cases hb
 | sri=>cases hb
 | dct=>cases hb
 | ldk=>cases hb
 | anb=>exact ZbR (Zoc G.calm hY) hg (G.blt _ (by decide)) (by decide +kernel) ha (by decide) (by decide) he hpl
 | tdk=>exact Zcl (Zn6 G.room.hd G.gk) hg (G.blt _ (by decide)) (by decide +kernel) ha (by decide) (by decide) he hpl
 | sto=>cases hb
 | itx=>cases hb
 | lnd=>cases hb
 | srt=>cases hb
end IV
end
section
namespace IV
open PySem PySem.Spec PyProof.Rows L2
theorem Zff{v:V}(rd:∀ H B,RD Y H B d v)(p:PE X x (tC v)):PE X x (ZY T Y E (.cst d)):=PE.imp p fun Z H Q s=>by
 cases s with
 | mk S h B rh rs f=>exact Fin.ok (r:=rd H B) (show Fin Y (RD Y) H B (.ok d h) Q E from f) rh
theorem Zmc(G:Gd T Γ X Y E k)(h:ZsW Γ d x=true):PE X x (ZY T Y E (.cst d)):=by
 refine bO h (fun h=>Zt7 (P:=fun x=>PE X x _) h fun c j q h=>?_) fun h=>?_
 . cases d with
   | int i=>cases c with
     | int j=>exact dS (P:=fun i=>PE X _ (ZY T Y E (.cst (.int i)))) h (Zff (fun _ _=>.int _) ZpA)
     | _=>exact ff h
   | str i=>cases c with
     | str j=>exact dS (P:=fun i=>PE X _ (ZY T Y E (.cst (.str i)))) (bL h) (Zff (fun _ _=>.str _ (bR h)) Zpw)
     | _=>exact ff h
   | bl i=>cases c with
     | bool j=>exact dS (P:=fun i=>PE X _ (ZY T Y E (.cst (.bl i)))) h (Zff (fun _ _=>.bl _) ZrX)
     | _=>exact ff h
   | non=>cases c with
     | none=>exact Zff (fun _ _=>.non) Zpy
     | _=>exact ff h
   | _=>exact ff h
 . cases d with
   | ty n =>
     refine ZoU (P:=fun x=>PE X x _) h fun p h=>?_;obtain ⟨g1,g2⟩:=G.gl (bR h);have all:(ZiV.all fun n=>decide (bootBuiltins (Str.ofString n)=some (.type n))&&(decide (Str.ofString n ≠ "__name__")&&decide (Str.ofString n∈ZjO)))=true:=by decide +kernel
     have a:=OC.mp all n (of_decide_eq_true (bL h));exact Zff (fun _ _=>.ty _) (Znb g1 (G.blt _ (of_decide_eq_true (bR (bR a)))) (of_decide_eq_true (bL a)) rfl (of_decide_eq_true (bL (bR a))) g2)
   | _=>exact ff h
theorem R.bind_eq{α β:Type}{r:R α}{k:α->Hd->R β}{b:β}{h:Hd}(e:r.bind k=.ok b h):∃ a h1,r=.ok a h1/\k a h1=.ok b h:=by
 cases r with
 | bad=>cases e
 | ok a h1=>exact ⟨a,h1,rfl,e⟩
 | exc c h1=>cases e
theorem R.bind_assoc{α β γ:Type}{r:R α}{k:α->Hd->R β}{l:β->Hd->R γ}:(r.bind k).bind l=r.bind fun a h=>(k a h).bind l:=by cases r<;>rfl
theorem ZpN(e:opC GD op x y h=.ok r h'):∃ b,r=.bl b:=by
 have i2:∀ {f:Int->Int->Bool},Zgi f x y h=.ok r h'->∃ b,r=.bl b:=fun e=>by
   unfold Zgi at e;split at e
   . cases e;exact ⟨_,rfl⟩
   . cases e
 have eq:∀ {n:Bool},ZcV n x y h=.ok r h'->∃ b,r=.bl b:=fun e=>by
   unfold IV.ZcV at e;split at e
   . split at e
     . cases e;exact ⟨_,rfl⟩
     . cases e
   . cases e
 have inn:∀ {n:Bool},Zbb GD n x y h=.ok r h'->∃ b,r=.bl b:=fun e=>by
   unfold Zbb at e;split at e
   . split at e
     . cases e;exact ⟨_,rfl⟩
     . cases e
   . split at e
     . cases e;exact ⟨_,rfl⟩
     . cases e
 have n1:∀ {n:Bool},opN n x y h=.ok r h'->∃ b,r=.bl b:=fun e=>by
   unfold opN at e;split at e
   . cases e;exact ⟨_,rfl⟩
   . cases e
 unfold opC at e;split at e
 . exact eq e
 . exact eq e
 . exact i2 e
 . exact i2 e
 . exact i2 e
 . exact i2 e
 . exact inn e
 . exact inn e
 . exact n1 e
 . exact n1 e
theorem Zsd (m:Mf):Slot "list" (ZlD m) (mid m)/\typeOf (.builtin (mid m))=pure (.type "method_descriptor"):=by
 cases m with
 | app=>exact ⟨PySem.F.slot_list_append,PySem.F.type_list_append⟩
 | ext=>exact ⟨PySem.F.slot_list_extend,PySem.F.type_list_extend⟩
 | pop=>exact ⟨PySem.F.slot_list_pop,PySem.F.type_list_pop⟩
 | rev=>exact ⟨PySem.F.slot_list_reverse,PySem.F.type_list_reverse⟩
 | clr=>exact ⟨PySem.F.slot_list_clear,PySem.F.type_list_clear⟩
section
variable {Y:Yx}{α β α' β':Type}{rel:Hp->List Addr->α->β->Prop}{rel':Hp->List Addr->α'->β'->Prop}{H0 H H1:Hp}{μ0 B μ1:List Addr}{E:XK}
theorem Fin.bindB(g0:Gr H0 μ0 H B)(f:Fin Y rel' H0 μ0 (r.bind k) Q E)
   (hk:∀ a h1 b H1 μ1,r=.ok a h1->Gr H B H1 μ1->RH Y H1 μ1 h1->rel H1 μ1 a b->Fin Y rel' H0 μ0 (k a h1) Q E->Q1 b H1):Fin Y rel H B r Q1 E:=by
 cases r with
 | bad=>exact f
 | ok a h=>exact fun b H' μ' g' rh rl=>hk a h b H' μ' rfl g' rh rl f
 | exc c h=>exact fun H' μ' C g'=>f H' μ' C (g0.trans g')
theorem Fin.plain(f:Fin Y rel' H0 μ0 (r.plain.bind k) Q E)
   (hk:∀ a h1 b H1 μ1,r=.ok a h1->Gr H B H1 μ1->RH Y H1 μ1 h1->rel H1 μ1 a b->Fin Y rel' H0 μ0 (k a h1) Q E->Q1 b H1):Fin Y rel H B r Q1 E0:=by
 cases r with
 | bad=>exact f
 | ok a h=>exact fun b H' μ' g' rh rl=>hk a h b H' μ' rfl g' rh rl f
 | exc c h=>exact f.elim
end
noncomputable def Zhf:List Nat->TGs
 | []=>ZnN
 | i::is=>Zhg (ZbL i) (Zhf is)
noncomputable def tgR(K:PySem.W.Frag):Tg->TG
 | .nm i=>ZbL i
 | .two i j=>ZnM K 2 (Zhg (ZbL i) (Zhg (ZbL j) ZnN))
 | .many is=>ZnM K is.length (Zhf is)
theorem ZgK:∀ is:List Nat,is.foldr max 0<k->ZhO k (Zhf is)
 | [],_=>ZiZ
 | i::is,h=>by
   simp only [List.foldr_cons] at h;exact Zeu (by lia) (ZgK is (by lia))
theorem Zri(K:PySem.W.Frag)(g:Tg):ZiQ (tgk g) (tgR K g):=by
 cases g with
 | nm i=>exact ZmG (OH i)
 | two i j=>exact ZkJ (Zeu (show i<max i j+1 by lia) (Zeu (show j<max i j+1 by lia) ZiZ))
 | many is=>exact ZkJ (ZgK is (OH _))
theorem ZdK:∀ (is:List Nat) (es:List Expr),ZjJ N own is es=true->(assignEach es env).length=is.length/\List.findIdx? (fun x=>x.fst) (assignEach es env)=none
 | [],[],_=>⟨rfl,rfl⟩
 | i::is,e::es,h=>by
   obtain ⟨a,b⟩:=ZdK (env:=env) is _ (bR h);refine Zbc (P:=fun e=>(assignEach (e::es) env).length=_/\List.findIdx? (fun x=>x.fst) (assignEach (e::es) env)=none) (bL h) fun x p _ _=>⟨congrArg (·+1) a,?_⟩
   simp only [assignEach,List.findIdx?_cons,b];rfl
 | [],_::_,h=>ff h
 | _::_,[],h=>ff h
theorem ZgW(hN:X.N=N)(nd:X.N.Nodup)(ho:∀ x,own x=true->Loc X.env.scope x/\(X.fn x=true\/X.env.scope.names.lookup x=some .local)):∀ (is:List Nat) (es:List Expr),ZjJ N own is es=true->PGs X es (Zhf is)
 | [],[],_=>Zjf
 | i::is,e::es,h=>Zbc (P:=fun e=>PGs X (e::es) _) (bL h) fun x p e1 e2=>ZeH (Zjh nd (by rw [hN];exact e1) (ho _ e2).1 (ho _ e2).2) (ZgW hN nd ho is _ (bR h))
 | [],_::_,h=>ff h
 | _::_,[],h=>ff h
theorem Zjg(hN:X.N=N)(nd:X.N.Nodup)(hc:X.calm=true)(ho:∀ x,own x=true->Loc X.env.scope x/\(X.fn x=true\/X.env.scope.names.lookup x=some .local))(h:Zn0 N own g tg=true):PG X tg (tgR X.K g):=by
 have nm:∀ {i x p},N[i]? = some x->own x=true->PG X (.Name x p) (ZbL i):=fun e1 e2=>Zjh nd (by rw [hN];exact e1) (ho _ e2).1 (ho _ e2).2;cases g with
 | nm i=>exact Zbc (P:=fun t=>PG X t _) h fun x p e1 e2=>nm e1 e2
 | two i j=>exact ZgL (P:=fun t=>PG X t _) (show ZjL N own i j tg=true from h) fun xs k q h=>Zsp (P:=fun xs=>PG X (.Tuple xs k q) _) h fun a b h=>Zbc (P:=fun a=>PG X (.Tuple [a,b] k q) _) (bL h) fun x p e1 e2=>Zbc (P:=fun b=>PG X (.Tuple [_,b] k q) _) (bR h) fun y r e3 e4=>Zlg hc (ZeH (nm e1 e2) (ZeH (nm e3 e4) Zjf))
 | many is=>exact ZgL (P:=fun t=>PG X t _) (show ZjK N own is tg=true from h) fun xs k q h=>Zlg (hn:=(ZdK _ _ h).1) (hst:=(ZdK _ _ h).2) hc (ZgW hN nd ho _ _ h)
theorem Zjp:∀ (is:List Nat) {ds:List D}{vs:List V}{S:Ev}{Z:L2.St},RDs Y H B ds vs->RS Y H B S Z->ds.length=is.length->(∀ σ1,RS Y H B (ZhY is ds S) σ1->Q σ1 H)->Zhf is vs Z H Q
 | [],ds,vs,S,Z,r,rs,hl,q=>by
   cases r with
   | nil=>exact ⟨rfl,q _ rs⟩
   | cons a s=>simp at hl
 | i::is,ds,vs,S,Z,r,rs,hl,q=>by
   cases r with
   | nil=>simp at hl
   | cons a s=>exact ⟨_,_,rfl,Zjp is s (rs.set a) (by simpa using hl) q⟩
theorem ZgA{Y:Yx}{K:PySem.W.Frag}{Q:L2.St->Hp->Prop}(hY:Y.K=K)(r:RD Y H B d v)(rs:RS Y H B S Z)(e:Za1 g d S=some ρ1)(q:∀ σ1,RS Y H B ρ1 σ1->Q σ1 H):tgR K g v Z H Q:=by
 cases g with
 | nm i =>
   cases e;exact q _ (rs.set r)
 | two i j =>
   unfold Za1 at e;simp only at e;split at e
   . cases e;obtain ⟨a,vs,rfl,t,s⟩:=r.tup_inv;obtain ⟨x,y,rfl,r1,r2⟩:=s.two;exact ⟨a,_,rfl,hY ▸ t,rfl,x,_,rfl,y,_,rfl,rfl,q _ ((rs.set r1).set r2)⟩
   . cases e
 | many is =>
   unfold Za1 at e;simp only at e;split at e
   . split at e
     . rename_i hl;cases e;obtain ⟨a,vs,rfl,t,s⟩:=r.tup_inv;exact ⟨a,vs,rfl,hY ▸ t,by rw [<- s.length,hl],Zjp is s rs hl q⟩
     . cases e
   . cases e
section
variable {Y:Yx}{H:Hp}{B:List Addr}{h:Hd}{Dd:Addr}{ys zs:List V}
theorem ZkN{K:PySem.W.Frag}(hD:H Dd=some (.lst ys))(t:SqT K H a vs):SqT K (upd H Dd (.lst zs)) a vs:=by
 rcases t with t|t
 . rcases t with t|⟨o,t⟩
   . exact .inl (.inl (by rw [Zm (fun z=>by rw [z,hD] at t;cases t)];exact t))
   . exact .inl (.inr ⟨o,by rw [Zm (fun z=>by rw [z,hD] at t;cases t)];exact t⟩)
 . exact .inr t
theorem ZlU{K:PySem.W.Frag}(hD:H Dd=some (.lst ys))(t:FzL K H a vs):FzL K (upd H Dd (.lst zs)) a vs:=by
 rcases t with ⟨o,t⟩|t
 . exact .inl ⟨o,by rw [Zm (fun z=>by rw [z,hD] at t;cases t)];exact t⟩
 . exact .inr t
theorem Tr.swap(hD:H Dd=some (.lst ys)):Tr Y H B (upd H Dd (.lst zs)) B:=⟨ZkN hD,ZlU hD,id⟩
theorem RH.swap(hD:H Dd=some (.lst ys))(hn:Dd ∉ B)(r:RH Y H B h):RH Y (upd H Dd (.lst zs)) B h :=
 r.tr (.swap hD) fun _ ha=>Zm fun z=>hn (z ▸ ha)
theorem Gr.out(g:Gr H B H' μ')(hD:H Dd=some o)(hn:Dd ∉ B):H' Dd=some o/\Dd ∉ μ' :=
 ⟨g.keep _ _ hn hD,fun hm=>(g.new _ hm).elim hn fun z=>by rw [hD] at z;cases z⟩
end
inductive CwS(Y:Yx)(H1:Hp)(μ1:List Addr)(xs:List D)(Dd:Addr)(F:List D->List D->Hd->Prop)(i m:Nat)(ys:List V)(H:Hp):Prop
 | mk (acc:List D) (h:Hd) (B:List Addr) (hi:i<=xs.length) (hm:m=xs.length - i) (g:Gr H1 μ1 H B) (rh:RH Y H B h) (ra:RDs Y H B acc ys) (nd:Dd ∉ B) (f:F (xs.drop i) acc h):CwS Y H1 μ1 xs Dd F i m ys H
theorem ZjH{T:Tb}{Y:Yx}{E:XK}{K:PySem.W.Frag}(hY:Y.K=K){js:List (Option Nat)}{g:Tg}{c:Option Tx}{e:Ex}{tc:TT}{J:It}{w:Wk}{H1:Hp}{μ1:List Addr}{h1:Hd}{S:Ev}{Z:L2.St}{Q:VK}{Dd:Addr}
   (htc:∀ Z H Q,Sm Y E0 eqR (tsto T c) Z H Q->tc Z H Q)
   (rh:RH Y H1 μ1 h1) (rs:RS Y H1 μ1 S Z) (wj:WJ Y H1 μ1 w J) (f:Fin Y (RD Y) H1 μ1 ((ZM w.src g (tsto T c) (ev T e) w.xs (Zdr js S) [] h1).bind fun xs h2=>Zay (.lst xs) h2) Q E) (hD:H1 Dd=none) :
   ∃ W:Nat->Nat->List V->Hp->Prop,(∃ m,W 0 m [] (upd H1 Dd (.lst []))) /\
     ∀ i m ys H,W i m ys H->H Dd=some (.lst ys)->(J.stop i H/\Q (.ref Dd) H) \/
       (J.go i H/\ys.length<sizeLine/\∀ x H',J.yld i H x H'->tgR K g x (capt js Z) H' fun σ2 H2=>tc σ2 H2 fun b H3 =>
         if b=true then ZY T Y E0 e σ2 H3 fun y H4=>H4 Dd=some (.lst ys)/\∃ m',m'<m/\W (i+1) m' (ys++[y]) (upd H4 Dd (.lst (ys++[y])))
         else H3 Dd=some (.lst ys)/\∃ m',m'<m/\W (i+1) m' ys H3):=by
 have n1:=rh.fr hD;refine ⟨CwS Y H1 μ1 w.xs Dd fun xs acc h=>Fin Y (RD Y) H1 μ1 ((ZM w.src g (tsto T c) (ev T e) xs (Zdr js S) acc h).bind fun xs h2=>Zay (.lst xs) h2) Q E,⟨w.xs.length,[],h1,μ1,Nat.zero_le _,(Nat.sub_zero _).symm,Gr.lay0 hD,rh.lay0 hD,.nil,n1,f⟩,?_⟩;rintro i m ys H ⟨acc,h,B,hi,rfl,g1,rh1,ra,nD,f1⟩ hl;by_cases hlt:i<w.xs.length
 . obtain ⟨d,hd⟩:∃ d,w.xs[i]? = some d:=⟨_,Og hlt⟩
   have hdrop:w.xs.drop i=d::w.xs.drop (i+1):=by
     rw [List.drop_eq_getElem_cons hlt];have:=Og hlt;rw [hd] at this;rw [<- Option.some.inj this]
   rw [hdrop,ZM] at f1;by_cases hs:Wk.stays w.src h=true/\acc.length<sizeLine
   . rw [if_pos hs] at f1;obtain ⟨go,yl⟩:=(wj H B h g1 rh1 hs.1).1 i d hd;refine .inr ⟨go,by rw [<- ra.length];exact hs.2,fun x H' hy=>?_⟩;obtain ⟨g2,rh2,rx⟩:=yl x H' hy;obtain ⟨hl2,nD2⟩:=g2.out hl nD;have g02:=g1.trans g2;split at f1
     . exact f1.elim
     . rename_i ρ1 hb;refine ZgA hY rx ((rs.mono rh g02).capt js) hb fun σ1 rs1=>htc σ1 H' _ ⟨ρ1,h,B,rh2,rs1,?_⟩;rw [R.bind_assoc] at f1;refine Fin.plain f1 fun b h3 b' H3 μ3 _ g3 rh3 eb f3=>?_;subst eb;obtain ⟨hl3,nD3⟩:=g3.out hl2 nD2;have g03:=g02.trans g3;cases b with
       | true =>
         rw [if_pos rfl] at f3 ⊢;rw [R.bind_assoc] at f3;refine ⟨ρ1,h3,μ3,rh3,rs1.mono rh2 g3,Fin.plain f3 fun y h4 y' H4 μ4 _ g4 rh4 ry f4=>?_⟩;obtain ⟨hl4,nD4⟩:=g4.out hl3 nD3;refine ⟨hl4,_,Nat.sub_lt_sub_left hlt (OH i),acc++[y],h4,μ4,hlt,rfl,(g03.trans g4).put hD,rh4.swap hl4 nD4,((((ra.mono rh1 g2).mono rh2 g3).mono rh3 g4).append (.cons ry .nil)).tr (.swap hl4),nD4,f4⟩
       | false =>
         rw [if_neg (by decide)] at f3 ⊢;exact ⟨hl3,_,Nat.sub_lt_sub_left hlt (OH i),acc,h3,μ3,hlt,rfl,g03,rh3,(ra.mono rh1 g2).mono rh2 g3,nD3,f3⟩
   . rw [if_neg hs] at f1;exact f1.elim
 . have he:i=w.xs.length:=by lia
   subst he;rw [List.drop_eq_nil_of_le (Oq _),ZM] at f1;by_cases hs:Wk.stays w.src h=true
   . rw [if_pos hs] at f1;refine .inl ⟨(wj H B h g1 rh1 hs).2,?_⟩;have f2:Fin Y (RD Y) H1 μ1 (.ok (.ref h.length) (h++[.lst acc])) Q E:=f1;exact f2.at (g1.add hD) (rh1.add nD ⟨ys,hl,ra.tr .more⟩) (.ref (by rw [rh1.len];simp))
   . rw [if_neg hs] at f1;exact f1.elim
end IV
end
section
namespace IV
open PySem PySem.Spec PyProof.Rows L2
section
variable {Y:Yx}{H:Hp}{B:List Addr}{h:Hd}
theorem RKs.look:∀ {fs:List (Str×D)}{gs:List (Str×V)},RKs Y H B fs gs->(∀ d,fs.lookup f=some d->∃ v,gs.lookup f=some v/\RD Y H B d v)/\(fs.lookup f=none->gs.lookup f=none)
 | _,_,.nil=>⟨fun d e=>by simp at e,fun _=>rfl⟩
 | _,_,.cons (k:=k) (d:=d0) (v:=v0) a s=>by
   by_cases e:f=k
   . subst e;exact ⟨fun d z=>by simp at z;subst z;exact ⟨_,by simp,a⟩,fun z=>by simp at z⟩
   . have b:(f==k)=false:=by simpa using e
     obtain ⟨q1,q2⟩:=RKs.look (f:=f) s;refine ⟨fun d z=>?_,fun z=>?_⟩
     . rw [OF,b] at z ⊢;exact q1 d z
     . rw [OF,b] at z ⊢;exact q2 z
theorem RKs.putAF(r:RD Y H B d v):∀ {fs:List (Str×D)}{gs:List (Str×V)},RKs Y H B fs gs->RKs Y H B (Zgc f d fs) (Zbu f v gs)
 | _,_,.nil=>.cons r .nil
 | _,_,.cons (k:=k) a s=>by
   unfold Zgc Zbu;by_cases e:k=f
   . rw [if_pos e,if_pos e];exact .cons r s
   . rw [if_neg e,if_neg e];exact .cons a (RKs.putAF r s)
theorem Zir(rh:RH Y H B h)(r:RD Y H B d v)(e:Zai d h=some (C,fs)):∃ i a Ca dx gs,d=.ref i/\v=.ref a/\B[i]? = some a/\h[i]? = some (.ins C fs)/\H a=some (.ins Ca dx gs)/\Y.mg C=some (.ref Ca)/\RKs Y H B fs gs:=by
 unfold Zai at e;split at e
 . rename_i i;split at e
   . rename_i C' fs' hi;cases e;cases r with
     | ref q =>
       rename_i a;obtain ⟨Ca,dx,gs,z,m,s⟩:=rh.ob i _ a hi q;exact ⟨i,a,Ca,dx,gs,rfl,rfl,q,hi,z,m,s⟩
   . cases e
 . cases e
theorem ZnA(rh:RH Y H B h)(hx:H x=none)(hd:H dx=none)(ne:dx≠x)(m:Y.mg C=some (.ref Ca)):RH Y (upd (upd H dx (.own x)) x (.ins Ca dx [])) (B++[x]) (h++[.ins C []])/\Gr H B (upd (upd H dx (.own x)) x (.ins Ca dx [])) (B++[x]):=by
 have hx':upd H dx (.own x) x=none:=by rw [Zm (fun z=>ne z.symm)];exact hx
 exact ⟨(rh.lay0 hd).lay hx' ⟨Ca,dx,[],Zg,m,.nil⟩,(Gr.lay0 hd).trans (Gr.lay hx')⟩
end
theorem Zkg(hbase:attributeBase o name env (eval o env)=eval o env)
   (hform:methodCallForm (args.length+([]:List Keyword).length) (backTo pos (starEach args env)) (backToKw pos (keywordEach [] env))=true) (hline:(apos.endLine==pos.line)=true) :
   eval (.Call (.Attribute o name apos) args [] pos) env=(do
     let ov <- eval o env
     standAt apos.atName
     let (f,first) <- holding [ov] (getMethod ov name (do return (<- importBound o env).getD true))
     callWith pos f first (backTo pos (starEach args env)) (backToKw pos (keywordEach [] env))):=by
 have hpos:methodCallPos true o env apos pos=pure pos:=by unfold methodCallPos;simp [hline]
 rw [arm_eval_Call,hbase];unfold methodCall;simp only [hform,hpos];rfl
section
variable {T:Tb}{Γ:Gm}{X:Cx}{Y:Yx}{E:XK}{k:Nat}
theorem ZqQ(G:Gd T Γ X Y E k)(hc:(Cs.all fun C=>decide (C∈Γ.kl.cs))=true)(hf:f∈Γ.kl.ats)(rh:RH Y H B h)(rd:RD Y H B d x)(ff:Fin Y (RD Y) H B (Ze1 Cs f d h) Q E) :
   ∃ a C dx fs v,x=.ref a/\H a=some (.ins C dx fs)/\Cls X.K C/\Za7 X.K C f/\fs.lookup f=some v/\Q v H:=by
 unfold Ze1 at ff;split at ff
 . rename_i C fs e;obtain ⟨hC,ff⟩:=ff.iff;obtain ⟨i,a,Ca,dx,gs,rfl,rfl,q,hi,z,m,s⟩:=Zir rh rd e;obtain ⟨w,e1,ff⟩:=ff.ofO;obtain ⟨v,l,rv⟩:=(s.look (f:=f)).1 w e1;rw [OC] at hc;obtain ⟨Ca',m',cl,na⟩:=G.cls C (of_decide_eq_true (hc C hC));rw [G.gk.mg,m'] at m;cases m;exact ⟨a,Ca,dx,gs,v,rfl,z,cl,na f hf,l,ff.ok rh rv⟩
 . exact ff.elim
theorem Zpf(G:Gd T Γ X Y E k)(hc:(Cs.all fun C=>decide (C∈Γ.kl.cs))=true)(hf:f∈Γ.kl.ats)(rh:RH Y H B h)(rd:RD Y H B d x)(re:RD Y H B e y)(ff:Fin Y (RD Y) H B (ZhZ Cs f d e h) Q E) :
   ∃ a C dx fs,x=.ref a/\H a=some (.ins C dx fs)/\Cls X.K C/\Za7 X.K C f/\fs.length<1000/\Q .non (upd H a (.ins C dx (Zbu f y fs))):=by
 unfold ZhZ at ff;split at ff
 . rename_i i;split at ff
   . rename_i C fs hi;obtain ⟨⟨hC,hl⟩,ff⟩:=ff.iff;obtain ⟨i',a,Ca,dx,gs,e1,rfl,q,hi',z,m,s⟩:=Zir rh rd (show Zai (.ref i) h=some (C,fs) by simp [Zai,hi]);cases e1;rw [OC] at hc;obtain ⟨Ca',m',cl,na⟩:=G.cls C (of_decide_eq_true (hc C hC));have m0:=m;rw [G.gk.mg,m'] at m;cases m;refine ⟨a,Ca,dx,gs,rfl,z,cl,na f hf,by rw [<- s.length];exact hl,ff.at (Gr.write (O1 q) (by rw [z];trivial)) (rh.write q ?_ (by rw [z];trivial)) .non⟩;exact ⟨Ca,dx,_,Zg,m0,(RKs.putAF re s).mono rh (Gr.write (O1 q) (by rw [z];trivial))⟩
   . exact ff.elim
 . exact ff.elim
theorem Zse(G:Gd T Γ X Y E k)(h2:C∈Γ.kl.is)(h3:glb Γ C=true)(h4:chks Γ es ys=true)(ha:PA X ys (ZkS T Y E es)):PE X (.Call (.Name C p) ys [] pos) (ZY T Y E (.mk C es)):=by
 obtain ⟨a,f,fd,ps,m,M,F,B_⟩:=G.mks _ h2;obtain ⟨g1,g2⟩:=G.gl h3;have key:∀ (ds:List D) (h1:Hd) (xs:List V) (H1:Hp) (μ1:List Addr) (Q:VK),RH Y H1 μ1 h1->RDs Y H1 μ1 ds xs->Fin Y (RD Y) H1 μ1 (ZlB T.C C ds h1) Q E->∀ x dx,H1 x=none->H1 dx=none->dx≠x ->
     Zd6 T Y (mnm C (O "__init__")) (.ref x::(xs++[])) (upd (upd H1 dx (.own x)) x (.ins a dx [])) (fun v H2=>v=.non/\Q (.ref x) H2) E:=by
   intro ds h1 xs H1 μ1 Q rh1 rds f1 x dx hx hd ne;obtain ⟨rh2,g2⟩:=ZnA (C:=C) (Ca:=a) rh1 hx hd ne (by rw [G.gk.mg];exact m);have px:(μ1++[x])[h1.length]? = some x:=by rw [rh1.len];simp
   refine ⟨.ref h1.length::ds,h1++[.ins C []],μ1++[x],rh2,.cons (.ref px) (by rw [List.append_nil];exact rds.mono rh1 g2),?_⟩;refine Fin.bind (Fin.mono g2 f1) fun d h3 v H3 μ3 _ g3 rh3 rd3 f3=>?_;cases d with
   | non=>cases rd3;exact ⟨rfl,f3.ok rh3 (.ref (g3.pre _ _ px))⟩
   | _=>exact f3.elim
 cases ys with
 | nil =>
   cases es with
   | nil =>
     exact (Zll M F G.room1 g1 m B_ .nil G.pass g2).imp fun Z H Q s=>by
       cases s with
       | mk S h B rh rs f=>exact key [] h [] H B Q rh .nil f
   | cons e r=>exact ff h4
 | cons y ys=>exact (Zm6 M F G.room1 g1 m B_ .nil G.pass ha g2 (ZcP X.env h4).1 ((ZcP X.env h4).2 _)).imp fun Z H Q s=>Sm.bind s fun S ds h1 xs H1 μ1 rh1 _ rds f1=>key ds h1 xs H1 μ1 Q rh1 rds f1
theorem ZpZ(G:Gd T Γ X Y E k)(h5:(C,n)∈Γ.kl.ms)(h3:Zbo xo=true)(h4:chks Γ es ys=true)(h6:ys.length<29)(h7:(ap.endLine==cp.line)=true)(ho:PE X xo (ZY T Y E o))(ha:PA X ys (ZkS T Y E es)) :
   PE X (.Call (.Attribute xo n ap) ys [] cp) (ZY T Y E (.mcl C n o es)):=by
 obtain ⟨a,f,fd,ps,mm,c,hm,F,B_⟩:=G.mts _ h5;have hform:methodCallForm (ys.length+([]:List Keyword).length) (backTo cp (starEach ys X.env)) (backToKw cp (keywordEach [] X.env))=true:=by
   unfold methodCallForm;rw [(Zda Γ X.env es ys h4 _).2];have h30:decide (ys.length+([]:List Keyword).length+(if (backToKw cp (keywordEach [] X.env)).isEmpty then 0 else 1)<30)=true:=by
     rw [decide_eq_true_eq];show ys.length+0+0<30
     lia
   rw [h30];rfl
 have ht:=Zkg (o:=xo) (name:=n) (apos:=ap) (pos:=cp) (args:=ys) (env:=X.env) (Zen h3) hform h7;have key:∀ (d:D) (h1:Hd) (x:V) (H1:Hp) (μ1:List Addr) (S:Ev) (Z:L2.St) (Q:VK),RH Y H1 μ1 h1->RS Y H1 μ1 S Z->RD Y H1 μ1 d x->Fin Y (RD Y) H1 μ1 (match Zai d h1 with
       | some (C',fs)=>if C'=C/\fs.lookup n=none then (evs T es S h1).bind fun xs h2=>T.C (mnm C n) (d::xs) h2 else .bad
       | none=>.bad) Q E->∃ b dx fs,x=.ref b/\H1 b=some (.ins a dx fs)/\fs.lookup n=none/\ZkS T Y E es Z H1 fun vs H2=>Zd6 T Y (mnm C n) (x::(vs++[])) H2 Q E:=by
   intro d h1 x H1 μ1 S Z Q rh1 rs1 rd f1;split at f1
   . rename_i C' fs e;obtain ⟨⟨e1,e2⟩,f1⟩:=f1.iff;subst e1;obtain ⟨i,b,Ca,dx,gs,rfl,rfl,q,hi,z,m',s⟩:=Zir rh1 rd e;rw [G.gk.mg,mm] at m';cases m';refine ⟨b,dx,gs,rfl,z,(s.look (f:=n)).2 e2,S,h1,μ1,rh1,rs1,f1.bind fun ds h2 vs H2 μ2 _ g2 rh2 rds f2=>⟨_,h2,μ2,rh2,.cons (rd.mono rh1 g2) (by rw [List.append_nil];exact rds),f2⟩⟩
   . exact f1.elim
 cases ys with
 | nil =>
   cases es with
   | nil =>
     exact (Zlk ho c hm F G.room B_ .nil G.pass ht).imp fun Z H Q s=>Sm.bind s fun S d h1 x H1 μ1 rh1 rs1 rd f1=>by
       obtain ⟨b,dx,fs,e1,e2,e3,s⟩:=key d h1 x H1 μ1 S Z Q rh1 rs1 rd f1;cases s with
       | mk ρ' h' μ' rh' rs' f'=>exact ⟨b,dx,fs,e1,e2,e3,f'.ok rh' .nil⟩
   | cons e r=>exact ff h4
 | cons y ys=>exact (Zm5 ho c hm F G.room B_ .nil G.pass ha (ZcP X.env h4).1 ((ZcP X.env h4).2 _) ht).imp fun Z H Q s=>Sm.bind s fun S d h1 x H1 μ1 rh1 rs1 rd f1=>key d h1 x H1 μ1 S Z Q rh1 rs1 rd f1
end
end IV
end
section
namespace IV
open PySem PySem.Spec PyProof.Rows L2
theorem Zjj{q:Prop}(X:Cx)(hx:ZrY scope x=true):Loc (relabel scope X.env) x/\(q\/(relabel scope X.env).names.lookup x=some .local):=by
 have:(relabel scope X.env).names.lookup x=some .local:=by rw [ZaV,of_decide_eq_true hx];rfl
 exact ⟨.inl this,.inr this⟩
theorem ZoV(e:ZgF (.ref i) h=some w):∃ xs,h[i]? = some (.lst xs)/\w=⟨[(i,xs)],xs⟩:=by
 unfold ZgF at e;simp only at e;split at e
 . cases e;exact ⟨_,by assumption,rfl⟩
 . cases e
theorem Zrc {X:Cx}{h1:Hd} (K:Y.K=X.K) (rh:RH Y H1 μ1 h1) (r:RD Y H1 μ1 d v) (il:Zdg d h1=true):tyV X.K "list" v H1:=by
 cases r with
 | ref q =>
   rename_i i a;have:∃ xs,h1[i]? = some (.lst xs):=by
     unfold Zdg at il;simp only at il;split at il
     . exact ⟨_,by assumption⟩
     . cases il
   obtain ⟨xs,hx⟩:=this;obtain ⟨vs,hl,_⟩:=rh.ob i _ a hx q;exact .inl ⟨rfl,vs,.of hl⟩
 | _=>cases il
theorem Znx(G:Gd T Γ X Y E k)(ho:PE X xo (ZY T Y E o))(h3:Zbo xo=true)(h4:chks Γ es ys=true)(h5:ys.length<29)(h6:(ap.endLine==cp.line)=true)(ha:PA X ys (ZkS T Y E es)) :
   PE X (.Call (.Attribute xo (ZlD m) ap) ys [] cp) (ZY T Y E (.meth m o es)):=by
 obtain ⟨sl,ty⟩:=Zsd m;cases ys with
 | nil =>
   cases es with
   | nil=>exact (ZpD PySem.F.plainAttrs_list sl ty (Zjo (Y:=Y) (E:=E) G.gk.K m) ho (Zen h3) h6).imp fun Z H Q s=>Sm.bind s fun S d h1 x H1 μ1 rh1 rs1 rd f1=>⟨Zrc G.gk.K rh1 rd f1.iff.1,d,[],h1,μ1,rh1,rd,.nil,f1.iff.2⟩
   | cons e r=>exact ff h4
 | cons y ys =>
   refine (ZrW PySem.F.plainAttrs_list sl ty (Zjo (Y:=Y) (E:=E) G.gk.K m) ho ha (Zen h3) ?_ h6 (ZcP X.env h4).1 ((ZcP X.env h4).2 _)).imp fun Z H Q s=>Sm.bind s fun S d h1 x H1 μ1 rh1 rs1 rd f1=>⟨Zrc G.gk.K rh1 rd f1.iff.1,S,h1,μ1,rh1,rs1,f1.iff.2.bind fun ds h2 xs H2 μ2 _ g2 rh2 rds f2=>⟨d,ds,h2,μ2,rh2,rd.mono rh1 g2,rds,f2⟩⟩
   rw [(Zda Γ X.env es (y::ys) h4 _).2];have h30:decide ((y::ys).length+([]:List Keyword).length+(if ([]:List Keyword).isEmpty then 0 else 1)<30)=true:=by
     rw [decide_eq_true_eq];exact Nat.lt_succ_of_lt h5
   rw [h30];rfl
theorem ZuC(hb:∀ d h',e=.ok d h'->∃ c,d=.bl c)(f:Fin Y eqR H B (e.bind fun x h1=>R.ofO (ZcT GD x h1) h1) Q E):Fin Y (RD Y) H B e (fun v H'=>∃ c,v=.bl c/\Q c H') E :=
 f.bind fun d h1 x H1 μ1 er g rh1 rd f1=>by
   obtain ⟨c,rfl⟩:=hb d h1 er;cases rd;exact ⟨c,rfl,Fin.ok (show Fin Y eqR H1 μ1 (.ok c h1) Q E from f1) rh1 rfl⟩
theorem Zs8{f:D->D->Hd->R D}(hf:∀ x y h d h',f x y h=.ok d h'->∃ c,d=.bl c)(s:Sm Y E eqR (fun S h=>((ev T a S h).bind fun x h1=>(ev T b S h1).bind fun y h2=>f x y h2).bind fun x h1=>R.ofO (ZcT T.GD x h1) h1) Z H Q) :
   ZY T Y E a Z H fun x H1=>ZY T Y E b Z H1 fun y H2=>rB Y E f x y H2 fun v H3=>∃ c,v=.bl c/\Q c H3:=by
 cases s with
 | mk S h B rh rs q =>
   refine Zj0 ⟨S,h,B,rh,rs,ZuC (fun d h' er=>?_) q⟩;obtain ⟨_,_,_,er⟩:=R.bind_eq er;obtain ⟨_,_,_,er⟩:=R.bind_eq er;exact hf _ _ _ _ _ er
theorem ZnZ(G:Gd T Γ X Y E k)(ha:PE X l (ZY T Y E a))(hb:PE X r (ZY T Y E b))(hm:Zbi r=true):PT X (.Compare l [op] [r] pos) (Zh0 T Y E (.ex (.cmp op a b))) :=
 (Zgd (Zlt (E:=E) G.room G.h60 G.gk op) ha hb (Zel hm)).imp fun _ _ _ s=>Zs8 (f:=opC T.GD op) (fun _ _ _ _ _=>ZpN) s
theorem ZpV(e:ZhL n x y h=.ok r h'):∃ b,r=.bl b:=by
 unfold ZhL at e;split at e
 . split at e
   . cases e;exact ⟨_,rfl⟩
   . cases e
 . cases e
theorem Znv(G:Gd T Γ X Y E k)(ha:PE X l (ZY T Y E a))(hb:PE X r (ZY T Y E b))(hm:Zbi r=true):PT X (.Compare l [if n then .NotIn else .In] [r] pos) (Zh0 T Y E (.ex (.nin n a b))) :=
 (Zgd (ZgY n (E:=E) G.room G.gk.K) ha hb (Zel hm)).imp fun _ _ _ s=>Zs8 (f:=ZhL n) (fun _ _ _ _ _=>ZpV) s
theorem ZqK{r:R α}:r.bind R.ok=r:=by cases r<;>rfl
theorem Zoy{X:Cx}(hY:Y.K=X.K)(rh:RH Y H B h)(r:RD Y H B d v)(f:Fin Y rel H B ((shD d h).bind k) Q E):∃ p,Dp X.K H v p/\L2.ZjZ p=true/\Fin Y rel H B (k p.shown h) Q E:=by
 unfold shD at f;split at f
 . rename_i p ep;split at f
   . rename_i ok;exact ⟨p,hY ▸ Zdc rh r ep,ok,f⟩
   . exact f.elim
 . exact f.elim
theorem rpE {X:Cx} (G:Gd T Γ X Y E k) (hg:glb Γ (O "repr")=true) (ha:PE X y t) (hy:ZaS y=true):PE X (.Call (.Name (O "repr") p) [y] [] q) (tCB (Zjd X.K) (Zi0 t ZjV)) :=
 ZbR (Zku G.room) (G.gl hg).1 (G.blt _ (by decide)) (by decide +kernel) (Zej ha Zgg (ZT X.env hy)) (by decide) (by decide) (ZT X.env hy) rfl
theorem rp2{X:Cx}(hY:Y.K=X.K){Q':VK}(s:Sm Y E rel (fun S h=>(ev T (.rpn o a b) S h).bind k) Z H Q)(hq:∀ c h1 H1 μ1,RH Y H1 μ1 h1->Fin Y rel H1 μ1 (k (.bl c) h1) Q E->Q' (.bl c) H1) :
   tOp (ZrJ o) (tCB (Zjd X.K) (Zi0 (ZY T Y E a) ZjV)) (tCB (Zjd X.K) (Zi0 (ZY T Y E b) ZjV)) Z H Q':=by
 cases s with
 | mk S h B rh rs f =>
   have f:Fin Y rel H B ((ev T a S h).bind fun x h1=>(shD x h1).bind fun p h1=>(ev T b S h1).bind fun y h2=>(shD y h2).bind fun q h3=>k (.bl (bif o then !decide (p=q) else decide (p=q))) h3) Q E:=by
     have q:=f;rw [show ev T (.rpn o a b) S h=(ev T a S h).bind fun x h1=>(shD x h1).bind fun p h1=>(ev T b S h1).bind fun y h2=>(shD y h2).bind fun q h3=>.ok (.bl (bif o then !decide (p=q) else decide (p=q))) h3 from rfl,R.bind_assoc] at q;simpa only [R.bind_assoc,R.bind_ok] using q
   refine ⟨S,h,B,rh,rs,f.bind fun d h1 x H1 μ1 _ g rh1 rd f1=>?_⟩;obtain ⟨p,dp,ok,f1⟩:=Zoy hY rh1 rd f1;refine ⟨x,p,rfl,dp,ok,S,h1,μ1,rh1,rs.mono rh g,f1.bind fun e h2 y H2 μ2 _ g2 rh2 re f2=>?_⟩;obtain ⟨q,dq,ok2,f2⟩:=Zoy hY rh2 re f2;exact ⟨y,q,rfl,dq,ok2,_,_,rfl,rfl,hq _ h2 H2 μ2 rh2 f2⟩
theorem Zj4(G:Gd T Γ X Y E k)(he:PE X x (ZY T Y E e))(h1:Zh4 x=true):PT X x (Zh0 T Y E (.ex e)) :=
 (Zk8 he ((kdE x).tr h1 _)).imp fun Z H Q s=>Sm.bind s fun S d h1 x H1 μ1 rh1 rs1 rd f1=>by
   obtain ⟨b,eb,f1⟩:=f1.ofO;exact ⟨b,ZmF G.gk.K rh1 rd eb,f1.ok rh1 rfl⟩
noncomputable def ZiY(T:Tb)(Y:Yx)(E:XK):Exs->List (TE×TE)
 | .nil=>[]
 | .cons k r=>match r with
   | .nil=>[]
   | .cons v r'=>(ZY T Y E k,ZY T Y E v)::ZiY T Y E r'
section
variable {Y:Yx}{H:Hp}{B:List Addr}{h:Hd}{Dd:Addr}{ys zs:List (Key×V)}
theorem ZjY{K:PySem.W.Frag}(hD:H Dd=some (.dK ys))(t:SqT K H a vs):SqT K (upd H Dd (.dK zs)) a vs:=by
 rcases t with t|t
 . rcases t with t|⟨o,t⟩
   . exact .inl (.inl (by rw [Zm (fun z=>by rw [z,hD] at t;cases t)];exact t))
   . exact .inl (.inr ⟨o,by rw [Zm (fun z=>by rw [z,hD] at t;cases t)];exact t⟩)
 . exact .inr t
theorem Zkn{K:PySem.W.Frag}(hD:H Dd=some (.dK ys))(t:FzL K H a vs):FzL K (upd H Dd (.dK zs)) a vs:=by
 rcases t with ⟨o,t⟩|t
 . exact .inl ⟨o,by rw [Zm (fun z=>by rw [z,hD] at t;cases t)];exact t⟩
 . exact .inr t
theorem Tr.swapD(hD:H Dd=some (.dK ys)):Tr Y H B (upd H Dd (.dK zs)) B:=⟨ZjY hD,Zkn hD,id⟩
end
inductive RPs(Y:Yx)(H:Hp)(B:List Addr):List D->List (V×V)->Prop
 | nil:RPs Y H B [] []
 | cons {k v:D}{r:List D}{x y:V}{ps:List (V×V)}:RD Y H B k x->RD Y H B v y->RPs Y H B r ps->RPs Y H B (k::v::r) ((x,y)::ps)
theorem RPs.pairs:∀ {ds:List D}{ps:List (V×V)}{kvs:List (Key×D)},RPs Y H B ds ps->Zbv ds=some kvs->∃ kvs':List (Key×V),ps=kvs'.map (fun kv=>(kV kv.1,kv.2))/\RKs Y H B kvs kvs'
 | _,_,_,.nil,e=>by cases e;exact ⟨[],rfl,.nil⟩
 | _,_,_,.cons a b s,e=>by
   rw [Zbv] at e;split at e
   . rename_i k r e1 e2;cases e;obtain ⟨kvs',rfl,rk⟩:=s.pairs e2;have:=Zcn a e1;subst this;exact ⟨(k,_)::kvs',rfl,.cons b rk⟩
   . cases e
theorem RPs.keysOk:∀ {ds:List D}{ps:List (V×V)}{kvs:List (Key×D)},RPs Y H B ds ps->Zbv ds=some kvs->ZbI kvs
 | _,_,_,.nil,e=>by cases e;intro p hp;cases hp
 | _,_,_,.cons a b s,e=>by
   rw [Zbv] at e;split at e
   . rename_i k r e1 e2;cases e;intro p hp x z;rcases O2.mp hp with rfl|hp
     . exact ZlO a e1 x z
     . exact s.keysOk e2 p hp x z
   . cases e
theorem Zdf:∀ {more kvs:List (Key×D)},ZbI more->ZbI kvs->ZbI (ZbW kvs more)
 | [],kvs,_,h=>h
 | (k,d)::r,kvs,hm,h=>Zdf (more:=r) (kvs:=putD kvs k d) (fun p hp=>hm p (Oh _ hp)) (ZeU h (fun x e=>hm (k,d) Oi x e))
theorem RKs.merge:∀ {more:List (Key×D)}{more':List (Key×V)}{kvs:List (Key×D)}{kvs':List (Key×V)},RKs Y H B more more'->RKs Y H B kvs kvs'->RKs Y H B (ZbW kvs more) (ZdG kvs' more')
 | _,_,_,_,.nil,s=>s
 | _,_,_,_,.cons (k:=k) a r,s=>by
   have z:=RKs.merge r (s.put k a);exact z
theorem Zlp:∀ (n:Nat) (ps:Exs) {K:List D->Hd->R D}{H:Hp}{B:List Addr}{h:Hd}{Q1:List (V×V)->Hp->Prop}{Γ:Gm}{ks:List (Option Expr)}{vs:List Expr},ks.length<=n->chkp Γ ps ks vs=true ->
   Gr H0 μ0 H B->RH Y H B h->RS Y H B S Z->Fin Y (RD Y) H0 μ0 ((evs T ps S h).bind K) Q E ->
   (∀ ds h1 qs H1 μ1,Gr H B H1 μ1->RH Y H1 μ1 h1->RPs Y H1 μ1 ds qs->Fin Y (RD Y) H0 μ0 (K ds h1) Q E->Q1 qs H1)->Zf8 (ZiY T Y E ps) Z H Q1:=by
 intro n;induction n with
 | zero =>
   intro ps K H B h Q1 Γ ks vs hl hc g0 rh rs f hq;cases ps with
   | nil=>exact hq [] h [] H B Gr.refl rh .nil f
   | cons k r =>
     cases r with
     | nil=>unfold chkp at hc;cases hc
     | cons v r' =>
       unfold chkp at hc;simp only at hc;split at hc
       . simp at hl
       . cases hc
 | succ n ih =>
   intro ps K H B h Q1 Γ ks vs hl hc g0 rh rs f hq;cases ps with
   | nil=>exact hq [] h [] H B Gr.refl rh .nil f
   | cons k r =>
     cases r with
     | nil=>unfold chkp at hc;cases hc
     | cons v r' =>
       unfold chkp at hc;simp only at hc;split at hc
       . rw [Oa] at hc;have f1:Fin Y (RD Y) H0 μ0 ((ev T k S h).bind fun x h1=>(ev T v S h1).bind fun y h2=>(evs T r' S h2).bind fun xs h3=>K (x::y::xs) h3) Q E:=by
           have e:(evs T (.cons k (.cons v r')) S h).bind K=(ev T k S h).bind fun x h1=>(ev T v S h1).bind fun y h2=>(evs T r' S h2).bind fun xs h3=>K (x::y::xs) h3:=by
             show ((ev T k S h).bind fun x h1=>((ev T v S h1).bind fun y h2=>(evs T r' S h2).bind fun xs h3=>R.ok (y::xs) h3).bind fun xs h2=>R.ok (x::xs) h2).bind K=_;simp only [R.bind_assoc,R.bind_ok]
           rw [<- e];exact f
         refine ⟨S,h,B,rh,rs,Fin.bindB g0 f1 fun d h1 x H1 μ1 _ g1 rh1 rd f2=>?_⟩;refine ⟨S,h1,μ1,rh1,rs.mono rh g1,Fin.bindB (g0.trans g1) f2 fun e h2 y H2 μ2 _ g2 rh2 re f3=>?_⟩;refine ih r' (by simpa using hl) (bR hc.2) ((g0.trans g1).trans g2) rh2 ((rs.mono rh g1).mono rh1 g2) f3 fun ds h3 qs H3 μ3 g3 rh3 rp f4=>?_;exact hq (d::e::ds) h3 ((x,y)::qs) H3 μ3 ((g1.trans g2).trans g3) rh3 (.cons ((rd.mono rh1 g2).mono rh2 g3) (re.mono rh2 g3) rp) f4
       . cases hc
theorem ZnX(ps:Exs)(G:Gd T Γ X Y E k)(h15:ks.length<=15)(hc:chkp Γ ps ks vs=true)(hp:PPs X pos ks vs (ZiY T Y E ps))(hall:ks.all (·.isSome)=true)(hl:ks.length=vs.length):PE X (.Dict ks vs pos) (ZY T Y E (.dictl ps)):=by
 by_cases h0:ks=[]
 . subst h0;cases vs with
   | cons a b=>cases hl
   | nil =>
     cases ps with
     | cons k r =>
       cases r with
       | nil=>unfold chkp at hc;cases hc
       | cons v r'=>unfold chkp at hc;cases hc
     | nil =>
       refine Zlo.imp fun Z H Q ⟨S,h,B,rh,rs,f⟩ p hp=>?_;have f:Fin Y (RD Y) H B (Zay (.dic []) h) Q E:=f;exact f.new rh hp ⟨[],Zg,.nil⟩ (fun p hp=>by cases hp)
 . refine (Zm8 hp hall hl h0 h15).imp fun Z H Q ⟨S,h,B,rh,rs,f⟩ p hp=>?_;have np:=rh.fr hp;refine Zlp ks.length ps (Oq _) hc (Gr.lay0 hp) (rh.lay0 hp) (rs.mono rh (Gr.lay0 hp)) f fun ds h1 qs H1 μ1 g1 rh1 rp f1=>?_;obtain ⟨hl1,nD⟩:=g1.out (Zg (H:=H)) np;have g01:Gr H B H1 μ1:=(Gr.lay0 hp).trans g1;split at f1
   . rename_i kvs ek;obtain ⟨hz,f1⟩:=f1.iff;obtain ⟨kvs',rfl,rk⟩:=rp.pairs ek;refine ⟨hl1,kvs',rfl,by rw [<- rk.length];exact hz,?_⟩;have f2:Fin Y (RD Y) H B (.ok (.ref h1.length) (h1++[.dic (ZbW [] kvs)])) Q E:=f1;exact f2.at ((g01.put hp).add hp) ((rh1.tr (.swapD hl1) fun _ ha=>Zm fun z=>nD (z ▸ ha)).add nD ⟨_,Zg,((rk.merge .nil).tr (.swapD hl1)).tr .more⟩ (show ZbI (ZbW [] kvs) from Zdf (rp.keysOk ek) (fun p hp=>by cases hp))) (.ref (by rw [rh1.len];simp))
   . exact f1.elim
mutual
theorem Ze(e:Ex){Γ:Gm}{X:Cx}{E:XK}{k:Nat}{x:Expr}(G:Gd T Γ X Y E k)(h:chk Γ e x=true):PE X x (ZY T Y E e):=match e,h with
 | .var i,h=>Zsb h fun x q h=>(Zpu (by rw [G.N];exact of_decide_eq_true (bL h)) (G.vis _ (bL (bR h))) (by simpa using bL (bR (bR h))) (by simpa using bR (bR (bR h)))).imp fun Z H Q s=>by
   cases s with
   | mk S h B rh rs f =>
     obtain ⟨d,e,f⟩:=Fin.ofO (show Fin Y (RD Y) H B (R.ofO (S[i]?).join h) Q E from f);obtain ⟨v,e1,rd⟩:=rs.var e;exact ⟨v,e1,f.ok rh rd⟩
 | .cst d,h=>Zmc G h
 | .glo y,h=>ZoU h fun q h pins s Z H Q I sm=>by
   cases sm with
   | mk S h' B rh rs f =>
     obtain ⟨d,e,f⟩:=Fin.ofO (show Fin Y (RD Y) H B (R.ofO (T.G y) h') Q E from f);obtain ⟨v,u,hm,rv,rd⟩:=G.gk.g y d e;exact Zm7 (G.gl h).1 hm rv (G.gl h).2 pins s Z H Q I (f.ok rh (rd H B))
 | .bin op a b,h=>Zs3 h fun l r q h=>(ZrV (ZpO G.gk.K op) (Ze a G (bL h)) (Ze b G (bR h))).imp fun _ _ _ s=>Zj0 s
 | .cmp op a b,h=>Zf1 h fun l r q h=>(Zgf (Zlt G.room G.h60 G.gk op) (Ze a G (bL h)) (Ze b G (bL (bR h))) (Zel (bR (bR h)))).imp fun _ _ _ s=>Zj0 s
 | .cmp2 o1 o2 a b c,h=>ff h
 | .neg a,h=>Zo2 h fun x q h=>(ZrT Zo1 (Ze a G h)).imp fun Z H Q s=>Sm.bind s fun S d h1 x H1 μ1 rh1 rs1 rd f1=>by
   cases rd with
   | int i=>exact ⟨i,rfl,Fin.ok f1 rh1 (.int _)⟩
   | _=>exact f1.elim
 | .nt a,h=>Zo2 h fun x q h=>(Zpx (Ze a G h)).imp fun Z H Q s=>Sm.bind s fun S d h1 x H1 μ1 rh1 rs1 rd f1=>by
   cases rd with
   | bl i=>exact ⟨i,rfl,Fin.ok f1 rh1 (.bl _)⟩
   | _=>exact f1.elim
 | .ands es,h=>Znu h fun xs q h=>and_ok es G h
 | .ors es,h=>Znu h fun xs q h=>or_ok es G h
 | .ite c a b,h=>Zt8 h fun t x y q h=>(Zlm (tst_ok c G (bL h)) (Ze a G (bL (bR h))) (Ze b G (bR (bR h)))).imp fun Z H Q s=>Sm.bind s fun S d h1 v H1 μ1 rh1 rs1 rd f1=>by
   cases rd;cases d with
   | true=>exact Zin ⟨S,h1,μ1,rh1,rs1,f1⟩
   | false=>exact Zio ⟨S,h1,μ1,rh1,rs1,f1⟩
 | .tupl es,h=>ZgL h fun xs j q h=>(Zpv (evs_ok es G h)).imp fun Z H Q s=>Sm.bind s fun S d h1 x H1 μ1 rh1 rs1 rd f1=>⟨by rw [<- rd.length];exact f1.iff.1,fun p hp=>f1.iff.2.tup rh1 hp rd⟩
 | .lstl es,h=>Zsi h fun xs q h=>(Zpz (evs_ok es G h)).imp fun Z H Q s=>Sm.bind s fun S d h1 x H1 μ1 rh1 rs1 rd f1=>⟨by rw [<- rd.length];exact f1.iff.1,fun p hp=>f1.iff.2.new rh1 hp ⟨_,Zg,rd.mono rh1 (Gr.lay hp)⟩⟩
 | .ix a i,h=>ZkT h fun x y q h=>(ZoB (Znm G.gk) (Ze a G (bL h)) (Ze i G (bL (bR h))) (ZgP (bR (bR h)))).imp fun _ _ _ s=>Zj0 s
 | .sl a lo hi,h=>Zrx h fun x l u q r h=>(Zli (Znk (E:=E) G.gk.K) (Ze a G (bL h)) (evo_ok lo G (bL (bR h))) (evo_ok hi G (bR (bR h)))).imp fun Z H Q s=>Sm.bind s fun S d h1 x H1 μ1 rh1 rs1 rd f1 =>
   ⟨S,h1,μ1,rh1,rs1,Fin.bind f1 fun l h2 l' H2 μ2 _ g2 rh2 rl f2=>⟨S,h2,μ2,rh2,rs1.mono rh1 g2,Fin.bind f2 fun u h3 u' H3 μ3 _ g3 rh3 ru f3=>by
     cases rl;cases ru;exact ⟨d,h3,μ3,rh3,(rd.mono rh1 g2).mono rh2 g3,f3⟩⟩⟩
 | .blt f es,h=>Zdp h fun p ys q h=>ZoK (bL (bR h)) (bR (bR h)) fun y r hs=>(ZqJ G f (bL (bL h)) (G.gl (bR (bL h))).1 (evs_ok es G hs) (ZcP X.env hs).1 ((ZcP X.env hs).2 _)).imp fun Z H Q s=>Sm.bind s fun S d h1 x H1 μ1 rh1 rs1 rd f1=>⟨d,h1,μ1,rh1,rd,f1⟩
 | .call f es,h=>Zdp h fun p ys q h=>ZoK (bL (bR (bR h))) (bR (bR (bR h))) fun y r hs=>by
   obtain ⟨ps,hd⟩:=G.defs _ (of_decide_eq_true (bL h));exact (ZpC hd G.room (G.gl (bL (bR h))).1 G.pass (evs_ok es G hs) (G.gl (bL (bR h))).2 (ZcP X.env hs).1 ((ZcP X.env hs).2 _)).imp fun Z H Q s=>Sm.bind s fun S d h1 x H1 μ1 rh1 rs1 rd f1=>⟨d,h1,μ1,rh1,rd,f1⟩
 | .meth m o es,h=>ZoM h fun xo ap ys cp h=>Znx G (Ze o G (bL h)) (bL (bR h)) (bL (bR (bR h))) (of_decide_eq_true (bL (bR (bR (bR h))))) (bR (bR (bR (bR h)))) (evs_ok es G (bL (bR (bR h))))
 | .comp NC js it g c e,h=>ZoE h fun elt tg iter ifs scope q h=>by
   have S_:=Zhp (bL (bR h));rw [<- G.N,<- G.sc (bL h)] at S_;have h:=bR (bR h);have Gc:=fun C s3 H3 fp=>G.comp NC scope C s3 H3 fp S_.nd;refine (Zm9 (g:=tgR X.K g) (tc:=Sm Y E0 eqR (tsto T c)) (te:=ZY T Y E0 e) S_ rfl G.calm (evi_ok it G (bL h)) (fun C s3 H3 fp=>⟨Zjg rfl S_.nd rfl (fun x hx=>Zjj (scope:=scope) X hx) (bL (bR (bR h))),ifs_ok c (Gc C s3 H3 fp) (bL (bR (bR (bR (bR h))))),Ze e (Gc C s3 H3 fp) (bR (bR (bR (bR (bR h)))))⟩) (Zri X.K g) (fun j hj=>of_decide_eq_true (OC.mp (bL (bR (bR (bR h)))) j (List.mem_range.mpr hj))) (ZhX X.env (bL (bR h)))).imp
     fun Z H Q s=>Sm.bind s fun S w h1 J H1 μ1 rh1 rs1 wj f1 D hD=>ZjH G.gk.K (fun _ _ _ z=>z) rh1 rs1 wj f1 hD
 | .sorts e,h=>ff h
 | .trev e,h=>ff h
 | .lrv e,h=>ff h
 | .tix o e,h=>ff h
 | .lix o e,h=>ff h
 | .tmt m o e,h=>ff h
 | .lmu a b,h=>ff h
 | .sin a b,h=>ff h
 | .dne a b,h=>ff h
 | .lin a b,h=>ff h
 | .nin n a b,h=>Zf1 h fun l r q h=>(Zgf (ZgY n G.room G.gk.K) (Ze a G (bL h)) (Ze b G (bL (bR h))) (Zel (bR (bR h)))).imp fun _ _ _ s=>Zj0 s
 | .nix a i,h=>ZkT h fun x y q h=>(ZoB (Zqk G.room G.gk.K) (Ze a G (bL h)) (Ze i G (bL (bR h))) (ZgP (bR (bR h)))).imp fun _ _ _ s=>Zj0 s
 | .ndl,h=>ZsU h fun ks vs q h=>by
   cases List.isEmpty_iff.mp (bL h);cases List.isEmpty_iff.mp (bR h);refine Zln.imp fun Z H Q ⟨S,h,B,rh,rs,f⟩ p hp=>?_;have f:Fin Y (RD Y) H B (Zay (.dnk []) h) Q E:=f;exact f.new rh hp ⟨[],[],Zg,.nil,.nil⟩
 | .rpn o a b,h=>Zf1 h fun l r q h=>Zdp h fun p ys q' h=>ZbK h fun y h=>Zdp h fun p2 zs q2 h=>ZbK h fun z h=>(Zgf Zlq (rpE G (bL h) (Ze a G (bL (bR h))) (bL (bR (bR h)))) (rpE G (bL h) (Ze b G (bL (bR (bR (bR h))))) (bR (bR (bR (bR h))))) rfl).imp fun Z H Q s =>
   rp2 G.gk.K (k:=R.ok) (rel:=RD Y) (Q:=Q) (by simp only [ZqK];exact s) fun c h1 H1 μ1 rh1 f1=>f1.ok rh1 (.bl _)
 | .any,h=>fun pins s Z H Q I sm=>by
   cases sm with
   | mk S h B rh rs f=>exact f.elim
 | .att Cs o f,h=>ZqV h fun x q h=>(ZpB (Ze o G (bL h)) (Zen (bL (bR h)))).imp fun Z H Q s=>Sm.bind s fun S d h1 x H1 μ1 rh1 rs1 rd f1=>ZqQ G (bL (bR (bR h))) (of_decide_eq_true (bR (bR (bR h)))) rh1 rd f1
 | .mk C es,h=>Zdp h fun p ys q h=>Zse G (of_decide_eq_true (bL h)) (bL (bR h)) (bR (bR h)) (evs_ok es G (bR (bR h)))
 | .mcl C m o es,h=>ZoM h fun xo ap ys cp h=>ZpZ G (of_decide_eq_true (bL (bR (bR (bR h))))) (bL (bR h)) (bL (bR (bR h))) (of_decide_eq_true (bL (bR (bR (bR (bR h)))))) (bR (bR (bR (bR (bR h))))) (Ze o G (bL h)) (evs_ok es G (bL (bR (bR h))))
 | .maxd a d,h=>ff h
 | .dictl ps,h=>ZsU h fun ks vs q h=>ZnX ps G (of_decide_eq_true (bL h)) (bR h) (pairs_ok ps G (bR h)).1 (pairs_ok (pos:=q) ps G (bR h)).2.1 (pairs_ok (pos:=q) ps G (bR h)).2.2
theorem evs_ok(e:Exs){Γ:Gm}{X:Cx}{E:XK}{k:Nat}{x:List Expr}(G:Gd T Γ X Y E k)(h:chks Γ e x=true):PA X x (ZkS T Y E e):=match e,x,h with
 | .nil,[],h=>Zgg.imp fun Z H Q s=>by
   cases s with
   | mk S h B rh rs f=>exact Fin.ok (show Fin Y (RDs Y) H B (.ok [] h) Q E from f) rh .nil
 | .nil,_::_,h=>ff h
 | .cons e r,[],h=>ff h
 | .cons e r,y::ys,h=>(Zej (Ze e G (bL h)) (evs_ok r G (bR (bR h))) (ZT X.env (bL (bR h)))).imp fun Z H Q s=>Sm.bind s fun S d h1 x H1 μ1 rh1 rs1 rd f1 =>
   ⟨S,h1,μ1,rh1,rs1,f1.bind fun ds h2 xs H2 μ2 _ g2 rh2 rds f2=>f2.ok rh2 (.cons (rd.mono rh1 g2) rds)⟩
theorem and_ok(e:Exs){Γ:Gm}{X:Cx}{E:XK}{k:Nat}{x:List Expr}{pos:Pos}(G:Gd T Γ X Y E k)(h:chks Γ e x=true):PE X (.BoolOp .And x pos) (ZY T Y E (.ands e)):=match e,x,h with
 | .nil,x,h=>fun pins s Z H Q I sm=>by
   cases sm with
   | mk S h B rh rs f=>exact f.elim
 | .cons e r,[],h=>ff h
 | .cons e .nil,[y],h=>(Zlj (Ze e G (bL h))).imp fun Z H Q q=>q
 | .cons e .nil,y::z::zs,h=>ff (bR (bR h))
 | .cons e (.cons e' r'),[y],h=>ff (bR (bR h))
 | .cons e (.cons e' r'),y::z::zs,h=>(ZpE (Ze e G (bL h)) (and_ok (.cons e' r') G (bR (bR h)))).imp fun Z H Q s=>Sm.bind s fun S d h1 x H1 μ1 rh1 rs1 rd f1=>by
   cases rd with
   | bl c =>
     refine ⟨c,rfl,?_⟩;cases c with
     | true=>exact Zin ⟨S,h1,μ1,rh1,rs1,f1⟩
     | false=>exact Zio (Fin.ok f1 rh1 (.bl _))
   | _=>exact f1.elim
theorem or_ok(e:Exs){Γ:Gm}{X:Cx}{E:XK}{k:Nat}{x:List Expr}{pos:Pos}(G:Gd T Γ X Y E k)(h:chks Γ e x=true):PE X (.BoolOp .Or x pos) (ZY T Y E (.ors e)):=match e,x,h with
 | .nil,x,h=>fun pins s Z H Q I sm=>by
   cases sm with
   | mk S h B rh rs f=>exact f.elim
 | .cons e r,[],h=>ff h
 | .cons e .nil,[y],h=>(Zlj (Ze e G (bL h))).imp fun Z H Q q=>q
 | .cons e .nil,y::z::zs,h=>ff (bR (bR h))
 | .cons e (.cons e' r'),[y],h=>ff (bR (bR h))
 | .cons e (.cons e' r'),y::z::zs,h=>(ZrU (Ze e G (bL h)) (or_ok (.cons e' r') G (bR (bR h)))).imp fun Z H Q s=>Sm.bind s fun S d h1 x H1 μ1 rh1 rs1 rd f1=>by
   cases rd with
   | bl c =>
     refine ⟨c,rfl,?_⟩;cases c with
     | true=>exact Zin (Fin.ok f1 rh1 (.bl _))
     | false=>exact Zio ⟨S,h1,μ1,rh1,rs1,f1⟩
   | _=>exact f1.elim
theorem evo_ok(e:Option Ex){Γ:Gm}{X:Cx}{E:XK}{k:Nat}{x:Option Expr}(G:Gd T Γ X Y E k)(h:chko Γ e x=true):PO X x (ZtI T Y E e):=match e,x,h with
 | none,none,h=>Zm1.imp fun Z H Q s=>by
   cases s with
   | mk S h B rh rs f=>exact Fin.ok (show Fin Y _ H B (.ok none h) Q E from f) rh rfl
 | none,some _,h=>ff h
 | some e,none,h=>ff h
 | some e,some a,h=>(Zm0 (Ze e G h)).imp fun Z H Q s=>Sm.bind s fun S d h1 x H1 μ1 rh1 rs1 rd f1=>by
   cases rd with
   | int i=>exact ⟨i,rfl,Fin.ok f1 rh1 rfl⟩
   | _=>exact f1.elim
theorem tst_ok(e:Tx){Γ:Gm}{X:Cx}{E:XK}{k:Nat}{x:Expr}(G:Gd T Γ X Y E k)(h:chkt Γ e x=true):PT X x (Zh0 T Y E e):=match e,h with
 | .ex e,h=>bO h (fun h=>Zj4 G (Ze e G (bR h)) (bL h)) fun h=>by
   cases e with
   | cmp op a b=>exact Zf1 h fun l r q h=>ZnZ G (Ze a G (bL h)) (Ze b G (bL (bR h))) (bR (bR h))
   | rpn o a b=>exact Zf1 h fun l r q h=>Zdp h fun p ys q' h=>ZbK h fun y h=>Zdp h fun p2 zs q2 h=>ZbK h fun z h=>(Zgd Zlq (rpE G (bL h) (Ze a G (bL (bR h))) (bL (bR (bR h)))) (rpE G (bL h) (Ze b G (bL (bR (bR (bR h))))) (bR (bR (bR (bR h))))) rfl).imp fun Z H Q s=>rp2 G.gk.K s fun c h1 H1 μ1 rh1 f1=>⟨c,rfl,Fin.ok (show Fin Y eqR H1 μ1 (.ok c h1) Q E from f1) rh1 rfl⟩
   | nin n a b=>exact Zf1 h fun l r q h=>Znv G (Ze a G (bL h)) (Ze b G (bL (bR h))) (bR (bR h))
   | _=>exact ff h
 | .ands ts,h=>Znu h fun xs q h=>(tand_ok ts G h).pt
 | .ors ts,h=>Znu h fun xs q h=>(tor_ok ts G h).pt
 | .nt t,h=>Zo2 h fun y q h=>(Zpo (tst_ok t G h)).imp fun Z H Q s=>Sm.bind s fun S d h1 x H1 μ1 rh1 rs1 rd f1=>by
   cases rd;exact Fin.ok f1 rh1 rfl
theorem tand_ok(e:Txs){Γ:Gm}{X:Cx}{E:XK}{k:Nat}{x:List Expr}{pos:Pos}(G:Gd T Γ X Y E k)(h:chkts Γ e x=true):PW X (.BoolOp .And x pos) (Zh0 T Y E (.ands e)):=match e,x,h with
 | .one t,x,h=>ZbK h fun y h=>(ZmV (tst_ok t G h)).imp fun Z H Q q=>q
 | .cons t ts,[],h=>ff h
 | .cons t ts,[_],h=>ff (bL (bR h))
 | .cons t ts,x::y::r,h=>(Zpm (tst_ok t G (bL h)) (tand_ok ts G (bR (bR h)))).imp fun Z H Q s=>Sm.bind s fun S d h1 x H1 μ1 rh1 rs1 rd f1=>by
   cases rd;cases d with
   | true=>exact Zin ⟨S,h1,μ1,rh1,rs1,f1⟩
   | false=>exact Zio (Fin.ok f1 rh1 rfl)
theorem tor_ok(e:Txs){Γ:Gm}{X:Cx}{E:XK}{k:Nat}{x:List Expr}{pos:Pos}(G:Gd T Γ X Y E k)(h:chkts Γ e x=true):PW X (.BoolOp .Or x pos) (Zh0 T Y E (.ors e)):=match e,x,h with
 | .one t,x,h=>ZbK h fun y h=>(Zpl (tst_ok t G h)).imp fun Z H Q q=>q
 | .cons t ts,[],h=>ff h
 | .cons t ts,[_],h=>ff (bL (bR h))
 | .cons t ts,x::y::r,h=>(ZrO (tst_ok t G (bL h)) (tor_ok ts G (bR (bR h)))).imp fun Z H Q s=>Sm.bind s fun S d h1 x H1 μ1 rh1 rs1 rd f1=>by
   cases rd;cases d with
   | true=>exact Zin (Fin.ok f1 rh1 rfl)
   | false=>exact Zio ⟨S,h1,μ1,rh1,rs1,f1⟩
theorem ifs_ok(c:Option Tx){Γ:Gm}{X:Cx}{E:XK}{k:Nat}{x:List Expr}(G:Gd T Γ X Y E k)(h:chkf Γ c x=true):PIf X x (Sm Y E eqR (tsto T c)):=match c,x,h with
 | none,[],h=>fun pins s Z H Q I sm=>by
   cases sm with
   | mk S h B rh rs f=>exact Zm3 pins s Z H Q I (Fin.ok (show Fin Y eqR H B (.ok true h) Q E from f) rh rfl)
 | none,_::_,h=>ff h
 | some t,x,h=>ZbK h fun y h=>Zm2 (tst_ok t G h)
theorem evi_ok(e:Ix){Γ:Gm}{X:Cx}{E:XK}{k:Nat}{x tg:Expr}(G:Gd T Γ X Y E k)(h:chki Γ e tg x=true):PI X tg x (ZtJ T Y E e):=match e,h with
 | .pl e,h=>(Zpt (Ze e G h)).imp fun Z H Q s=>Sm.bind s fun S d h1 x H1 μ1 rh1 rs1 rd f1=>by
   obtain ⟨w,ew,f1⟩:=f1.ofO;exact ZmA G.gk.K rh1 rd ew fun J wj=>f1.ok rh1 wj
 | .tw e,h=>ff h
 | .rng e,h=>Zdp h fun p ys q h=>ZbK h fun y h=>(Zj5 (G.gl (bL h)).1 (G.blt _ (by decide)) (Zej (Ze e G (bL (bR h))) Zgg (ZT X.env (bR (bR h)))) (ZT X.env (bR (bR h)))).imp fun Z H Q s=>Sm.bind s fun S d h1 x H1 μ1 rh1 rs1 rd f1=>by
   cases rd with
   | int j =>
     obtain ⟨hz,f1⟩:=Fin.iff (show Fin Y (WJ Y) H1 μ1 (if ZaR j=true then .ok ⟨[],Z6 0 j.toNat⟩ h1 else .bad) Q E from f1);exact ⟨j,rfl,of_decide_eq_true (bL hz),of_decide_eq_true (bR hz),f1.ok rh1 ZoX⟩
   | _=>exact f1.elim
 | .rng2 a b,h=>ff h
 | .enu e,h=>ff h
 | .rev e,h=>Zdp h fun p ys q h=>ZbK h fun y h=>(Zm4 (G.gl (bL h)).1 (G.blt _ (by decide)) (Zej (Ze e G (bL (bR h))) Zgg (ZT X.env (bR (bR h)))) (ZT X.env (bR (bR h)))).imp fun Z H Q s=>Sm.bind s fun S d h1 x H1 μ1 rh1 rs1 rd f1=>by
   obtain ⟨w,ew,f1⟩:=f1.ofO;obtain ⟨w0,ew0,rfl⟩:=Oo.mp ew;cases d with
   | tup xs =>
     cases ew0;obtain ⟨a,vs,rfl,t,s⟩:=rd.tup_inv;exact ⟨a,vs,rfl,.inl ⟨G.gk.K ▸ t,f1.ok rh1 (ZoY G.gk.K rh1 t s)⟩⟩
   | ref i =>
     obtain ⟨xs,hi,rfl⟩:=ZoV (show ZgF (.ref i) h1=some w0 from ew0);obtain ⟨a,vs,rfl,hm,hl,s⟩:=rd.lst rh1 hi;exact ⟨a,vs,rfl,.inr ⟨.of hl,by rw [<- s.length];exact f1.ok rh1 (Zmz hm)⟩⟩
   | _=>cases ew0
 | .en1 e,h=>ff h
 | .zl a b,h=>ff h
 | .zp a b,h=>ff h
 | .en0 e,h=>ff h
 | .dk e,h=>ff h
theorem pairs_ok(ps:Exs){Γ:Gm}{X:Cx}{E:XK}{k:Nat}{ks:List (Option Expr)}{vs:List Expr}{pos:Pos}(G:Gd T Γ X Y E k)(h:chkp Γ ps ks vs=true):PPs X pos ks vs (ZiY T Y E ps)/\ks.all (·.isSome)=true/\ks.length=vs.length:=match ps,ks,vs,h with
 | .nil,[],[],h=>⟨ZmZ,rfl,rfl⟩
 | .nil,[],_::_,h=>ff h
 | .nil,_::_,_,h=>ff h
 | .cons e .nil,ks,vs,h=>ff h
 | .cons e (.cons v r'),[],vs,h=>ff h
 | .cons e (.cons v r'),none::_,vs,h=>ff h
 | .cons e (.cons v r'),some _::_,[],h=>ff h
 | .cons e (.cons v r'),some kx::ks,vx::vs,h =>
   let z:=pairs_ok r' (pos:=pos) G (bR (bR h))
   ⟨Zld (Ze e G (bL h)) (Ze v G (bL (bR h))) z.1,z.2.1,congrArg (·+1) z.2.2⟩
end
end IV
end
section
namespace IV
open PySem PySem.Spec PyProof.Rows L2
noncomputable def Zby(e:Expr):Bool:=decide (tgE e≠13)&&decide (tgE e≠19)
noncomputable def Zh9(e:Expr):Bool:=decide (tgE e≠8)
structure PsS where
 a:Expr:=default
 b:Expr:=default
 o:Option Expr:=none
 c:Option Expr:=none
 ts:List Expr:=[]
 xs:List Stmt:=[]
 ys:List Stmt:=[]
 zs:List Stmt:=[]
 hs:List ExceptHandler:=[]
 op:Operator:=.Add
 p:Pos:=default
 s:Stmt:=default
noncomputable def tgS:Stmt->Nat
 | .Return _ _=>1|.Assign _ _ _=>2|.AugAssign _ _ _ _=>3|.Expr _ _=>4|.If _ _ _ _=>5|.While _ _ _ _=>6|.For _ _ _ _ _=>7|.Pass _=>8|.Break _=>9|.Continue _=>10|.Raise _ _ _=>11|.Try _ _ _ _ _=>12|_=>0
noncomputable def prS(s:Stmt):PsS:=match s with
 | .Return o p=>{o:=o,p:=p}
 | .Assign ts a p=>{ts:=ts,a:=a,p:=p}
 | .AugAssign a op b p=>{a:=a,op:=op,b:=b,p:=p}
 | .Expr a p=>{a:=a,p:=p}
 | .If a xs ys p=>{a:=a,xs:=xs,ys:=ys,p:=p}
 | .While a xs ys p=>{a:=a,xs:=xs,ys:=ys,p:=p}
 | .For a b xs ys p=>{a:=a,b:=b,xs:=xs,ys:=ys,p:=p}
 | .Pass p=>{p:=p}
 | .Break p=>{p:=p}
 | .Continue p=>{p:=p}
 | .Raise o c p=>{o:=o,c:=c,p:=p}
 | .Try xs hs ys zs p=>{xs:=xs,hs:=hs,ys:=ys,zs:=zs,p:=p}
 | _=>{s:=s}
noncomputable def mkS(n:Nat)(p:PsS):Stmt:=match n with
 | 1=>.Return p.o p.p|2=>.Assign p.ts p.a p.p|3=>.AugAssign p.a p.op p.b p.p|4=>.Expr p.a p.p|5=>.If p.a p.xs p.ys p.p|6=>.While p.a p.xs p.ys p.p|7=>.For p.a p.b p.xs p.ys p.p
 | 8=>.Pass p.p|9=>.Break p.p|10=>.Continue p.p|11=>.Raise p.o p.c p.p|12=>.Try p.xs p.hs p.ys p.zs p.p|_=>p.s
theorem rbS(s:Stmt):mkS (tgS s) (prS s)=s:=by cases s<;>rfl
@[irreducible] noncomputable def anS(n:Nat)(s:Stmt)(f:PsS->Bool):Bool:=decide (tgS s=n)&&f (prS s)
section
variable {P:Stmt->Prop}{s:Stmt}
theorem Zbl(h:anS n s f=true)(k:∀ p,f p=true->P (mkS n p)):P s:=by
 unfold anS at h;exact rbS s ▸ dS (P:=fun m=>P (mkS m (prS s))) (bL h) (k _ (bR h))
noncomputable def oSm{α:Type}(o:Option α)(f:α->Bool):Bool:=match o with
 | some x=>f x
 | none=>false
theorem ZpR{α:Type}{P:Option α->Prop}{o:Option α}{f:α->Bool}(h:oSm o f=true)(k:∀ x,f x=true->P (some x)):P o:=by
 cases o with
 | none=>exact ff h
 | some x=>exact k x h
@[irreducible] noncomputable def aAs(s:Stmt)(f:Expr->Expr->Bool):Bool:=anS 2 s fun p=>l1 p.ts fun g=>f g p.a
theorem ZjQ(h:aAs s f=true)(k:∀ g x q,f g x=true->P (.Assign [g] x q)):P s:=by
 unfold aAs at h;exact Zbl h fun p h=>ZbK (P:=fun ts=>P (.Assign ts p.a p.p)) h fun _ h=>k _ _ _ h
end
noncomputable def Zsz:Ex->Bool
 | .comp _ _ _ _ _ _|.any=>true
 | _=>false
mutual
noncomputable def ZsV(Γ:Gm):Sx->Stmt->Bool
 | .ret e,s=>anS 1 s fun p=>oSm p.o fun x=>chk Γ e x
 | .set g e,s=>aAs s fun tg x=>Zn0 Γ.N (ownD Γ.sc) g tg&&(chk Γ e x&&((Zby x&&(!isTup tg || Zh9 x)) || (decide (tgE tg=6)&&Zsz e)))
 | .put o i e,s=>aAs s fun tg x=>aS tg fun xo xi=>chk Γ o xo&&(chk Γ i xi&&(chk Γ e x&&(ZbU xi&&Zby x)))
 | .npt o i e,s=>aAs s fun tg x=>aS tg fun xo xi=>chk Γ o xo&&(chk Γ i xi&&(chk Γ e x&&(ZbU xi&&Zby x)))
 | .trr _ _ _ _,_=>false
 | .aug i op e,s=>anS 3 s fun p=>Zkd Γ.N (ownD Γ.sc) i p.a&&(decide (p.op=.Add)&&(decide (op=.Add)&&chk Γ e p.b))
 | .drp e,s=>anS 4 s fun p=>chk Γ e p.a&&Zby p.a
 | .iff c a b,s=>anS 5 s fun p=>chkt Γ c p.a&&(chkSs Γ a p.xs&&chkSs Γ b p.ys)
 | .whl c b,s=>anS 6 s fun p=>l0 p.ys (chkt Γ c p.a&&chkSs Γ b p.xs)
 | .forr g it b,s=>anS 7 s fun p=>l0 p.ys (chki Γ it p.a p.b&&(Zbi p.b&&(Zn0 Γ.N (ownD Γ.sc) g p.a&&chkSs Γ b p.xs)))
 | .pas,s=>anS 8 s fun _=>true
 | .brk,s=>anS 9 s fun _=>true
 | .cnt,s=>anS 10 s fun _=>true
 | .seta Cs o f e,s=>aAs s fun tg x=>aA f tg fun xo _=>chk Γ o xo&&(chk Γ e x&&(Zby x&&((Cs.all fun C=>decide (C∈Γ.kl.cs))&&decide (f∈Γ.kl.ats))))
 | .auga _ _ _ _,_=>false
 | .any,_=>true
 | .rai _ _,_=>false
 | .trs _ _ _ _,_=>false
 | .trw _ _ _ _ _ _ _,_=>false
 | .raf _ _,_=>false
 | .tre _ _ _ _ _ _ _,_=>false
 | .unl _ _ _,_=>false
noncomputable def chkSs(Γ:Gm):Sxs->List Stmt->Bool
 | .nil,ss=>ss.isEmpty
 | .cons s r,ss=>match ss with
   | x::xs=>ZsV Γ s x&&chkSs Γ r xs
   | []=>false
end
noncomputable def ZG(Y:Yx)(H:Hp)(B:List Addr)(r:R (Fl×Ev))(D:Ends)(E:XK):Prop:=match r with
 | .bad=>False
 | .ok p h'=>∀ H' μ',Gr H B H' μ'->RH Y H' μ' h'->match p.1 with
   | .nx=>∀ σ',RS Y H' μ' p.2 σ'->D.nx σ' H'
   | .bk=>∀ σ',RS Y H' μ' p.2 σ'->D.bk σ' H'
   | .ct=>∀ σ',RS Y H' μ' p.2 σ'->D.ct σ' H'
   | .rt d=>∀ v,RD Y H' μ' d v->D.rt v H'
 | .exc c h'=>∀ H' μ' C,Gr H B H' μ'->RH Y H' μ' h'->Y.mg c=some (.ref C)->E (.ref C) none H'
section
variable {Y:Yx}{α β:Type}{rel:Hp->List Addr->α->β->Prop}{H H1:Hp}{B μ1:List Addr}{E:XK}{D:Ends}
theorem ZG.mono(g:Gr H B H1 μ1)(f:ZG Y H B r D E):ZG Y H1 μ1 r D E:=by
 cases r with
 | bad=>exact f
 | ok a h=>exact fun H' μ' g'=>f H' μ' (g.trans g')
 | exc c h=>exact fun H' μ' C g'=>f H' μ' C (g.trans g')
theorem ZG.bind(f:ZG Y H B (r.bind k) D E)
   (hk:∀ a h1 b H1 μ1,r=.ok a h1->Gr H B H1 μ1->RH Y H1 μ1 h1->rel H1 μ1 a b->ZG Y H1 μ1 (k a h1) D E->Q1 b H1):Fin Y rel H B r Q1 E:=by
 cases r with
 | bad=>exact f
 | ok a h=>exact fun b H' μ' g' rh rl=>hk a h b H' μ' rfl g' rh rl (ZG.mono g' f)
 | exc c h=>exact f
theorem ZG.ofO(f:ZG Y H B ((R.ofO o h).bind k) D E):∃ a,o=some a/\ZG Y H B (k a h) D E:=by
 cases o with
 | none=>exact f.elim
 | some a=>exact ⟨a,rfl,f⟩
theorem ZG.nx(f:ZG Y H B (.ok (.nx,S) h) D E)(rh:RH Y H B h)(rs:RS Y H B S Z):D.nx Z H:=f H B Gr.refl rh Z rs
theorem ZG.part(f:ZG Y H B (r.bind k) D E)
   (hk:∀ p h1 H1 μ1,r=.ok p h1->Gr H B H1 μ1->RH Y H1 μ1 h1->ZG Y H1 μ1 (k p h1) D E->match p.1 with
     | .nx=>∀ σ',RS Y H1 μ1 p.2 σ'->D1.nx σ' H1
     | .bk=>∀ σ',RS Y H1 μ1 p.2 σ'->D1.bk σ' H1
     | .ct=>∀ σ',RS Y H1 μ1 p.2 σ'->D1.ct σ' H1
     | .rt d=>∀ v,RD Y H1 μ1 d v->D1.rt v H1):ZG Y H B r D1 E:=by
 cases r with
 | bad=>exact f
 | ok p h=>exact fun H' μ' g' rh=>hk p h H' μ' rfl g' rh (ZG.mono g' f)
 | exc c h=>exact f
end
inductive SmS(Y:Yx)(E:XK)(m:Ev->Hd->R (Fl×Ev))(D:Ends)(Z:L2.St)(H:Hp):Prop
 | mk (S:Ev) (h:Hd) (B:List Addr) (rh:RH Y H B h) (rs:RS Y H B S Z) (f:ZG Y H B (m S h) D E):SmS Y E m D Z H
noncomputable def ZmL(T:Tb)(Y:Yx)(E:XK)(s:Sx):TS:=SmS Y E (xs1 T s)
noncomputable def Zi6(T:Tb)(Y:Yx)(E:XK)(s:Sxs):TS:=SmS Y E (xs2 T s)
theorem SmS.bind{D:Ends}{γ δ:Type}{rel:Hp->List Addr->γ->δ->Prop}{m:Ev->Hd->R γ}{k:Ev->γ->Hd->R (Fl×Ev)}{Q1:δ->Hp->Prop}(s:SmS Y E (fun S h=>(m S h).bind (k S)) D Z H)
   (hk:∀ S d h1 v H1 μ1,RH Y H1 μ1 h1->RS Y H1 μ1 S Z->rel H1 μ1 d v->ZG Y H1 μ1 (k S d h1) D E->Q1 v H1):Sm Y E rel m Z H Q1:=by
 cases s with
 | mk S h B rh rs f=>exact ⟨S,h,B,rh,rs,f.bind fun d h1 x H1 μ1 _ g rh1 rd f1=>hk S d h1 x H1 μ1 rh1 (rs.mono rh g) rd f1⟩
theorem Sm.at{α β:Type}{rel:Hp->List Addr->α->β->Prop}{m:Ev->Hd->R α}{Q1:β->Hp->Prop}{Q:Prop}(s:Sm Y E rel m Z H Q1)(hk:∀ S h B,RH Y H B h->RS Y H B S Z->Fin Y rel H B (m S h) Q1 E->Q):Q:=by
 cases s with
 | mk S h B rh rs f=>exact hk S h B rh rs f
theorem SmS.at{D:Ends}{Q:Prop}(s:SmS Y E m D Z H)(hk:∀ S h B,RH Y H B h->RS Y H B S Z->ZG Y H B (m S h) D E->Q):Q:=by
 cases s with
 | mk S h B rh rs f=>exact hk S h B rh rs f
theorem _root_.L2.PS.imp(h:PS X s t)(i:∀ D Z H,t' D Z H->t D Z H):PS X s t':=fun pins s Z H D I q=>h pins s Z H D I (i D Z H q)
theorem _root_.L2.PSs.imp(h:PSs X s t)(i:∀ D Z H,t' D Z H->t D Z H):PSs X s t':=fun pins s Z H D I q=>h pins s Z H D I (i D Z H q)
structure XOk(K:PySem.W.Frag)(a:Addr):Prop extends ExcN K a where
 own:PySem.W.excIn K a [.type "ValueError",.type "Exception",.type "BaseException",.type "object"] "ValueError.__new__" = true
 sub:PySem.W.subIn K (.ref a) (.ref a)=some true
structure GdS(T:Tb)(Γ:Gm)(X:Cx)(Y:Yx)(E:XK)(k:Nat):Prop extends Gd T Γ X Y E k where
 top:Γ.top=true
 fnt:∀ x,X.fn x=true
 own:PassesOwn (model X.prog X.w) X.A X.env X.xe
 bk:X.env.blockKind=.function
 rz:ZjS X E
 stk:X.stack=X.env::X.outer
 frm:X.env.frame=some X.env.locals
 xcs:∀ C∈Γ.kl.xs,∃ a,X.mg C=some (.ref a)/\XOk X.K a
 xas:∀ p∈Γ.kl.xa,∃ a b,X.mg p.1=some (.ref a)/\X.mg p.2=some (.ref b)/\XAs X.K a b
 xis:∀ p∈Γ.kl.xi,∃ b v,X.mg p.1=some (.ref b)/\ClV X.mg p.2.1 v/\PySem.W.kitOne X.K (.ref b) v=some p.2.2
theorem GdS.ownD(G:GdS T Γ X Y E k):∀ x,ownD Γ.sc x=true->Loc X.env.scope x/\(X.fn x=true\/X.env.scope.names.lookup x=some .local):=by
 intro x h;refine ⟨?_,.inl (G.fnt x)⟩;unfold IV.ownD at h;rw [G.sc G.top];rw [Bool.or_eq_true] at h;exact h.imp of_decide_eq_true of_decide_eq_true
theorem Zci(h:Zby x=true):swapsWith x t n env=pure false:=(kdE x).sw (of_decide_eq_true (bL h)) (of_decide_eq_true (bR h)) _ _ _
theorem ZkR(G:GdS T Γ X Y E k)(hi:Γ.N[i]? = some y)(ho:ownD Γ.sc y=true)(hx:Zsz e=true)(h:chk Γ e x=true):PS X (.Assign [.Name y py] x spos) (ZhV (ZY T Y E e) (ZbL i)):=by
 obtain ⟨o1,o2⟩:=G.ownD y ho;have hy:X.N[i]? = some y:=by rw [G.N];exact hi
 cases e with
 | comp NC js it g c e =>
   refine ZoE h (fun elt tg iter ifs scope q h pe=>?_) (Ze _ G.toGd h);cases sw:(X.env.blockKind==.function&&X.env.kindOf y==some .local&&py.line==q.line&&!(scope.names.any fun (n,k)=>n==y&&(k==.local || k==.cell))) with
   | true =>
     have S_:=Zhp (bL (bR h));rw [<- G.N,<- G.sc (bL h)] at S_;have Gc:=fun C s3 H3 fp=>G.toGd.comp NC scope C s3 H3 fp S_.nd;have h':=bR (bR h);exact (Zh2 (g:=tgR X.K g) (tc:=Sm Y E0 eqR (tsto T c)) (te:=ZY T Y E0 e) G.nd hy o1 o2 S_ rfl G.calm (evi_ok it G.toGd (bL h')) (fun C s3 H3 fp=>⟨Zjg rfl S_.nd rfl (fun x hx=>Zjj (scope:=scope) X hx) (bL (bR (bR h'))),ifs_ok c (Gc C s3 H3 fp) (bL (bR (bR (bR (bR h'))))),Ze e (Gc C s3 H3 fp) (bR (bR (bR (bR (bR h')))))⟩) (Zri X.K g) (fun j hj=>of_decide_eq_true (OC.mp (bL (bR (bR (bR h')))) j (List.mem_range.mpr hj))) (ZhX X.env (bL (bR h'))) (congrArg pure sw)).imp
       fun D Z H s=>Sm.bind s fun S w h1 J H1 μ1 rh1 rs1 wj f1 D hD=>ZjH G.gk.K (fun _ _ _ z=>z) rh1 rs1 wj f1 hD
   | false=>exact Zlb G.nd hy o1 pe (congrArg pure sw) o2
 | any=>exact fun pins s Z H D I s=>Sm.at s fun _ _ _ _ _ f=>f.elim
 | _=>exact ff hx
theorem Zi5(ht:isTup tg=true)(pg:PG X tg g)(he:PE X x te)(h3:(Zby x&&(!isTup tg || Zh9 x))=true):PS X (.Assign [tg] x pos) (ZhV te g) :=
 Zsu (P:=fun tg=>PG X tg g->(!isTup tg || Zh9 x)=true->PS X (.Assign [tg] x pos) (ZhV te g)) ht (fun _ _ _ pg h3=>Zh3 he pg (by unfold swapsWithSole;exact Zci (bL ‹_›)) ((kdE x).st (of_decide_eq_true h3) _ _ _ _) rfl) pg (bR h3)
theorem Zji{D D1:Ends}{k:Ev->Hd->R (Fl×Ev)} (f:ZG Y H B (r.bind fun p h2=>match p with
     | (.nx,ρ2)=>k ρ2 h2
     | (.ct,ρ2)=>k ρ2 h2
     | (.bk,ρ2)=>.ok (.nx,ρ2) h2
     | (.rt d,ρ2)=>.ok (.rt d,ρ2) h2) D E) (hn:∀ ρ2 h2 H2 μ2 σ',Gr H B H2 μ2->RH Y H2 μ2 h2->RS Y H2 μ2 ρ2 σ'->ZG Y H2 μ2 (k ρ2 h2) D E->D1.nx σ' H2) (hc:D1.ct=D1.nx) (hb:D1.bk=D.nx) (hr:D1.rt=D.rt):ZG Y H B r D1 E :=
 ZG.part f fun p h2 H2 μ2 _ g2 rh2 f2=>by
   obtain ⟨fl,ρ2⟩:=p;cases fl with
   | nx=>exact fun σ' rs'=>hn ρ2 h2 H2 μ2 σ' g2 rh2 rs' f2
   | ct=>rw [hc];exact fun σ' rs'=>hn ρ2 h2 H2 μ2 σ' g2 rh2 rs' f2
   | bk=>rw [hb];exact fun σ' rs'=>ZG.nx f2 rh2 rs'
   | rt d=>rw [hr];exact fun v rv=>f2 H2 μ2 Gr.refl rh2 v rv
theorem Zo0{D:Ends}(s:ZmL T Y E (.whl c b) D Z H):ZkK (Zh0 T Y E c) (Zi6 T Y E b) D Z H:=by
 refine ⟨fun m=>SmS Y E (ZO (tst T c) (xs2 T b) m) D,⟨T.L,s⟩,fun m Z H s=>?_⟩;cases m with
 | zero=>exact SmS.at s fun _ _ _ _ _ f=>f.elim
 | succ m =>
   refine SmS.bind s fun S t h1 v H1 μ1 rh1 rs1 rd f1=>?_;cases rd;cases t with
   | false=>exact Zio (ZG.nx f1 rh1 rs1)
   | true=>exact Zin ⟨SmS Y E (ZO (tst T c) (xs2 T b) m) D,fun σ' H' q=>⟨m,OH m,q⟩,S,h1,μ1,rh1,rs1,Zji f1 (fun ρ2 h2 H2 μ2 σ' _ rh2 rs2 f2=>⟨ρ2,h2,μ2,rh2,rs2,f2⟩) rfl rfl rfl⟩
inductive FwS(Y:Yx)(E:XK)(H1:Hp)(μ1:List Addr)(n i:Nat)(F:Ev->Hd->R (Fl×Ev))(D:Ends)(m:Nat)(Z:L2.St)(H:Hp):Prop
 | mk (S:Ev) (h:Hd) (B:List Addr) (hi:i<=n) (hm:m=n - i) (g:Gr H1 μ1 H B) (rh:RH Y H B h) (rs:RS Y H B S Z) (f:ZG Y H B (F S h) D E):FwS Y E H1 μ1 n i F D m Z H
theorem Zqq{K:PySem.W.Frag}{g:Tg}{D:Ends}(hY:Y.K=K)(rh1:RH Y H1 μ1 h1)(rs1:RS Y H1 μ1 S Z)(wj:WJ Y H1 μ1 w J)(f1:ZG Y H1 μ1 (Z9 w.src g (xs2 T b) w.xs S h1) D E):∃ W:Nat->Nat->L2.St->Hp->Prop,(∃ m,W 0 m Z H1)/\∀ i m Z H,W i m Z H ->
   (J.stop i H/\D.nx Z H)\/(J.go i H/\∃ B_:L2.St->Hp->Prop,(∀ σ' H',B_ σ' H'->∃ m',m'<m/\W (i+1) m' σ' H')/\∀ x H',J.yld i H x H'->tgR K g x Z H' fun σ' H''=>Zi6 T Y E b {D with nx:=B_,ct:=B_,bk:=D.nx} σ' H''):=by
 refine ⟨fun i=>FwS Y E H1 μ1 w.xs.length i (fun S=>Z9 w.src g (xs2 T b) (w.xs.drop i) S) D,⟨w.xs.length,S,h1,μ1,Nat.zero_le _,(Nat.sub_zero _).symm,Gr.refl,rh1,rs1,f1⟩,fun i m Z H s=>?_⟩;cases s with
 | mk S h B hi hm g0 rh rs f =>
   subst hm;by_cases hs:Wk.stays w.src h=true
   . by_cases hlt:i<w.xs.length
     . have hd:=Og hlt;rw [List.drop_eq_getElem_cons hlt,Z9,if_pos hs] at f;obtain ⟨go,yl⟩:=(wj H B h g0 rh hs).1 i _ hd;refine .inr ⟨go,FwS Y E H1 μ1 w.xs.length (i+1) (fun S=>Z9 w.src g (xs2 T b) (w.xs.drop (i+1)) S) D (w.xs.length - (i+1)),fun σ' H' q=>⟨_,Nat.sub_lt_sub_left hlt (OH i),q⟩,fun x H' hy=>?_⟩;obtain ⟨g2,rh2,rx⟩:=yl x H' hy;split at f
       . exact f.elim
       . rename_i ρ1 hb;exact ZgA hY rx (rs.mono rh g2) hb fun σ1 rs1=>⟨ρ1,h,B,rh2,rs1,Zji (ZG.mono g2 f) (fun ρ2 h3 H3 μ3 σ' g3 rh3 rs3 f3=>⟨ρ2,h3,μ3,hlt,rfl,(g0.trans g2).trans g3,rh3,rs3,f3⟩) rfl rfl rfl⟩
     . have he:i=w.xs.length:=Nat.le_antisymm hi (Nat.le_of_not_lt hlt);subst he;rw [List.drop_eq_nil_of_le (Oq _),Z9,if_pos hs] at f;exact .inl ⟨(wj H B h g0 rh hs).2,ZG.nx f rh rs⟩
   . cases e:w.xs.drop i with
     | nil=>rw [e,Z9,if_neg hs] at f;exact f.elim
     | cons _ _=>rw [e,Z9,if_neg hs] at f;exact f.elim
mutual
theorem Zru(s:Sx){Γ:Gm}{X:Cx}{E:XK}{k:Nat}{x:Stmt}(G:GdS T Γ X Y E k)(h:ZsV Γ s x=true):PS X x (ZmL T Y E s):=match s,h with
 | .ret e,h=>Zbl (P:=fun x=>PS X x _) h fun p h=>ZpR (P:=fun o=>PS X (.Return o p.p) _) h fun y h=>(Zpp (Ze e G.toGd h)).imp fun D Z H s=>SmS.bind s fun S d h1 v H1 μ1 rh1 rs1 rd f1=>f1 H1 μ1 Gr.refl rh1 v rd
 | .set g e,h=>ZjQ (P:=fun x=>PS X x _) h fun tg xe pos h=>by
   have fin:∀ {D:Ends}{Z:L2.St}{H:Hp},ZmL T Y E (.set g e) D Z H->ZhV (ZY T Y E e) (tgR X.K g) D Z H:=fun {D Z H} s=>SmS.bind s fun S d h1 v H1 μ1 rh1 rs1 rd f1=>by
     obtain ⟨ρ1,eb,f1⟩:=f1.ofO;exact ZgA G.gk.K rd rs1 eb fun σ1 rs2=>f1.nx rh1 rs2
   have pg:=Zjg (X:=X) G.N G.nd G.calm G.ownD (bL h);refine bO (bR (bR h)) (fun h3=>?_) fun h3=>?_
   . cases g with
     | nm i=>exact Zbc (P:=fun t=>PS X (.Assign [t] _ _) _) (bL h) fun y py e1 e2=>(Zlb G.nd (by rw [G.N];exact e1) (G.ownD y e2).1 (Ze e G.toGd (bL (bR h))) (Zci (bL h3)) (G.ownD y e2).2).imp fun D Z H q=>fin q
     | two i j=>exact (Zi5 (ZgL (P:=fun t=>isTup t=true) (show ZjL Γ.N (ownD Γ.sc) i j tg=true from bL h) fun _ _ _ _=>rfl) pg (Ze e G.toGd (bL (bR h))) h3).imp fun D Z H q=>fin q
     | many is=>exact (Zi5 (ZgL (P:=fun t=>isTup t=true) (show ZjK Γ.N (ownD Γ.sc) is tg=true from bL h) fun _ _ _ _=>rfl) pg (Ze e G.toGd (bL (bR h))) h3).imp fun D Z H q=>fin q
   . cases g with
     | nm i=>exact Zbc (P:=fun t=>PS X (.Assign [t] _ _) _) (bL h) fun y py e1 e2=>(ZkR G e1 e2 (bR h3) (bL (bR h))).imp fun D Z H q=>fin q
     | two i j=>exact ff (ZgL (P:=fun t=>decide (tgE t=6)=true->false=true) (show ZjL Γ.N (ownD Γ.sc) i j tg=true from bL h) (fun _ _ _ _ z=>z) (bL h3))
     | many is=>exact ff (ZgL (P:=fun t=>decide (tgE t=6)=true->false=true) (show ZjK Γ.N (ownD Γ.sc) is tg=true from bL h) (fun _ _ _ _ z=>z) (bL h3))
 | .put o i e,h=>ZjQ (P:=fun x=>PS X x _) h fun tg xe p2 h=>ZkT (P:=fun t=>PS X (.Assign [t] _ _) _) h fun xo xi p1 h =>
   (Zh3 (pos:=p2) (Ze e G.toGd (bL (bR (bR h)))) (Zlh (pos:=p1) (Ze o G.toGd (bL h)) (Ze i G.toGd (bL (bR h))) (Zpn (Y:=Y) (E:=E)) ((kdE xi).put (of_decide_eq_true (bL (bR (bR (bR h))))) _ _ _)) (by unfold swapsWithSole;exact Zci (bR (bR (bR (bR h))))) rfl rfl).imp fun D Z H s=>SmS.bind s fun S d h1 v H1 μ1 rh1 rs1 rd f1 =>
     ⟨S,h1,μ1,rh1,rs1,f1.bind fun d2 h2 v2 H2 μ2 _ g2 rh2 rd2 f2=>⟨S,h2,μ2,rh2,rs1.mono rh1 g2,f2.bind fun d3 h3 v3 H3 μ3 _ g3 rh3 rd3 f3 =>
       ⟨d2,d3,d,h3,μ3,rh3,rd2.mono rh2 g3,rd3,(rd.mono rh1 g2).mono rh2 g3,f3.bind fun _ h4 _ H4 μ4 _ g4 rh4 _ f4=>f4.nx rh4 (((rs1.mono rh1 g2).mono rh2 g3).mono rh3 g4)⟩⟩⟩
 | .npt o i e,h=>ZjQ (P:=fun x=>PS X x _) h fun tg xe p2 h=>ZkT (P:=fun t=>PS X (.Assign [t] _ _) _) h fun xo xi p1 h =>
   (Zh3 (pos:=p2) (Ze e G.toGd (bL (bR (bR h)))) (Zlh (pos:=p1) (Ze o G.toGd (bL h)) (Ze i G.toGd (bL (bR h))) (ZpS (Y:=Y) (E:=E) G.room G.gk.K) ((kdE xi).put (of_decide_eq_true (bL (bR (bR (bR h))))) _ _ _)) (by unfold swapsWithSole;exact Zci (bR (bR (bR (bR h))))) rfl rfl).imp fun D Z H s=>SmS.bind s fun S d h1 v H1 μ1 rh1 rs1 rd f1 =>
     ⟨S,h1,μ1,rh1,rs1,f1.bind fun d2 h2 v2 H2 μ2 _ g2 rh2 rd2 f2=>⟨S,h2,μ2,rh2,rs1.mono rh1 g2,f2.bind fun d3 h3 v3 H3 μ3 _ g3 rh3 rd3 f3 =>
       ⟨d2,d3,d,h3,μ3,rh3,rd2.mono rh2 g3,rd3,(rd.mono rh1 g2).mono rh2 g3,f3.bind fun _ h4 _ H4 μ4 _ g4 rh4 _ f4=>f4.nx rh4 (((rs1.mono rh1 g2).mono rh2 g3).mono rh3 g4)⟩⟩⟩
 | .trr f es C b,h=>ff h
 | .aug i op e,h=>Zbl (P:=fun x=>PS X x _) h fun p h=>Zbc (P:=fun a=>PS X (.AugAssign a _ _ _) _) (bL h) fun y py e1 e2=>dS (P:=fun o=>PS X (.AugAssign _ o _ _) _) (bL (bR h)) <| dS (P:=fun o=>PS X _ (ZmL T Y E (.aug i o e))) (bL (bR (bR h))) <|
   (Zps G.nd (by rw [G.N];exact e1) (G.ownD _ e2).1 (Ze e G.toGd (bR (bR (bR h)))) Zqn (G.ownD _ e2).2).imp fun D Z H s=>SmS.at s fun S h B rh rs f=>by
     obtain ⟨d,ed,f⟩:=ZG.ofO f;obtain ⟨v,ev,rd⟩:=rs.var ed;refine ⟨v,ev,S,h,B,rh,rs,ZG.bind f fun d2 h2 v2 H2 μ2 _ g2 rh2 rd2 f2=>?_⟩;cases rd with
     | int a =>
       cases rd2 with
       | int b=>exact ⟨a,b,rfl,rfl,ZG.nx f2 rh2 ((rs.mono rh g2).set (.int _))⟩
       | _=>exact f2.elim
     | _=>exact f2.elim
 | .drp e,h=>Zbl (P:=fun x=>PS X x _) h fun p h=>(ZmY (Ze e G.toGd (bL h)) (Zci (bR h))).imp fun D Z H s=>SmS.bind s fun S d h1 v H1 μ1 rh1 rs1 rd f1=>f1.nx rh1 rs1
 | .iff c a b,h=>Zbl (P:=fun x=>PS X x _) h fun p h=>(ZrR (tst_ok c G.toGd (bL h)) (sts_ok a G (bL (bR h))) (sts_ok b G (bR (bR h)))).imp fun D Z H s=>SmS.bind s fun S t h1 v H1 μ1 rh1 rs1 rd f1=>by
   cases rd;cases t with
   | true=>exact Zin ⟨S,h1,μ1,rh1,rs1,f1⟩
   | false=>exact Zio ⟨S,h1,μ1,rh1,rs1,f1⟩
 | .whl c b,h=>Zbl (P:=fun x=>PS X x _) h fun p h=>Zju (P:=fun ys=>PS X (.While _ _ ys _) _) h fun h=>(Zla G.own (tst_ok c G.toGd (bL h)) (sts_ok b G (bR h))).imp fun D Z H s=>Zo0 s
 | .forr g it b,h=>Zbl (P:=fun x=>PS X x _) h fun p h=>Zju (P:=fun ys=>PS X (.For _ _ _ ys _) _) h fun h=>(Zpq G.own G.calm (evi_ok it G.toGd (bL h)) (Zjg (X:=X) G.N G.nd G.calm G.ownD (bL (bR (bR h)))) (sts_ok b G (bR (bR (bR h)))) (ZhX X.env (bL (bR h)))).imp fun D Z H s=>SmS.bind s fun S w h1 J H1 μ1 rh1 rs1 wj f1=>Zqq G.gk.K rh1 rs1 wj f1
 | .pas,h=>Zbl (P:=fun x=>PS X x _) h fun p h=>ZmX.imp fun D Z H s=>SmS.at s fun S h B rh rs f=>ZG.nx f rh rs
 | .brk,h=>Zbl (P:=fun x=>PS X x _) h fun p h=>Zlc.imp fun D Z H s=>SmS.at s fun S h B rh rs f=>f H B Gr.refl rh Z rs
 | .cnt,h=>Zbl (P:=fun x=>PS X x _) h fun p h=>ZgV.imp fun D Z H s=>SmS.at s fun S h B rh rs f=>f H B Gr.refl rh Z rs
 | .any,h=>fun pins s Z H D I s=>SmS.at s fun S h B rh rs f=>f.elim
 | .rai C e,h=>ff h
 | .raf C e,h=>ff h
 | .tre i n f es C Ws bs,h=>ff h
 | .trs i f es C,h=>ff h
 | .trw i n f es C W w,h=>ff h
 | .seta Cs o f e,h=>ZjQ (P:=fun x=>PS X x _) h fun tg xe pos h=>ZqV (P:=fun t=>PS X (.Assign [t] _ _) _) h fun xo q h=>(Zpr (Ze o G.toGd (bL h)) (Ze e G.toGd (bL (bR h))) (Zci (bL (bR (bR h))))).imp fun D Z H s=>SmS.bind s fun S d h1 v H1 μ1 rh1 rs1 rd f1=>⟨S,h1,μ1,rh1,rs1,ZG.bind f1 fun d2 h2 v2 H2 μ2 _ g2 rh2 rd2 f2 =>
     Zpf (Q:=fun _ H'=>D.nx Z H') G.toGd (bL (bR (bR (bR h)))) (of_decide_eq_true (bR (bR (bR (bR h))))) rh2 rd2 (rd.mono rh1 g2) (ZG.bind f2 fun _ h3 _ H3 μ3 _ g3 rh3 _ f3=>f3.nx rh3 ((rs1.mono rh1 g2).mono rh2 g3))⟩
 | .auga Cs o f e,h=>ff h
 | .unl i j e,h=>ff h
theorem sts_ok(s:Sxs){Γ:Gm}{X:Cx}{E:XK}{k:Nat}{x:List Stmt}(G:GdS T Γ X Y E k)(h:chkSs Γ s x=true):PSs X x (Zi6 T Y E s):=match s,x,h with
 | .nil,[],h=>ZmW.imp fun D Z H s=>SmS.at s fun S h B rh rs f=>ZG.nx f rh rs
 | .nil,_::_,h=>ff h
 | .cons s r,[],h=>ff h
 | .cons s r,x::xs,h=>(Zk9 (Zru s G (bL h)) (sts_ok r G (bR h))).imp fun D Z H s=>SmS.at s fun S h B rh rs f=>⟨S,h,B,rh,rs,ZG.part f fun p h1 H1 μ1 _ g1 rh1 f1=>by
     obtain ⟨fl,ρ1⟩:=p;cases fl with
     | nx=>exact fun σ' rs'=>⟨ρ1,h1,μ1,rh1,rs',f1⟩
     | bk=>exact fun σ' rs'=>f1 H1 μ1 Gr.refl rh1 σ' rs'
     | ct=>exact fun σ' rs'=>f1 H1 μ1 Gr.refl rh1 σ' rs'
     | rt d=>exact fun v rv=>f1 H1 μ1 Gr.refl rh1 v rv⟩
end
end IV
end
section
set_option tactic.hygienic false
namespace IV
open PySem PySem.Spec PyProof.Rows L2
structure BodyOk(K:PySem.W.Frag)(kl:Kl)(fs:List Str)(x q:Str)(fd:Fd)(st:Stmt)(f:Addr)(fdd:FuncData):Prop where
 fn:Fun K x q st f fdd
 sc:FnScope fd.N fd.ps (ZC st)
 hb:∀ (kV doc pm:Value) (an:Option Addr) (cdv ct:Value) (us:List Value),us.length=fd.ps.length->bindArgs (PySem.W.fnOf x q (Zcr st) (Zbf st) (ZC st) .none kV doc pm an cdv ct) ⟨us,[]⟩=pure (fd.ps.zip us)
 ck:chkSs ⟨fd.N,ZC st,fs,true,kl⟩ fd.body (Zbf st)=true
structure DefOk(K:PySem.W.Frag)(mg:Str->Option Value)(kl:Kl)(fs:List Str)(x:Str)(fd:Fd)(st:Stmt)(f:Addr)(fdd:FuncData):Prop where
 bd:BodyOk K kl fs x x fd st f fdd
 mg:mg x=some (.ref f)
structure Md(Pr:Program)(w:World)(K:PySem.W.Frag)(mg:Str->Option Value)(P:Pg)(kl:Kl):Prop where
 bare:Zet K=true
 gd:∀ x kvs,P.GD x=some kvs->∃ a kvs',mg x=some (.ref a)/\DkK Pr w K a kvs'/\∀ H B,RKs ⟨K,mg⟩ H B kvs kvs'
 g:∀ x d,P.G x=some d->∃ v u,mg x=some u/\RelV v u/\∀ H B,RD ⟨K,mg⟩ H B d v
 blt:∀ x∈ZjO,mg x=none
 defs:∀ x fd,P.tb.lookup x=some fd->∃ st f fdd,DefOk K mg kl (P.tb.map (·.1)) x fd st f fdd
 cls:∀ C∈kl.cs,∃ a,mg C=some (.ref a)/\Cls K a/\∀ f∈kl.ats,Za7 K a f
 mts:∀ p∈kl.ms,∃ a f fdd fd st q,mg p.1=some (.ref a)/\Cls K a/\Meth K a p.2 f/\P.look (mnm p.1 p.2)=some fd/\BodyOk K kl (P.tb.map (·.1)) p.2 q fd st f fdd
 mks:∀ C∈kl.is,∃ a f fdd fd st q,mg C=some (.ref a)/\Mk K a f/\P.look (mnm C (O "__init__"))=some fd/\BodyOk K kl (P.tb.map (·.1)) (O "__init__") q fd st f fdd
 xcs:∀ C∈kl.xs,∃ a,mg C=some (.ref a)/\XOk K a
 xas:∀ p∈kl.xa,∃ a b,mg p.1=some (.ref a)/\mg p.2=some (.ref b)/\XAs K a b
 xis:∀ p∈kl.xi,∃ b v,mg p.1=some (.ref b)/\ClV mg p.2.1 v/\PySem.W.kitOne K (.ref b) v=some p.2.2
theorem ZkM(r:RDs Y H B ds vs):RS Y H B (Z7 N ds) (L2.start N vs):=by
 refine ⟨by simp [Z7,L2.start,r.length],fun i d e=>?_⟩;unfold Z7 at e;unfold L2.start;by_cases hi:i<ds.length
 . rw [Oe (by simpa using hi),On] at e;rw [Oe (by simpa [<- r.length] using hi),On];obtain ⟨d',e1,e2⟩:=Oo.mp e;cases e2;obtain ⟨v,h1,h2⟩:=r.get e1;exact ⟨v,by rw [h1];rfl,h2⟩
 . rw [Om (by simpa using hi)] at e;have:=O1 e;rw [List.mem_replicate] at this;cases this.2
theorem ZmM(f:Fin Y (RD Y) H B (Zh r) Q E):ZG Y H B r {nx:=fun _ H'=>Q .non H',rt:=Q} E:=by
 cases r with
 | bad=>exact f.elim
 | exc c h=>exact f
 | ok p h =>
   obtain ⟨fl,S⟩:=p;cases fl with
   | nx=>exact fun H' μ' g rh σ' _=>f .non H' μ' g rh .non
   | bk=>exact f.elim
   | ct=>exact f.elim
   | rt d=>exact fun H' μ' g rh v rv=>f v H' μ' g rh rv
section
variable {Pr:Program}{w:World}{K:PySem.W.Frag}{mg:Str->Option Value}{base:Heap}{P:Pg}{kl:Kl}
theorem Zgn(h:P.tb.lookup x=some fd):P.look x=some fd:=by unfold Pg.look;rw [h]
theorem ZkO(hl:P.look x=some fd)(h:Zd6 (P.tbl n) ⟨K,mg⟩ x vs H Q E):vs.length=fd.ps.length:=by
 obtain ⟨ds,h,B,rh,rs,f⟩:=h;cases n with
 | zero=>exact f.elim
 | succ n =>
   have f:Fin ⟨K,mg⟩ (RD ⟨K,mg⟩) H B (run P (n+1) x ds h) Q E:=f;rw [run,hl] at f;obtain ⟨hz,_⟩:=f.iff;rw [<- rs.length];exact hz
structure Lev(Pr:Program)(w:World)(K:PySem.W.Frag)(mg:Str->Option Value)(base:Heap)(P:Pg)(kl:Kl)(n:Nat):Prop where
 defs:∀ y∈P.tb.map (·.1),∃ ps,Def Pr w K mg base (2 * n+61) y ps (Zd6 (P.tbl n) ⟨K,mg⟩ y)
 mts:∀ p∈kl.ms,∃ a f fd ps,mg p.1=some (.ref a)/\Cls K a/\Meth K a p.2 f/\FnOk Pr w K mg base (CXF Pr w) (2 * n+61) f fd ps (Zd6 (P.tbl n) ⟨K,mg⟩ (mnm p.1 p.2))/\Binds K fd ps []
 mks:∀ C∈kl.is,∃ a f fd ps,mg C=some (.ref a)/\Mk K a f/\FnOk Pr w K mg base (CXF Pr w) (2 * n+61) f fd ps (Zd6 (P.tbl n) ⟨K,mg⟩ (mnm C (O "__init__")))/\Binds K fd ps []
theorem Zgv(M:Md Pr w K mg P kl){x nm q:Str}{fd:Fd}{st:Stmt}{f:Addr}{fdd:FuncData}(hl:P.look x=some fd)(o:BodyOk K kl (P.tb.map (·.1)) nm q fd st f fdd) :
   ∀ n,Lev Pr w K mg base P kl n->FnOk Pr w K mg base (CXF Pr w) (2 * (n+1)+61) f fdd fd.ps (Zd6 (P.tbl (n+1)) ⟨K,mg⟩ x):=by
 intro n ih;obtain ⟨oc,od,kV,doc,pm,an,cdv,ct,osl,rfl,lk,hcd⟩:=o.fn.ex;have S_:=o.sc;rw [show 2 * (n+1)+61=(2 * n+61+1)+1 by lia];refine ZsI lk hcd S_ (fun vs H Q E h=>ZkO hl h) fun A outer s H vs Q E hr hsp=>?_;refine Zn4 (t:=Zi6 (P.tbl n) ⟨K,mg⟩ E fd.body) (sts_ok fd.body (k:=2 * n+61) (Γ:=⟨fd.N,ZC st,P.tb.map (·.1),true,kl⟩) ⟨⟨⟨rfl,rfl,M.gd,M.g,M.bare⟩,rfl,fun _=>rfl,fun y hy=>?_,fun y hy=>hy,S_.nd,rfl,hr.mono (by lia),by lia,Znc fun _ _ z=>z,ih.defs,M.blt,hr,M.cls,ih.mts,ih.mks⟩,rfl,fun _=>rfl,PassesOwn.leaving,?_,ZkY,rfl,rfl,M.xcs,M.xas,M.xis⟩ o.ck) ?_
 . unfold ZmC at hy;rw [Bool.or_eq_true,Bool.or_eq_true] at hy;rcases hy with (hy|hy)|hy
   . exact .inl (of_decide_eq_true hy)
   . exact .inr (.inl (of_decide_eq_true hy))
   . exact .inr (.inr (of_decide_eq_true hy))
 . show (if (ZC st).kind.isAnnotationScope then ScopeKind.function else (ZC st).kind)=.function;rw [S_.kind];rfl
 . obtain ⟨ds,h,B,rh,rs,f⟩:=hsp;have f:Fin ⟨K,mg⟩ (RD ⟨K,mg⟩) H B (run P (n+1) x ds h) Q E:=f;rw [run,hl] at f;obtain ⟨hz,f⟩:=f.iff;exact ⟨Z7 fd.N ds,h,B,rh,ZkM rs,ZmM f⟩
theorem mem_lookup{α:Type}{l:List (Str×α)}{x:Str}(h:x∈l.map (·.1)):∃ a,l.lookup x=some a:=by
 induction l with
 | nil=>simp at h
 | cons p r ih =>
   rw [OF];by_cases e:x=p.1
   . have:(x==p.1)=true:=by simpa using e
     rw [this];exact ⟨_,rfl⟩
   . have:(x==p.1)=false:=by simpa using e
     rw [this];exact ih (by simpa [e] using h)
theorem Zgr{x:Str}{fd:Fd}{f:Addr}{fdd:FuncData}(hl:P.look x=some fd):FnOk Pr w K mg base (CXF Pr w) (2 * 0+61) f fdd fd.ps (Zd6 (P.tbl 0) ⟨K,mg⟩ x) :=
 ⟨fun vs H Q E h=>ZkO hl h,fun A outer s H args us vs Q E _ _ _ _ h=>by obtain ⟨ds,h,B,rh,rs,f⟩:=h;exact f.elim⟩
theorem Zmt(M:Md Pr w K mg P kl):∀ n,Lev Pr w K mg base P kl n:=by
 intro n;induction n with
 | zero =>
   refine ⟨fun y hy=>?_,fun p hp=>?_,fun C hC=>?_⟩
   . obtain ⟨fd,hl⟩:=mem_lookup hy;obtain ⟨st,f,fdd,o⟩:=M.defs y fd hl;exact ⟨fd.ps,f,fdd,o.mg,o.bd.fn.kp,o.bd.fn.binds o.bd.hb,Zgr (Zgn hl)⟩
   . obtain ⟨a,f,fdd,fd,st,q,m,c,me,hl,o⟩:=M.mts p hp;exact ⟨a,f,fdd,fd.ps,m,c,me,Zgr hl,o.fn.binds o.hb⟩
   . obtain ⟨a,f,fdd,fd,st,q,m,me,hl,o⟩:=M.mks C hC;exact ⟨a,f,fdd,fd.ps,m,me,Zgr hl,o.fn.binds o.hb⟩
 | succ n ih =>
   refine ⟨fun y hy=>?_,fun p hp=>?_,fun C hC=>?_⟩
   . obtain ⟨fd,hl⟩:=mem_lookup hy;obtain ⟨st,f,fdd,o⟩:=M.defs y fd hl;exact ⟨fd.ps,f,fdd,o.mg,o.bd.fn.kp,o.bd.fn.binds o.bd.hb,Zgv M (Zgn hl) o.bd n ih⟩
   . obtain ⟨a,f,fdd,fd,st,q,m,c,me,hl,o⟩:=M.mts p hp;exact ⟨a,f,fdd,fd.ps,m,c,me,Zgv M hl o n ih,o.fn.binds o.hb⟩
   . obtain ⟨a,f,fdd,fd,st,q,m,me,hl,o⟩:=M.mks C hC;exact ⟨a,f,fdd,fd.ps,m,me,Zgv M hl o n ih,o.fn.binds o.hb⟩
theorem Zp9(M:Md Pr w K mg P kl){x:Str}{a:Str}{fd:Fd}{fa:Addr}(n:Nat)(hl:P.tb.lookup x=some fd)(hps:fd.ps=[a])(hm:mg x=some (.ref fa)) :
   ∃ fdd:FuncData,(∀ (s:Shared) (v:Value),BindsTo s fdd ⟨[v],[]⟩ [(a,v)])/\∀ base:Heap,FnOk Pr w K mg base (CXF Pr w) (2 * (n+1)+61) fa fdd [a] (Zd6 (P.tbl (n+1)) ⟨K,mg⟩ x):=by
 obtain ⟨st,f,fdd,o⟩:=M.defs x fd hl;have e:=hm.symm.trans o.mg;cases e;refine ⟨fdd,fun s v=>?_,fun base=>hps ▸ Zgv M (Zgn hl) o.bd n (Zmt M n)⟩;obtain ⟨oc,od,kV,doc,pm,an,cdv,ct,osl,rfl,lk,hcd⟩:=o.bd.fn.ex;have:=o.bd.hb kV doc pm an cdv ct [v] (by rw [hps];rfl);rw [hps] at this;exact BindsTo.of_eq this
end
theorem Zrb{α:Type}{us:List α}(h:us.length=0):us=[]:=List.length_eq_zero_iff.mp h
theorem ZmD{α:Type}{us:List α}{n:Nat}(h:us.length=n+1):∃ a r,us=a::r/\r.length=n:=by
 cases us with
 | nil=>cases h
 | cons a r=>exact ⟨a,r,rfl,Nat.succ.inj h⟩
theorem Zra{α:Type}{us:List α}(h:us.length=1):∃ a0,us=[a0]:=by
 obtain ⟨a0,r,rfl,h2⟩:=ZmD h;exact ⟨a0,by rw [Zrb h2]⟩
theorem Zq9{α:Type}{us:List α}(h:us.length=2):∃ a0 a1,us=[a0,a1]:=by
 obtain ⟨a0,r,rfl,h2⟩:=ZmD h;obtain ⟨a1,rfl⟩:=Zra h2;exact ⟨a0,a1,rfl⟩
theorem Zq8{α:Type}{us:List α}(h:us.length=3):∃ a0 a1 a2,us=[a0,a1,a2]:=by
 obtain ⟨a0,r,rfl,h2⟩:=ZmD h;obtain ⟨a1,a2,rfl⟩:=Zq9 h2;exact ⟨a0,a1,a2,rfl⟩
theorem Ztp{α:Type}{us:List α}(h:us.length=4):∃ a0 a1 a2 a3,us=[a0,a1,a2,a3]:=by
 obtain ⟨a0,r,rfl,h2⟩:=ZmD h;obtain ⟨a1,a2,a3,rfl⟩:=Zq8 h2;exact ⟨a0,a1,a2,a3,rfl⟩
end IV
end
section
namespace IV
open PySem PySem.Spec PyProof.Rows L2
noncomputable def All(p:α->Prop):List α->Prop
 | []=>True
 | a::l=>p a/\All p l
theorem All.mem:∀ {l:List α},All p l->∀ a∈l,p a
 | [],_,a,h=>by simp at h
 | b::l,⟨h1,h2⟩,a,h=>by
   rcases O2.mp h with rfl|h
   . exact h1
   . exact All.mem h2 a h
theorem lookup_mem{α:Type}{l:List (Str×α)}{a:α}(h:l.lookup x=some a):(x,a)∈l:=by
 induction l with
 | nil=>cases h
 | cons p r ih =>
   rw [OF] at h;by_cases e:x=p.1
   . have:(x==p.1)=true:=by simpa using e
     rw [this] at h;cases h;subst e;exact Oi
   . have:(x==p.1)=false:=by simpa using e
     rw [this] at h;exact Oh _ (ih h)
noncomputable def spL(K:PySem.W.Frag):Sp:=fun vs H Q _=>∃ (a:Addr) (ns:List Int),vs=[.ref a]/\SqL K H a (ns.map V.int)/\ns.length<=63/\Zop H/\∀ H',Q (.bl true) H'
theorem ZjA:∀ ns:List Int,RDs Y H B (ns.map D.int) (ns.map V.int)
 | []=>.nil
 | n::r=>.cons (.int n) (ZjA r)
theorem Zq7 {l:PySem.W.OpenLaw}{q:Program}{loose:List Str}{XP:(Str->Option Value)->Heap->Prop}{YP:World->Heap->Prop}{d:DefRec}{K:Params->PySem.W.Frag}{P:Pg}{kl:Kl}{fd:Fd} (n:Nat) (hn:l.most=some 63) (hdf:d.params.defaults=[]) (hd:d.name=O "law") (hr:Room (2 * (n+1)+61) callerA)
   (hY:∀ (w:World) (h:Heap),YP w h->(K w.params).In h) (hl:P.tb.lookup (O "law")=some fd) (hps:fd.ps=[O "_law_script"])
   (hrun:∀ ns:List Int,ns.length<=63->∃ h',run P (n+1) (O "law") [.ro (ns.map .int)] []=.ok (.bl true) h')
   (M:∀ (w:World) (mg:Str->Option Value) (h:Heap),(K w.params).In h->h.Ns mainGlobals mg->Md l.prog w (K w.params) mg P kl) :
   PySem.W.WalkO q loose XP YP l.row.toRowW d [] (fun f vs=>PySem.call f vs):=by
 refine L2.ZmB (n:=63) (k:=2 * (n+1)+61) (x := "_law_script") (CX:=fun w=>CXF l.prog w) (sp:=fun w=>spL (K w.params)) hn (by decide) hdf hr hY (fun w mg fa h KX G hmg=>?_) (fun _ _ a ns hl hO hS=>⟨a,ns,rfl,hS,hl,hO,fun _=>rfl⟩) fun _ _ _ _ _ z=>by obtain ⟨_,_,_,_,_,_,_,_,_,_,_,_,_,z⟩:=z;exact z
 rw [hd] at hmg;obtain ⟨fdd,hb,F⟩:=Zp9 (M w mg h KX G) n hl hps hmg;refine ⟨fdd,hb,fun base _ _=>(F base).imp fun vs H Q E hsp=>?_⟩;obtain ⟨a,ns,rfl,hS,hz,hO,hq⟩:=hsp;obtain ⟨h',e⟩:=hrun ns hz;refine ⟨[.ro (ns.map .int)],[],[],⟨rfl,.nil,fun i o a e=>by simp at e,fun i o e=>by simp at e⟩,.cons (.ro ?_ (ZjA ns)) .nil,?_⟩
 . rcases hS with hS|hS
   . rcases hS with hS|hS
     . rcases hO a with z|⟨o,xs,z⟩<;>(rw [z] at hS;cases hS)
     . exact .inl hS
   . exact .inr hS
 . show Fin _ _ H [] (run P (n+1) (O "law") [.ro (ns.map .int)] []) Q E;rw [e];exact fun b H' μ' _ _ r=>by cases r;exact hq H'
theorem Zow {K:PySem.W.Frag} (h:K.lookup a=some ⟨.type "tuple",od,.seq its n,sl⟩) (hz:its.size<=sizeLine) (r:Zf vs its.toList):SqT K H a vs :=
 .inr ⟨_,its,n,h,rfl,rfl,hz,r⟩
end IV
end
section
namespace IV
open PySem L2 PyProof.Rows
structure Chk(kl:Kl)(fs:List Str)(x q:Str)(fd:Fd)(st:Stmt):Prop where
 sc:FnScope fd.N fd.ps (ZC st)
 hb:∀ (kV doc pm:Value) (an:Option Addr) (cdv ct:Value) (us:List Value),us.length=fd.ps.length->bindArgs (PySem.W.fnOf x q (Zcr st) (Zbf st) (ZC st) .none kV doc pm an cdv ct) ⟨us,[]⟩=pure (fd.ps.zip us)
 ck:chkSs ⟨fd.N,ZC st,fs,true,kl⟩ fd.body (Zbf st)=true
variable {K:PySem.W.Frag}{h:Heap}{mg:Str->Option Value}{kl:Kl}{fs:List Str}{x q C:Str}{fd:Fd}{st:Stmt}{ca:Addr}{P:Pg}
theorem Chk.bd(c:Chk kl fs x q fd st)(F:Fun K x q st f fdd):BodyOk K kl fs x q fd st f fdd:=⟨F,c.sc,c.hb,c.ck⟩
noncomputable def ZqY(K:PySem.W.Frag)(x:Str)(st:Stmt):Prop:=∃ f fdd,PySem.W.nsIn K mainGlobals x=some (some (.ref f))/\Fun K x x st f fdd
noncomputable def Zmu(K:PySem.W.Frag)(ca:Addr)(x q:Str)(st:Stmt):Prop:=∃ f fdd,PySem.W.findIn K (.ref ca) x=some (some (.ref f))/\PySem.W.isFn K (.ref f)=true/\PySem.W.keepIn K (.ref f)=true/\Fun K x q st f fdd
theorem ZnY(X:K.In h)(G:h.Ns mainGlobals mg)(d:ZqY K x st)(c:Chk kl fs x x fd st):∃ st f fdd,DefOk K mg kl fs x fd st f fdd:=by
 obtain ⟨f,fdd,a,F⟩:=d;exact ⟨st,f,fdd,c.bd F,PySem.W.mg_of X G a⟩
theorem Zny(X:K.In h)(G:h.Ns mainGlobals mg)(y:PySem.W.nsIn K mainGlobals C=some (some (.ref ca)))(cl:Cls K ca)(d:Zmu K ca x q st)(c:Chk kl (P.tb.map (·.1)) x q fd st)(e:P.look (mnm C x)=some fd):∃ a f fdd fd st q,mg C=some (.ref a)/\Cls K a/\Meth K a x f/\P.look (mnm C x)=some fd/\BodyOk K kl (P.tb.map (·.1)) x q fd st f fdd:=by
 obtain ⟨f,fdd,u1,u2,u3,F⟩:=d;exact ⟨ca,f,fdd,fd,st,q,PySem.W.mg_of X G y,cl,⟨u1,u2,u3⟩,e,c.bd F⟩
theorem ZpX (X:K.In h) (G:h.Ns mainGlobals mg) (y:PySem.W.nsIn K mainGlobals C=some (some (.ref ca))) (m:PySem.W.makesIn K ca=true) (k:PySem.W.keepIn K (.ref ca)=true) (d:Zmu K ca (O "__init__") q st) (c:Chk kl (P.tb.map (·.1)) (O "__init__") q fd st) (e:P.look (mnm C (O "__init__"))=some fd):∃ a f fdd fd st q,mg C=some (.ref a)/\Mk K a f/\P.look (mnm C (O "__init__"))=some fd/\BodyOk K kl (P.tb.map (·.1)) (O "__init__") q fd st f fdd:=by
 obtain ⟨f,fdd,u1,u2,u3,F⟩:=d;exact ⟨ca,f,fdd,fd,st,q,PySem.W.mg_of X G y,⟨m,u1,u2,k⟩,e,c.bd F⟩
end IV
end
section
namespace IV
open PySem L2 PyProof.Rows
noncomputable abbrev Ml:=Str×Str×Fd×Nat×Nat
variable {K:PySem.W.Frag}{h:Heap}{mg:Str->Option Value}{kl:Kl}{fs:List Str}{C:Str}{ca:Addr}{P:Pg}
theorem ZjF(X:K.In h)(G:h.Ns mainGlobals mg){top:Nat->Stmt}:∀ {l:List (Str×Fd×Nat)},All (fun p=>ZqY K p.1 (top p.2.2)) l->All (fun p=>Chk kl fs p.1 p.1 p.2.1 (top p.2.2)) l->All (fun p:Str×Fd=>∃ st f fdd,DefOk K mg kl fs p.1 p.2 st f fdd) (l.map fun p=>(p.1,p.2.1))
 | [],_,_=>trivial
 | _::_,d,c=>⟨ZnY X G d.1 c.1,ZjF X G d.2 c.2⟩
theorem Zjn(X:K.In h)(G:h.Ns mainGlobals mg)(y:PySem.W.nsIn K mainGlobals C=some (some (.ref ca)))(cl:Cls K ca){mt:Nat->Nat->Stmt}:∀ {l:List Ml},All (fun p=>Zmu K ca p.1 p.2.1 (mt p.2.2.2.1 p.2.2.2.2)) l->All (fun p=>Chk kl (P.tb.map (·.1)) p.1 p.2.1 p.2.2.1 (mt p.2.2.2.1 p.2.2.2.2)) l->All (fun p=>P.look (mnm C p.1)=some p.2.2.1) l->All (fun p:Str×Str=>∃ a f fdd fd st q,mg p.1=some (.ref a)/\Cls K a/\Meth K a p.2 f/\P.look (mnm p.1 p.2)=some fd/\BodyOk K kl (P.tb.map (·.1)) p.2 q fd st f fdd) (l.map fun p=>(C,p.1))
 | [],_,_,_=>trivial
 | _::_,d,c,e=>⟨Zny X G y cl d.1 c.1 e.1,Zjn X G y cl d.2 c.2 e.2⟩
theorem Zg0(X:K.In h)(G:h.Ns mainGlobals mg):∀ {l:List Str},All (fun x=>PySem.W.nsIn K mainGlobals x=some none) l->All (fun x=>mg x=none) l
 | [],_=>trivial
 | _::_,d=>⟨PySem.W.mg_none_of X G d.1,Zg0 X G d.2⟩
end IV
end
section
set_option tactic.hygienic false
namespace IV
open PySem L2
theorem Zgl(h:Str.ofString a=Str.ofString b):a=b:=by
 have e:∀ s:String,(Str.ofString s).cps.toList=s.toList.map Char.toNat:=fun s=>by
   show (cpsOfBytes 0 0 s.toByteArray.data.toList).toArray.toList=_;rw [cpsOfBytes_string]
 have h1:=congrArg (fun s:Str=>s.cps.toList) h;simp only [e] at h1;have h2:a.toList=b.toList:=by
   have inj:∀ {x y:Char},x.toNat=y.toNat->x=y:=fun {x y} q=>by
     have:x.val=y.val:=UInt32.toNat_inj.mp q;exact Char.ext this
   exact (List.map_inj_right fun x y q=>inj q).mp h1
 exact String.toList_inj.mp h2
@[simp] theorem ofString_eq(a b:String):(Str.ofString a=Str.ofString b)↔a=b:=⟨Zgl,fun h=>h ▸ rfl⟩
@[simp] theorem Znt(a b:String):(Str.ofString a==Str.ofString b)=(a==b):=by
 rw [Bool.eq_iff_iff];simp
noncomputable def Un(k:γ):Type:=Unit
noncomputable def un:Un k:=()
noncomputable def R.bnd(r:R α)(k:α->Hd->R β)(u:Un k:=un):R β:=r.bind k
@[simp] theorem Zd:R.bnd (.ok a h) k u=k a h:=rfl
@[simp] theorem Ztn:R.bnd (R.bad:R α) k u=.bad:=rfl
section
variable {T:Tb}{S:Ev}{h:Hd}
@[simp] theorem bind_ok:(R.ok a h).bind k=k a h:=rfl
@[simp] theorem bind_bad:(R.bad:R α).bind k=.bad:=rfl
@[simp] theorem ofO_some:R.ofO (some a) h=.ok a h:=rfl
@[simp] theorem Zq2:(R.ok a h).plain=.ok a h:=rfl
@[simp] theorem Zuc{i}:ev T (.var i) S h=R.ofO (S[i]?).join h:=rfl
@[simp] theorem Zuk{d}:ev T (.cst d) S h=.ok d h:=rfl
@[simp] theorem Zl6{x}:ev T (.glo x) S h=R.ofO (T.G x) h:=rfl
@[simp] theorem ZqC{op a b}:ev T (.bin op a b) S h=(ev T a S h).bnd fun x h1=>(ev T b S h1).bnd fun y h2=>opB op x y h2:=rfl
@[simp] theorem ZqA{op a b}:ev T (.cmp op a b) S h=(ev T a S h).bnd fun x h1=>(ev T b S h1).bnd fun y h2=>opC T.GD op x y h2:=rfl
@[simp] theorem Zug{a}:ev T (.neg a) S h=(ev T a S h).bnd fun x h1=>match x with
   | .int i=>.ok (.int (-i)) h1
   | _=>.bad:=rfl
@[simp] theorem ZuJ{a}:ev T (.nt a) S h=(ev T a S h).bnd fun x h1=>match x with
   | .bl b=>.ok (.bl (!b)) h1
   | _=>.bad:=rfl
@[simp] theorem Zgu{es}:ev T (.ands es) S h=evAnd T es S h:=rfl
@[simp] theorem Zqy{es}:ev T (.ors es) S h=evOr T es S h:=rfl
@[simp] theorem Zkp{e}:evAnd T (.cons e .nil) S h=ev T e S h:=rfl
@[simp] theorem Zcq{e e' r}:evAnd T (.cons e (.cons e' r)) S h=(ev T e S h).bnd fun x h1=>match x with
     | .bl true=>evAnd T (.cons e' r) S h1
     | .bl false=>.ok (.bl false) h1
     | _=>.bad:=rfl
@[simp] theorem ZsO{e}:evOr T (.cons e .nil) S h=ev T e S h:=rfl
@[simp] theorem Zl7{e e' r}:evOr T (.cons e (.cons e' r)) S h=(ev T e S h).bnd fun x h1=>match x with
     | .bl true=>.ok (.bl true) h1
     | .bl false=>evOr T (.cons e' r) S h1
     | _=>.bad:=rfl
@[simp] theorem Zui{c a b}:ev T (.ite c a b) S h=(tst T c S h).bnd fun c h1=>if c then ev T a S h1 else ev T b S h1:=rfl
@[simp] theorem ZnU{es}:ev T (.tupl es) S h=(evs T es S h).bnd fun xs h1=>if xs.length<=sizeLine then .ok (.tup xs) h1 else .bad:=rfl
@[simp] theorem ZjC{es}:ev T (.lstl es) S h=(evs T es S h).bnd fun xs h1=>if xs.length<=sizeLine then Zay (.lst xs) h1 else .bad:=rfl
@[simp] theorem ZjD{a i}:ev T (.ix a i) S h=(ev T a S h).bnd fun x h1=>(ev T i S h1).bnd fun y h2=>Zcs T.GD x y h2:=rfl
@[simp] theorem ZsL{a lo hi}:ev T (.sl a lo hi) S h=(ev T a S h).bnd fun x h1=>(evo T lo S h1).bnd fun l h2=>(evo T hi S h2).bnd fun u h3=>ZgX x l u h3:=rfl
@[simp] theorem ZqB{f es}:ev T (.blt f es) S h=(evs T es S h).bnd fun xs h1=>Za9 T.GD f xs h1:=rfl
@[simp] theorem ZnW{f es}:ev T (.call f es) S h=(evs T es S h).bnd fun xs h1=>T.C f xs h1:=rfl
@[simp] theorem ZnV{m o es}:ev T (.meth m o es) S h=(ev T o S h).bnd fun x h1=>if Zdg x h1 then (evs T es S h1).bnd fun xs h2=>ZaY m x xs h2 else .bad:=rfl
@[simp] theorem ZjE{NC js it g c e}:ev T (.comp NC js it g c e) S h=(evi T it S h).bnd fun w h1=>(ZM w.src g (tsto T c) (ev T e) w.xs (Zdr js S) [] h1).bnd fun xs h2=>Zay (.lst xs) h2:=rfl
@[simp] theorem Ztm{e d}:ev T (.maxd e d) S h=(ev T e S h).bnd fun x h1=>(ev T d S h1).bnd fun y h2=>ZoQ x y h2:=rfl
@[simp] theorem Zhl{ps}:ev T (.dictl ps) S h=(evs T ps S h).bnd fun xs h1=>match Zbv xs with
   | some kvs=>if kvs.length<=15 then Zay (.dic (ZbW [] kvs)) h1 else .bad
   | none=>.bad:=rfl
@[simp] theorem Zfc{Cs o f}:ev T (.att Cs o f) S h=(ev T o S h).bnd fun x h1=>Ze1 Cs f x h1:=rfl
@[simp] theorem ZsM{C es}:ev T (.mk C es) S h=(evs T es S h).bnd fun xs h1=>ZlB T.C C xs h1:=rfl
@[simp] theorem Zqz{C m o es}:ev T (.mcl C m o es) S h=(ev T o S h).bnd fun x h1=>match Zai x h1 with
   | some (C',fs)=>if C'=C/\fs.lookup m=none then (evs T es S h1).bnd fun xs h2=>T.C (mnm C m) (x::xs) h2 else .bad
   | none=>.bad:=rfl
@[simp] theorem Ztl{e}:ev T (.trev e) S h=(ev T e S h).bnd fun x h1=>ZoP x h1:=rfl
@[simp] theorem Zue{o e}:ev T (.tix o e) S h=(ev T o S h).bnd fun x h1=>if Zsx x then (ev T e S h1).bnd fun y h2=>ZsZ x y h2 else .bad:=rfl
@[simp] theorem Zud{m o e}:ev T (.tmt m o e) S h=(ev T o S h).bnd fun x h1=>if Zsy x then (ev T e S h1).bnd fun y h2=>txm m x y h2 else .bad:=rfl
@[simp] theorem Zuh{a b}:ev T (.lmu a b) S h=(ev T a S h).bnd fun x h1=>(ev T b S h1).bnd fun y h2=>Zs1 x y h2:=rfl
@[simp] theorem Zuf{a b}:ev T (.sin a b) S h=(ev T a S h).bnd fun x h1=>(ev T b S h1).bnd fun y h2=>Zs0 x y h2:=rfl
@[simp] theorem Zub{e}:evi T (.tw e) S h=(ev T e S h).bnd fun x h1=>match x with
   | .str y=>.ok ⟨[],y.cps.toList.map fun c=>.str ⟨#[c]⟩⟩ h1
   | _=>.bad:=rfl
@[simp] theorem Zuj{a b}:ev T (.dne a b) S h=(ev T a S h).bnd fun x h1=>(ev T b S h1).bnd fun y h2=>Zs2 T.GD x y h2:=rfl
@[simp] theorem ZkA{Cs o f e}:xs1 T (.seta Cs o f e) S h=(ev T e S h).bnd fun d h1=>(ev T o S h1).bnd fun x h2=>(ZhZ Cs f x d h2).bnd fun _ h3=>.ok (.nx,S) h3:=rfl
@[simp] theorem Zq5{Cs o f e}:xs1 T (.auga Cs o f e) S h=(ev T o S h).bnd fun x h1=>(Ze1 Cs f x h1).bnd fun v h2=>(ev T e S h2).bnd fun y h3=>match v,y with
   | .int a,.int b=>if (Zai x h1).map (·.1)=(Zai x h3).map (·.1) then (ZhZ Cs f x (.int (a+b)) h3).bnd fun _ h4=>.ok (.nx,S) h4 else .bad
   | _,_=>.bad:=rfl
@[simp] theorem Zti:evs T .nil S h=.ok [] h:=rfl
@[simp] theorem Zl3{e es}:evs T (.cons e es) S h=(ev T e S h).bnd fun x h1=>(evs T es S h1).bnd fun xs h2=>.ok (x::xs) h2:=rfl
@[simp] theorem ZsK:evo T none S h=.ok none h:=rfl
@[simp] theorem Zl4{e}:evo T (some e) S h=(ev T e S h).bnd fun x h1=>match x with
   | .int i=>.ok (some i) h1
   | _=>.bad:=rfl
@[simp] theorem ZhS{e}:tst T (.ex e) S h=(ev T e S h).bnd fun x h1=>R.ofO (ZcT T.GD x h1) h1:=rfl
@[simp] theorem ZgJ{ts}:tst T (.ands ts) S h=tstAnd T ts S h:=rfl
@[simp] theorem Ztd{ts}:tst T (.ors ts) S h=tstOr T ts S h:=rfl
@[simp] theorem ZkF{a}:tst T (.nt a) S h=(tst T a S h).bnd fun c h1=>.ok (!c) h1:=rfl
@[simp] theorem Zo5{t}:tstAnd T (.one t) S h=tst T t S h:=rfl
@[simp] theorem ZdT{t ts}:tstAnd T (.cons t ts) S h=(tst T t S h).bnd fun c h1=>if c then tstAnd T ts S h1 else .ok false h1:=rfl
@[simp] theorem Zq1{t}:tstOr T (.one t) S h=tst T t S h:=rfl
@[simp] theorem Zo4{t ts}:tstOr T (.cons t ts) S h=(tst T t S h).bnd fun c h1=>if c then .ok true h1 else tstOr T ts S h1:=rfl
@[simp] theorem Zq0:tsto T none S h=.ok true h:=rfl
@[simp] theorem ZqZ{t}:tsto T (some t) S h=tst T t S h:=rfl
@[simp] theorem Ziy{e}:evi T (.pl e) S h=(ev T e S h).bnd fun x h1=>R.ofO (Zeq x h1) h1:=rfl
@[simp] theorem ZnT{e}:evi T (.rng e) S h=(ev T e S h).bnd fun x h1=>match x with
   | .int j=>if ZaR j then .ok ⟨[],Z6 0 j.toNat⟩ h1 else .bad
   | _=>.bad:=rfl
@[simp] theorem Zqx{a b}:ev T (.rpn o a b) S h=(ev T a S h).bnd fun x h1=>(shD x h1).bnd fun p h1=>(ev T b S h1).bnd fun y h2=>(shD y h2).bnd fun q h3=>.ok (.bl (bif o then !decide (p=q) else decide (p=q))) h3:=rfl
@[simp] theorem Ztk{e}:evi T (.enu e) S h=(ev T e S h).bnd fun x h1=>R.ofO ((ZgF x h1).map fun w=>⟨w.src,Zl9 w.xs⟩) h1:=rfl
@[simp] theorem Ztj{e}:evi T (.rev e) S h=(ev T e S h).bnd fun x h1=>R.ofO ((ZiU x h1).map fun w=>⟨w.src,w.xs.reverse⟩) h1:=rfl
@[simp] theorem Zmw{e}:xs1 T (.ret e) S h=(ev T e S h).bnd fun x h1=>.ok (.rt x,S) h1:=rfl
@[simp] theorem ZiR{g e}:xs1 T (.set g e) S h=(ev T e S h).bnd fun x h1=>(R.ofO (Za1 g x S) h1).bnd fun ρ1 h2=>.ok (.nx,ρ1) h2:=rfl
@[simp] theorem Zmx{o i e}:xs1 T (.put o i e) S h=(ev T e S h).bnd fun x h1=>(ev T o S h1).bnd fun y h2=>(ev T i S h2).bnd fun z h3=>(ZeE y z x h3).bnd fun _ h4=>.ok (.nx,S) h4:=rfl
@[simp] theorem Zmy{e}:xs1 T (.drp e) S h=(ev T e S h).bnd fun _ h1=>.ok (.nx,S) h1:=rfl
@[simp] theorem ZiS{c a b}:xs1 T (.iff c a b) S h=(tst T c S h).bnd fun t h1=>if t then xs2 T a S h1 else xs2 T b S h1:=rfl
@[simp] theorem Zee{c b}:xs1 T (.whl c b) S h=ZO (tst T c) (xs2 T b) T.L S h:=rfl
@[simp] theorem ZkB{g it b}:xs1 T (.forr g it b) S h=(evi T it S h).bnd fun w h1=>Z9 w.src g (xs2 T b) w.xs S h1:=rfl
@[simp] theorem Ztc:xs2 T .nil S h=.ok (.nx,S) h:=rfl
@[simp] theorem ZgE{s r}:xs2 T (.cons s r) S h=(xs1 T s S h).bnd fun p h1=>match p with
   | (.nx,ρ1)=>xs2 T r ρ1 h1
   | p=>.ok p h1:=rfl
theorem Za(e:xs1 T s S h=.ok (.nx,ρ1) h1):xs2 T (.cons s r) S h=xs2 T r ρ1 h1:=by rw [ZgE,e];rfl
theorem Zc(e:xs1 T s S h=.ok (.rt d,ρ1) h1):xs2 T (.cons s r) S h=.ok (.rt d,ρ1) h1:=by rw [ZgE,e];rfl
@[simp] theorem Zto{i d}:Za1 (.nm i) d S=some (S.set i (some d)):=rfl
@[simp] theorem ZsY{i j a b}:Za1 (.two i j) (.tup [a,b]) S=some ((S.set i (some a)).set j (some b)):=rfl
@[simp] theorem ZtM:Zh (.ok (.rt d,S) h)=.ok d h:=rfl
@[simp] theorem ZtN:Zh (.ok (.nx,S) h)=.ok .non h:=rfl
end
@[simp] theorem ZfO:seqOf (.tup xs) h=some xs:=rfl
@[simp] theorem Zr5:Zgi f (.int i) (.int j) h=.ok (.bl (f i j)) h:=rfl
section
variable {GD:Str->Option (List (Key×D))}{h:Hd}
@[simp] theorem Zgk{x y}:opC GD .Eq x y h=ZcV false x y h:=rfl
@[simp] theorem Zt0{x y}:opC GD .NotEq x y h=ZcV true x y h:=rfl
@[simp] theorem Zt1{i j}:opC GD .Lt (.int i) (.int j) h=.ok (.bl (decide (i<j))) h:=rfl
@[simp] theorem Zt2{i j}:opC GD .LtE (.int i) (.int j) h=.ok (.bl (decide (i<=j))) h:=rfl
@[simp] theorem Zt3{i j}:opC GD .Gt (.int i) (.int j) h=.ok (.bl (decide (j<i))) h:=rfl
@[simp] theorem Zt4{i j}:opC GD .GtE (.int i) (.int j) h=.ok (.bl (decide (j<=i))) h:=rfl
@[simp] theorem Zlv{x}:opC GD .Is x .non h=.ok (.bl (decide (x=.non))) h:=rfl
@[simp] theorem Zlu{x}:opC GD .IsNot x .non h=.ok (.bl (!decide (x=.non))) h:=rfl
@[simp] theorem Zgj{s n}:opC GD .NotIn (.str s) (.kd n) h=match GD n with
   | some kvs=>.ok (.bl (!(ZE kvs (.inr s)).isSome)) h
   | none=>.bad:=by
 show Zbb GD true (.str s) (.kd n) h=_;unfold Zbb;simp only [seqOf,lstOf,dicOf,keyOf];cases GD n<;>rfl
theorem Zep(ss:List Str):(ss.map D.str).all D.flat=true:=by
 rw [OC];intro x hx;obtain ⟨s,_,rfl⟩:=List.mem_map.mp hx;rfl
theorem any_words(ss:List Str)(x:Str):((ss.map D.str).any fun z=>eqF z (.str x))=decide (x∈ss):=by
 induction ss with
 | nil=>rfl
 | cons s r ih =>
   rw [Op,List.any_cons,ih];show ((s==x) || decide (x∈r))=_;by_cases e:s=x
   . subst e;simp
   . have:(s==x)=false:=by simpa using e
     rw [this];have e':¬ x=s:=fun q=>e q.symm;simp [e']
theorem Zbw{ss:List Str}{x:Str}:opC GD .In (.str x) (.tup (ss.map .str)) h=.ok (.bl (decide (x∈ss))) h:=by
 show Zbb GD false (.str x) (.tup (ss.map .str)) h=_;unfold Zbb;rw [ZfO];simp only [Zep,any_words];rfl
theorem Zd7{ss:List Str}{x:Str}:opC GD .NotIn (.str x) (.tup (ss.map .str)) h=.ok (.bl (!decide (x∈ss))) h:=by
 show Zbb GD true (.str x) (.tup (ss.map .str)) h=_;unfold Zbb;rw [ZfO];simp only [Zep,any_words];rfl
@[simp] theorem Zr4{xs i}:Zcs GD (.tup xs) (.int i) h=R.ofO (atI xs i) h:=rfl
@[simp] theorem Ztf{xs i}:Zcs GD (.ro xs) (.int i) h=R.ofO (atI xs i) h:=rfl
@[simp] theorem Znn{n s}:Zcs GD (.kd n) (.str s) h=match GD n with
   | some kvs=>R.ofO (ZE kvs (.inr s)) h
   | none=>.bad:=rfl
theorem ZbT{i k xs}(e:h[i]? = some (.lst xs)):Zcs GD (.ref i) (.int k) h=R.ofO (atI xs k) h:=by
 unfold Zcs;simp only [seqOf,lstOf,e]
@[simp] theorem Zs7{α:Type}{x:α}{l:List α}:atI (x::l) 0=some x:=by simp [atI,ixN]
theorem ZdB{α:Type}{l:List α}{k:Nat}:atI l (k:Int)=l[k]? := by
 unfold atI ixN;by_cases hk:k<l.length
 . simp [hk]
 . simp [hk]
@[simp] theorem ZuK{α:Type}{x y:α}{l:List α}:atI (x::y::l) 1=some y:=ZdB (k:=1)
theorem Zms{α:Type}{l:List α}{x:α}:atI (l++[x]) (-1)=some x:=by
 unfold atI ixN;rw [if_neg (by decide),if_pos (by simp;lia)];have:(-1+((l++[x]).length:Int)).toNat=l.length:=by simp;lia
 simp only [Option.bind_some,this];simp
@[simp] theorem Zr3{xs l u}:ZgX (.tup xs) l u h=.ok (.tup (cutD xs l u)) h:=rfl
@[simp] theorem Zte{b}:ZcT GD (.bl b) h=some b:=rfl
@[simp] theorem Zrh{i}:ZcT GD (.int i) h=some (i != 0):=rfl
@[simp] theorem Zrf{xs}:ZcT GD (.tup xs) h=some (!xs.isEmpty):=rfl
@[simp] theorem Zrg:ZcT GD .non h=some false:=rfl
@[simp] theorem Zth{i j}:opB .Add (.int i) (.int j) h=.ok (.int (i+j)) h:=rfl
@[simp] theorem Ztg{i j}:opB .Sub (.int i) (.int j) h=.ok (.int (i - j)) h:=rfl
theorem ZU(hj:0<j):opB .Mod (.int i) (.int j) h=.ok (.int (i % j)) h:=if_pos hj
theorem Zde(hj:0<j/\j<1073741824):opB .FloorDiv (.int i) (.int j) h=.ok (.int (i / j)) h:=if_pos hj
theorem Zbx(hj:i.natAbs<2 ^ 2000/\j.natAbs<2 ^ 2000):opB .Mult (.int i) (.int j) h=.ok (.int (i * j)) h:=if_pos hj
theorem Zjk(hl:xs.length+ys.length<=sizeLine):opB .Add (.tup xs) (.tup ys) h=.ok (.tup (xs++ys)) h:=if_pos hl
@[simp] theorem ZeL:ZcV n (.str x) (.str y) h=.ok (.bl (if n then !decide (x=y) else decide (x=y))) h:=by
 have e:PyData.eqv (.str x) (.str y)=decide (x=y):=by
   show (x==y)=_;rw [Bool.beq_eq_decide_eq]
 have q:ZcV n (.str x) (.str y) h=if min (PyData.str x).depth (PyData.str y).depth<=1100 then .ok (.bl (if n then !PyData.eqv (.str x) (.str y) else PyData.eqv (.str x) (.str y))) h else .bad:=rfl;rw [q,if_pos (by simp [PyData.depth]),e]
@[simp] theorem Zls:ZcV n (.int x) (.int y) h=.ok (.bl (if n then !decide (x=y) else decide (x=y))) h:=by
 have e:PyData.eqv (.int x) (.int y)=decide (x=y):=by
   show (x==y)=_;rw [Bool.beq_eq_decide_eq]
 have q:ZcV n (.int x) (.int y) h=if min (PyData.int x).depth (PyData.int y).depth<=1100 then .ok (.bl (if n then !PyData.eqv (.int x) (.int y) else PyData.eqv (.int x) (.int y))) h else .bad:=rfl;rw [q,if_pos (by simp [PyData.depth]),e]
end
theorem Zl(e:P.tb.lookup f=some fd)(hl:ds.length=fd.ps.length):run P (n+1) f ds h=Zh (xs2 ⟨P.G,P.GD,run P n,P.L⟩ fd.body (Z7 fd.N ds) h):=by
 rw [run,show P.look f=some fd by unfold Pg.look;rw [e]];simp only;rw [if_pos hl]
theorem Zgb(hn:P.tb.lookup f=none)(e:P.ms.lookup f=some fd)(hl:ds.length=fd.ps.length):run P (n+1) f ds h=Zh (xs2 ⟨P.G,P.GD,run P n,P.L⟩ fd.body (Z7 fd.N ds) h):=by
 rw [run,show P.look f=some fd by unfold Pg.look;rw [hn];exact e];simp only;rw [if_pos hl]
end IV
namespace IV
open PySem L2
section
variable {h:Hd}{x y z w:DO}{r:List DO}
@[simp] theorem Zcg:(h++x::r)[h.length]? = some x:=by simp
@[simp] theorem ZqS:(h++x::y::r)[h.length+1]? = some y:=by simp
@[simp] theorem Zs6:(h++x::y::z::r)[h.length+2]? = some z:=by simp
end
@[simp] theorem Znw:Zay o h=.ok (.ref h.length) (h++[o]):=rfl
section
variable {h:Hd}
theorem ZbV(e:h[i]? = some (.lst ys))(hz:ys.length<sizeLine):ZaY .app (.ref i) [d] h=.ok .non (h.set i (.lst (ys++[d]))):=by
 simp only [ZaY,e,Zd8,ZlH];rw [if_pos hz]
theorem ZeO(e:h[i]? = some (.lst (ys++[d]))):ZaY .pop (.ref i) [] h=.ok d (h.set i (.lst ys)):=by
 simp only [ZaY,e,Zd8,ZnB];simp
theorem Zbp(e:h[i]? = some (.lst ys)):Zdg (.ref i) h=true:=by simp [Zdg,e]
theorem ZmE(e:h[i]? = some (.lst ys)):ZcT GD (.ref i) h=some (!ys.isEmpty):=by simp [ZcT,e]
@[simp] theorem ZsG:Z9 [] g body [] S h=.ok (.nx,S) h:=rfl
theorem Zcp:Z9 [] g body (d::ds) S h=match Za1 g d S with
     | none=>.bad
     | some ρ1=>(body ρ1 h).bnd fun p h2=>match p with
       | (.nx,ρ2)=>Z9 [] g body ds ρ2 h2
       | (.ct,ρ2)=>Z9 [] g body ds ρ2 h2
       | (.bk,ρ2)=>.ok (.nx,ρ2) h2
       | (.rt d,ρ2)=>.ok (.rt d,ρ2) h2:=rfl
theorem ZiD:ZM src g test elt (d::ds) S acc h=if Wk.stays src h/\acc.length<sizeLine then match Za1 g d S with
     | none=>.bad
     | some ρ1=>(test ρ1 h).plain.bnd fun b h1=>if b then (elt ρ1 h1).plain.bnd fun x h2=>ZM src g test elt ds S (acc++[x]) h2 else ZM src g test elt ds S acc h1
   else .bad:=rfl
theorem Zba:ZO test body (n+1) S h=(test S h).bnd fun b h1=>if b then (body S h1).bnd fun p h2=>match p with
     | (.nx,ρ2)=>ZO test body n ρ2 h2
     | (.ct,ρ2)=>ZO test body n ρ2 h2
     | (.bk,ρ2)=>.ok (.nx,ρ2) h2
     | (.rt d,ρ2)=>.ok (.rt d,ρ2) h2
   else .ok (.nx,S) h1:=rfl
end
inductive Wd where
 | add|sub|mul|lt
 deriving DecidableEq
noncomputable def Wd.s:Wd->Str
 | .add=>O "+"
 | .sub=>O "-"
 | .mul=>O "*"
 | .lt=>O "<"
inductive T where
 | num (n:Int)|name (x:Str)|fn (x:Str) (e:T)|rcc (f x:Str) (e:T)|call (f a:T)|iff (c t e:T)|op (w:Wd) (a b:T)
noncomputable def T.d:T->D
 | .num n=>.tup [.str (O "num"),.int n]
 | .name x=>.tup [.str (O "name"),.str x]
 | .fn x e=>.tup [.str (O "fn"),.str x,e.d]
 | .rcc f x e=>.tup [.str (O "rec"),.str f,.str x,e.d]
 | .call f a=>.tup [.str (O "call"),f.d,a.d]
 | .iff c t e=>.tup [.str (O "if"),c.d,t.d,e.d]
 | .op w a b=>.tup [.str w.s,a.d,b.d]
noncomputable def T.parts:T->List T
 | .num _|.name _=>[]
 | .fn _ e|.rcc _ _ e=>[e]
 | .call f a=>[f,a]
 | .iff c t e=>[c,t,e]
 | .op _ a b=>[a,b]
noncomputable def T.places:T->List T
 | .num n=>[.num n]
 | .name x=>[.name x]
 | .fn x e=>.fn x e::e.places
 | .rcc f x e=>.rcc f x e::e.places
 | .call f a=>.call f a::(f.places++a.places)
 | .iff c t e=>.iff c t e::(c.places++(t.places++e.places))
 | .op w a b=>.op w a b::(a.places++b.places)
noncomputable def T.size(t:T):Nat:=t.places.length
theorem T.places_parts(t:T):t.places=t::t.parts.flatMap T.places:=by
 cases t<;>simp [T.places,T.parts]
end IV
end
section
namespace IV
open PySem L2
section
variable {U:Tb}{S:Ev}{h h1:Hd}{f:Str}{as:List D}{r:R D}
theorem ZZ(e:tst U c S h=.ok true h1):xs1 U (.iff c a b) S h=xs2 U a S h1:=by rw [ZiS,e];rfl
theorem Zab(e:tst U c S h=.ok false h1):xs1 U (.iff c a b) S h=xs2 U b S h1:=by rw [ZiS,e];rfl
theorem Zs(q:ev U e S h=.ok d h1):xs1 U (.ret e) S h=.ok (.rt d,S) h1:=by rw [Zmw,q];rfl
theorem Zj(q:ev U e S h=.ok d h1):xs1 U (.set (.nm i) e) S h=.ok (.nx,S.set i (some d)) h1:=by rw [ZiR,q];rfl
theorem Zgq(q:evi U it S h=.ok w h1):xs1 U (.forr g it b) S h=Z9 w.src g (xs2 U b) w.xs S h1:=by rw [ZkB,q];rfl
theorem Zo(p:ev U a S h=.ok x h1)(q:ev U b S h1=.ok y h2):ev U (.bin op a b) S h=opB op x y h2:=by rw [ZqC,p];simp only [Zd,q]
theorem Zy(p:ev U a S h=.ok x h1)(q:ev U b S h1=.ok y h2):ev U (.cmp op a b) S h=opC U.GD op x y h2:=by rw [ZqA,p];simp only [Zd,q]
theorem Zcu(q:ev U e S h=.ok (.bl b) h1):tst U (.ex e) S h=.ok b h1:=by rw [ZhS,q];rfl
theorem ZV{b c:Bool}{y:R Bool}(q:y=.ok b h1)(e:b=c):y=.ok c h1:=e ▸ q
noncomputable def hdS:Sxs->Sx
 | .cons s _=>s
 | .nil=>.pas
noncomputable def tlS:Sxs->Sxs
 | .cons _ r=>r
 | .nil=>.nil
theorem rt1(e:xs1 U (hdS ss) S h=.ok (.rt d,ρ1) h2)(hs:ss=.cons (hdS ss) (tlS ss)):Zh (xs2 U ss S h)=.ok d h2:=by rw [hs,Zc e];rfl
theorem nx1(e:xs1 U (hdS ss) S h=.ok (.nx,ρ1) h2)(hs:ss=.cons (hdS ss) (tlS ss)):xs2 U ss S h=xs2 U (tlS ss) ρ1 h2:=by rw [hs,Za e];rfl
theorem Zb(p:ev U a S h=.ok x h1)(q:evs U es S h1=.ok xs h2):evs U (.cons a es) S h=.ok (x::xs) h2:=by rw [Zl3,p,Zd,q];rfl
theorem Zul(p:evs U es S h=.ok xs h1):ev U (.call g es) S h=U.C g xs h1:=by rw [ZnW,p];rfl
theorem ZsX(a:atI xs z=some d)(p:evs U es S h=.ok xs h)(q:ev U e S (h++[.lst xs])=.ok (.int z) (h++[.lst xs]))(hz:xs.length<=1000):ev U (.ix (.lstl es) e) S h=.ok d (h++[.lst xs]):=by
 rw [ZjD,ZjC,p,Zd,if_pos (OE hz (by decide)),Znw,Zd,q,Zd,ZbT (xs:=xs) (by simp),a];rfl
theorem Zu(e:U.C g xs h1=y)(p:evs U es S h=.ok xs h1):ev U (.call g es) S h=y:=(Zul p).trans e
theorem ZaA(p:evs U es S h=.ok xs h1)(hz:xs.length<=1000):ev U (.tupl es) S h=.ok (.tup xs) h1:=by rw [ZnU,p,Zd,if_pos (OE hz (by decide))]
theorem Zsw(p:ev U e S h=.ok x h1)(n:x≠.non):tst U (.ex (.cmp .Is e (.cst .non))) S h=.ok false h1:=Zcu ((Zy p rfl).trans (by rw [Zlv,decide_eq_false n]))
theorem Zsv(p:ev U e S h=.ok .non h1):tst U (.ex (.cmp .Is e (.cst .non))) S h=.ok true h1:=Zcu ((Zy p rfl).trans (by rw [Zlv,decide_eq_true rfl]))
theorem ZcZ(p:ev U a S h=.ok (.str x) h1)(q:ev U b S h1=.ok (.str y) h2):tst U (.ex (.cmp .Eq a b)) S h=.ok (decide (x=y)) h2:=Zcu ((Zy p q).trans (by rw [Zgk,ZeL];rfl))
theorem Zum(p:ev U a S h=.ok (.int x) h1)(q:ev U b S h1=.ok (.int y) h2):tst U (.ex (.cmp .Eq a b)) S h=.ok (decide (x=y)) h2:=Zcu ((Zy p q).trans (by rw [Zgk,Zls];rfl))
theorem ZX(p:ev U a S h=.ok x h1)(q:ev U b S h1=.ok y h2):ev U (.ix a b) S h=Zcs U.GD x y h2:=by rw [ZjD,p,Zd,q,Zd]
theorem ZoR(p:tst U a S h=.ok true h1)(q:tst U b S h1=.ok c h2):tst U (.ands (.cons a (.one b))) S h=.ok c h2:=by rw [ZgJ,ZdT,p];exact q
theorem ZoS(p:tst U a S h=.ok false h1):tst U (.ands (.cons a (.one b))) S h=.ok false h1:=by rw [ZgJ,ZdT,p];rfl
end
end IV
end
section
set_option tactic.hygienic false
namespace Gn
open PySem L2 IV
noncomputable def Za2:Sxs:=(.cons (.iff (.ex (.cmp .NotIn (.ix (.var 0) (.cst (.int 0))) (.glo (O "FORMS")))) (.cons (.ret (.tupl .nil)) .nil) .nil) (.cons (.ret (.sl (.var 0) (some (.bin .Add (.cst (.int 1)) (.ix (.ix (.glo (O "FORMS")) (.ix (.var 0) (.cst (.int 0)))) (.cst (.int 0))))) none)) .nil))
noncomputable def Ze4:Fd:=⟨[(O "E")],[(O "E")],Za2⟩
noncomputable def ZhA:Sxs:=(.cons (.set (.nm 1) (.lstl .nil)) (.cons (.set (.nm 2) (.lstl (.cons (.var 0) .nil))) (.cons (.whl (.ex (.var 2)) (.cons (.set (.nm 3) (.meth .pop (.var 2) .nil)) (.cons (.drp (.meth .app (.var 1) (.cons (.var 3) .nil))) (.cons (.forr (.nm 4) (.rev (.call (O "parts_of") (.cons (.var 3) .nil))) (.cons (.drp (.meth .app (.var 2) (.cons (.var 4) .nil))) .nil)) .nil)))) (.cons (.ret (.var 1)) .nil))))
noncomputable def Zdm:Fd:=⟨[(O "E")],[(O "E"),(O "found"),(O "waiting"),(O "place"),(O "part")],ZhA⟩
noncomputable def Zbk:Sxs:=(.cons (.iff (.ex (.cmp .Lt (.var 1) (.blt .len (.cons (.var 0) .nil)))) (.cons (.ret (.ix (.var 0) (.var 1))) .nil) .nil) (.cons (.ret (.cst (.int 0))) .nil))
noncomputable def Z0:Fd:=⟨[(O "_law_script"),(O "_law_k")],[(O "_law_script"),(O "_law_k")],Zbk⟩
noncomputable def Zb8:Sxs:=(.cons (.set (.nm 2) (.bin .Add (.bin .Pow (.cst (.int 10)) (.cst (.int 30))) (.cst (.int 57)))) (.cons (.set (.nm 3) (.bin .Mult (.bin .Mod (.var 0) (.var 2)) (.cst (.int 271828182845904523536028747135)))) (.cons (.set (.nm 3) (.bin .Add (.var 3) (.bin .Mult (.bin .Mult (.var 1) (.var 1)) (.cst (.int 314159265358979323846264338327))))) (.cons (.ret (.bin .Mod (.bin .Add (.var 3) (.cst (.int 577215664901532860606512090082))) (.var 2))) .nil))))
noncomputable def ZS:Fd:=⟨[(O "_law_cell"),(O "_law_k")],[(O "_law_cell"),(O "_law_k"),(O "_law_big"),(O "_law_number_here")],Zb8⟩
noncomputable def Zb7:Sxs:=(.cons (.set (.nm 1) (.cst (.str (O "abcdefghijklmnopqrstuvwxyz")))) (.cons (.set (.nm 2) (.bin .Add (.cst (.int 1)) (.bin .Mod (.var 0) (.cst (.int 8))))) (.cons (.set (.nm 3) (.bin .Mod (.bin .FloorDiv (.var 0) (.cst (.int 8))) (.var 2))) (.cons (.set (.nm 4) (.bin .FloorDiv (.var 0) (.cst (.int 64)))) (.cons (.set (.nm 5) (.cst (.str (O "")))) (.cons (.forr (.nm 6) (.rng (.cst (.int 8))) (.cons (.set (.nm 5) (.bin .Add (.var 5) (.ix (.var 1) (.bin .Mod (.var 4) (.cst (.int 26)))))) (.cons (.set (.nm 4) (.bin .FloorDiv (.var 4) (.cst (.int 26)))) .nil))) (.cons (.set (.nm 7) (.lstl .nil)) (.cons (.forr (.nm 6) (.rng (.cst (.int 5))) (.cons (.set (.nm 8) (.ix (.var 1) (.bin .Mod (.bin .Add (.var 4) (.bin .Mult (.cst (.int 5)) (.var 6))) (.cst (.int 26))))) (.cons (.set (.nm 9) (.bin .Add (.bin .Add (.sl (.var 5) none (some (.var 3))) (.var 8)) (.sl (.var 5) (some (.bin .Add (.var 3) (.cst (.int 1)))) (some (.var 2))))) (.cons (.iff (.ex (.cmp .Eq (.bin .Mod (.bin .FloorDiv (.var 4) (.cst (.int 26))) (.cst (.int 4))) (.cst (.int 1)))) (.cons (.set (.nm 9) (.sl (.var 5) none (some (.bin .Sub (.cst (.int 8)) (.var 6))))) .nil) .nil) (.cons (.iff (.ex (.cmp .In (.var 9) (.tupl (.cons (.cst (.str (O "fn"))) (.cons (.cst (.str (O "rec"))) (.cons (.cst (.str (O "call"))) (.cons (.cst (.str (O "if"))) .nil))))))) (.cons (.set (.nm 9) (.bin .Mult (.cst (.str (O "q"))) (.blt .len (.cons (.var 9) .nil)))) .nil) .nil) (.cons (.drp (.meth .app (.var 7) (.cons (.var 9) .nil))) .nil)))))) (.cons (.ret (.var 7)) .nil)))))))))
noncomputable def ZR:Fd:=⟨[(O "_law_number_here")],[(O "_law_number_here"),(O "_law_letters"),(O "_law_long"),(O "_law_place"),(O "_law_rest"),(O "_law_base"),(O "_law_k"),(O "_law_found"),(O "_law_sign"),(O "_law_word")],Zb7⟩
noncomputable def Zb2:List (Key×D):=[(.inr (O "fn"),.tup [.int 1,.int 1]),(.inr (O "rec"),.tup [.int 2,.int 1]),(.inr (O "call"),.tup [.int 0,.int 2]),(.inr (O "if"),.tup [.int 0,.int 3]),(.inr (O "+"),.tup [.int 0,.int 2]),(.inr (O "-"),.tup [.int 0,.int 2]),(.inr (O "*"),.tup [.int 0,.int 2]),(.inr (O "<"),.tup [.int 0,.int 2])]
structure Tre(P:Pg):Prop where
 parts:P.tb.lookup (O "parts_of")=some Ze4
 g:P.G (O "FORMS")=some (.kd (O "FORMS"))
 gd:P.GD (O "FORMS")=some Zb2
 big:1000000<=P.L
theorem Zcm (H:Tre P) (hU:U.G=P.G/\U.GD=P.GD) (q:ev U e S h=.ok (.str w) h) (f:ZE Zb2 (.inr w)=x):tst U (.ex (.cmp .NotIn e (.glo (O "FORMS")))) S h=.ok (!x.isSome) h:=by
 have g:ev U (.glo (O "FORMS")) S h=.ok (.kd (O "FORMS")) h:=by
   rw [Zl6,hU.1,H.g];rfl
 refine Zcu ((Zy q g).trans ?_);rw [Zgj,hU.2,H.gd];simp only [f]
theorem ZnP (H:Tre P) (hU:U.G=P.G/\U.GD=P.GD) (q:ev U e S h=.ok (.str w) h) (f:ZE Zb2 (.inr w)=some x):ev U (.ix (.glo (O "FORMS")) e) S h=.ok x h:=by
 have g:ev U (.glo (O "FORMS")) S h=.ok (.kd (O "FORMS")) h:=by
   rw [Zl6,hU.1,H.g];rfl
 rw [ZjD,g,Zd,q,Zd,Znn,hU.2,H.gd];simp only [f];rfl
theorem ZeW:ev U (.ix (.var 0) (.cst (.int 0))) (some (.tup (.str w::ds))::S) h=.ok (.str w) h:=by
 show R.ofO (atI (D.str w::ds) 0) h=_;rw [Zs7];rfl
theorem Zit (H:Tre P) (hU:U.G=P.G/\U.GD=P.GD) (e:ZE Zb2 (.inr w)=some (.tup [.int a,.int b])):ev U (.bin .Add (.cst (.int 1)) (.ix (.ix (.glo (O "FORMS")) (.ix (.var 0) (.cst (.int 0)))) (.cst (.int 0)))) [some (.tup (.str w::ds))] h=.ok (.int (1+a)) h:=by
 refine (Zo (x:=.int 1) (y:=.int a) rfl ?_).trans rfl;rw [ZjD,ZnP H hU ZeW e];rfl
theorem Zgt(q:ev U e S h=.ok (.int l) h):evo U (some e) S h=.ok (some l) h:=by
 rw [Zl4,q];rfl
theorem Zi4(p:ev U a S h=.ok x h)(q:evo U lo S h=.ok l h)(r:evo U hi S h=.ok u h):ev U (.sl a lo hi) S h=ZgX x l u h:=by
 simp only [ZsL,p,Zd,q,r]
theorem Zdd (H:Tre P) (n:Nat) (h:Hd) (w:Str) (ds:List D) (e:ZE Zb2 (.inr w)=none):run P (n+1) (O "parts_of") [.tup (.str w::ds)] h=.ok (.tup []) h:=by
 rw [Zl H.parts rfl];show Zh (xs2 (P.tbl n) Za2 [some (.tup (.str w::ds))] h)=_;rw [Za2,Zc ((ZZ (Zcm H ⟨rfl,rfl⟩ ZeW e)).trans (Zc (Zs (d:=.tup []) rfl)))];rfl
theorem ZK (H:Tre P) (n:Nat) (h:Hd) (w:Str) (ds:List D) (a b:Int) (e:ZE Zb2 (.inr w)=some (.tup [.int a,.int b])):run P (n+1) (O "parts_of") [.tup (.str w::ds)] h=.ok (.tup (cutD (.str w::ds) (some (1+a)) none)) h:=by
 rw [Zl H.parts rfl];show Zh (xs2 (P.tbl n) Za2 [some (.tup (.str w::ds))] h)=_;have q:=Zit H (U:=P.tbl n) ⟨rfl,rfl⟩ (ds:=ds) (h:=h) e;have r:ev (P.tbl n) (.sl (.var 0) (some (.bin .Add (.cst (.int 1)) (.ix (.ix (.glo (O "FORMS")) (.ix (.var 0) (.cst (.int 0)))) (.cst (.int 0))))) none) [some (.tup (.str w::ds))] h=.ok (.tup (cutD (.str w::ds) (some (1+a)) none)) h:=by
   exact (Zi4 (a:=.var 0) (x:=.tup (.str w::ds)) rfl (Zgt q) rfl).trans rfl
 rw [Za2,Za ((Zab (Zcm H ⟨rfl,rfl⟩ ZeW e)).trans rfl),Zc (Zs r)];rfl
theorem Zjb (H:Tre P) (n:Nat) (t:T) (h:Hd):run P (n+1) (O "parts_of") [t.d] h=.ok (.tup (t.parts.map T.d)) h:=by
 cases t with
 | num z=>exact Zdd H n h (O "num") _ rfl
 | name x=>exact Zdd H n h (O "name") _ rfl
 | fn x e=>exact ZK H n h (O "fn") _ 1 1 rfl
 | rcc f x e=>exact ZK H n h (O "rec") _ 2 1 rfl
 | call f a=>exact ZK H n h (O "call") _ 0 2 rfl
 | iff c a b=>exact ZK H n h (O "if") _ 0 3 rfl
 | op w a b=>exact ZK H n h w.s _ 0 2 (by cases w<;>rfl)
theorem ZdW(p:Option D):∀ (ps:List D) (W:List D) (q:Option D),W.length+ps.length<=1000000->∃ q',
   Z9 [] (.nm 4) (xs2 U (.cons (.drp (.meth .app (.var 2) (.cons (.var 4) .nil))) .nil)) ps [some E,some (.ref h.length),some (.ref (h.length+1)),p,q] (h++[.lst F,.lst W])
     = .ok (.nx,[some E,some (.ref h.length),some (.ref (h.length+1)),p,q']) (h++[.lst F,.lst (W++ps)])
 | [],W,q,hz=>⟨q,by simp⟩
 | d::ds,W,q,hz=>by
   obtain ⟨q',e⟩:=ZdW (U:=U) (h:=h) (F:=F) (E:=E) p ds (W++[d]) (some d) (by simp at hz ⊢;lia);refine ⟨q',?_⟩;have hz2:W.length<sizeLine:=by simp at hz;rw [sizeLine_eq];lia
   rw [Zcp];simp [Zdg,ZaY,Zd8,ZlH,hz2,e]
theorem Zh5(t:T):1<=t.places.length:=by rw [T.places_parts];simp
theorem ZcJ:∀ W:List T,W.length<=(W.flatMap T.places).length
 | []=>by simp
 | t::W=>by
   have:=Zh5 t;have:=ZcJ W;rw [List.flatMap_cons,OA,Os]
   lia
theorem Zg7(H:Tre P)(n:Nat):∀ (fuel:Nat) (W:List T) (F:List D) (p q:Option D),(W.flatMap T.places).length<fuel->F.length+(W.flatMap T.places).length<=900000->∃ p' q',
   ZO (tst ⟨P.G,P.GD,run P (n+1),P.L⟩ (.ex (.var 2))) (xs2 ⟨P.G,P.GD,run P (n+1),P.L⟩ (.cons (.set (.nm 3) (.meth .pop (.var 2) .nil)) (.cons (.drp (.meth .app (.var 1) (.cons (.var 3) .nil))) (.cons (.forr (.nm 4) (.rev (.call (O "parts_of") (.cons (.var 3) .nil))) (.cons (.drp (.meth .app (.var 2) (.cons (.var 4) .nil))) .nil)) .nil))))
     fuel [some E,some (.ref h.length),some (.ref (h.length+1)),p,q] (h++[.lst F,.lst (W.map T.d).reverse])
     = .ok (.nx,[some E,some (.ref h.length),some (.ref (h.length+1)),p',q']) (h++[.lst (F++(W.flatMap T.places).map T.d),.lst []])
 | 0,W,F,p,q,h1,h2=>by lia
 | fuel+1,[],F,p,q,h1,h2=>⟨p,q,by rw [Zba];simp [ZcT]⟩
 | fuel+1,t::W,F,p,q,h1,h2=>by
   have e0:((t::W).flatMap T.places)=t::((t.parts++W).flatMap T.places):=by
     rw [List.flatMap_cons,T.places_parts t,List.flatMap_append];simp
   rw [e0] at h1 h2 ⊢;have hp:t.parts.length<=3:=by cases t<;>simp [T.parts]
   simp only [Os] at h1 h2;have h3:=ZcJ (t.parts++W);rw [OA] at h3;obtain ⟨q1,e1⟩:=ZdW (U:=⟨P.G,P.GD,run P (n+1),P.L⟩) (h:=h) (F:=F++[t.d]) (E:=E) (some t.d) (t.parts.map T.d).reverse (W.map T.d).reverse q (by simp;lia);obtain ⟨p',q',e2⟩:=Zg7 H (h:=h) (E:=E) n fuel (t.parts++W) (F++[t.d]) (some t.d) q1 (by lia) (by rw [OA,List.length_singleton];lia);refine ⟨p',q',?_⟩;have hz2:F.length<sizeLine:=by rw [sizeLine_eq];lia
   rw [Zba];simp [ZcT,Zdg,ZaY,Zd8,ZlH,ZnB,hz2,Zjb H,ZiU,e1];simpa using e2
theorem ZkZ (H:Tre P) (hp:P.tb.lookup (O "places")=some Zdm) (n:Nat) (t:T) (h:Hd) (hz:t.size<=800000):run P (n+2) (O "places") [t.d] h=.ok (.ref h.length) (h++[.lst (t.places.map T.d),.lst []]):=by
 rw [Zl hp (by rfl)];obtain ⟨p',q',e⟩:=Zg7 H (h:=h) (E:=t.d) n P.L [t] [] none none (by have:=H.big;unfold T.size at hz;simp;lia) (by unfold T.size at hz;simp;lia);simp at e;simp [Zdm,ZhA,Z7,sizeLine_eq,e]
end Gn
end
section
namespace IV
open PySem L2
section
variable {U:Tb}{S:Ev}{h h1 h2 h3:Hd}
theorem Zko(p:ev U o S h=.ok (.ref i) h1)(l:h1[i]? = some (.lst ys))(q:evs U es S h1=.ok xs h2)(e:ZaY m (.ref i) xs h2=r):ev U (.meth m o es) S h=r:=by rw [ZnV,p,Zd,Zbp l,if_pos rfl,q];exact e
theorem Zhm(q:ev U e S h=.ok d h1):xs1 U (.drp e) S h=.ok (.nx,S) h1:=by rw [Zmy,q];rfl
theorem ZjB(p:ev U o S h=.ok (.ref i) h1)(l:h1[i]? = some (.ins C fs))(f:fs.lookup m=none)(q:evs U es S h1=.ok xs h2)(e:U.C (mnm C m) (.ref i::xs) h2=r):ev U (.mcl C m o es) S h=r:=by
 rw [Zqz,p,Zd,show Zai (.ref i) h1=some (C,fs) by simp [Zai,l]];simp only [f,and_self,if_true,q];exact e
theorem Zfa(p:evi U it S h=.ok w h1)(q:ZM w.src g (tsto U c) (ev U e) w.xs (Zdr js S) [] h1=.ok xs h2):ev U (.comp NC js it g c e) S h=.ok (.ref h2.length) (h2++[.lst xs]):=by rw [ZjE,p,Zd,q];rfl
theorem Zix(p:ev U e S h=.ok (.tup xs) h1):evi U (.pl e) S h=.ok ⟨[],xs⟩ h1:=by rw [Ziy,p];rfl
theorem ZsN(p:evs U es S h=.ok xs h1)(hz:xs.length<=1000):ev U (.lstl es) S h=.ok (.ref h1.length) (h1++[.lst xs]):=by rw [ZjC,p,Zd,if_pos (OE hz (by decide))];rfl
theorem Zfb(p:evs U es S h=.ok xs h1)(q:Za9 U.GD f xs h1=r):ev U (.blt f es) S h=r:=by rw [ZqB,p];exact q
theorem ZlJ(e:h[i]? = some (.lst ys)):Za9 GD .len [.ref i] h=.ok (.int ys.length) h:=by simp only [Za9,ZhM,seqOf,lstOf,e];rfl
theorem Zor(e:h[i]? = some (.lst ys)):Za9 GD .tup [.ref i] h=.ok (.tup ys) h:=by simp only [Za9,Zmm,lstOf,e];rfl
theorem ZiX(p:ev U e S h=.ok (.ref i) h1)(l:h1[i]? = some (.lst ys)):tst U (.ex e) S h=.ok (!ys.isEmpty) h1:=by rw [ZhS,p,Zd,ZmE l];rfl
theorem Zch(e:test S h=.ok true h1)(q:body S h1=.ok (.nx,ρ1) h2):ZO test body (n+1) S h=ZO test body n ρ1 h2:=by rw [Zba,e,Zd,if_pos rfl,q];rfl
theorem Zef(e:test S h=.ok false h1):ZO test body (n+1) S h=.ok (.nx,S) h1:=by rw [Zba,e];rfl
theorem Zt5(p:ev U a S h=.ok (.int x) h1)(q:ev U b S h1=.ok (.int y) h2):tst U (.ex (.cmp .Lt a b)) S h=.ok (decide (x<y)) h2:=Zcu (Zy p q)
theorem Ziu(b:Za1 g d S=some ρ1)(q:body ρ1 h=.ok (.nx,ρ2) h2):Z9 [] g body (d::ds) S h=Z9 [] g body ds ρ2 h2:=by rw [Zcp,b];simp only;rw [q];rfl
theorem Zqm(p:ev U e S h=.ok x h1):tst U (.ex (.cmp .IsNot e (.cst .non))) S h=.ok (!decide (x=.non)) h1:=Zcu ((Zy p rfl).trans Zlu)
theorem Zqp(b:Za1 g d S=some ρ1)(q:body ρ1 h=.ok (.rt x,ρ2) h2):Z9 [] g body (d::ds) S h=.ok (.rt x,ρ2) h2:=by rw [Zcp,b];simp only;rw [q];rfl
variable {c:Str}
end
end IV
end
section
set_option tactic.hygienic false
set_option exponentiation.threshold 3000
namespace Gn
open PySem L2 IV
noncomputable def Alk(P:Pg)(f:Str)(fd:Fd):Prop:=∃ ps N,ps.length=fd.ps.length/\N.length=fd.N.length/\P.tb.lookup f=some ⟨ps,N,fd.body⟩
theorem Zi7(e:Alk P f fd)(hl:ds.length=fd.ps.length):run P (n+1) f ds h=Zh (xs2 ⟨P.G,P.GD,run P n,P.L⟩ fd.body (Z7 fd.N ds) h):=by
 obtain ⟨ps,N,h1,h2,e⟩:=e;rw [Zl e (hl.trans h1.symm)];unfold Z7;rw [h2]
noncomputable def big:Int:=1000000000000000000000000000057
noncomputable def mixed(c k:Int):Int:=(c % big * 271828182845904523536028747135+k * k * 314159265358979323846264338327+577215664901532860606512090082) % big
theorem Zkf(c k:Int):0<=mixed c k/\mixed c k<big:=⟨Int.emod_nonneg _ (by decide),Int.emod_lt_of_pos _ (by decide)⟩
theorem Zr(h:-(2 ^ 128)<i)(h2:i<2 ^ 128):i.natAbs<2 ^ 2000:=by
 have:i.natAbs<2 ^ 128:=by lia
 exact Ot this (Nat.pow_le_pow_right (by decide) (by decide))
theorem ZjX(hk:-(2 ^ 60)<k/\k<2 ^ 60):0<=k * k/\k * k<2 ^ 120:=by
 have a:k.natAbs<2 ^ 60:=by lia
 have b:k.natAbs * k.natAbs<2 ^ 60 * 2 ^ 60:=Nat.mul_lt_mul'' a a;have c2:((k.natAbs * k.natAbs:Nat):Int)=k * k:=Int.natAbs_mul_self;rw [<- c2];constructor
 . lia
 . have:((k.natAbs * k.natAbs:Nat):Int)<((2 ^ 60 * 2 ^ 60:Nat):Int):=Int.ofNat_lt.mpr b;exact this
theorem ZeD (H:Alk P (O "_law_mixed") ZS) (n:Nat) (c k:Int) (h:Hd) (hk:-(2 ^ 60)<k/\k<2 ^ 60):run P (n+1) (O "_law_mixed") [.int c,.int k] h=.ok (.int (mixed c k)) h:=by
 rw [Zi7 H rfl];have hp:opB .Pow (.int 10) (.int 30) h=.ok (.int 1000000000000000000000000000000) h:=by
   show (if (0:Int)<=30/\(30:Int)<=1000000/\(10:Int).natAbs<2 ^ 64 then R.ok (D.int (10 ^ (30:Int).toNat)) h else R.bad)=_;rw [if_pos (by decide)];rfl
 have h1:0<=c % 1000000000000000000000000000057/\c % 1000000000000000000000000000057<1000000000000000000000000000057:=⟨Int.emod_nonneg _ (by decide),Int.emod_lt_of_pos _ (by decide)⟩
 have hkk:=ZjX hk;have e1:opB .Mod (.int c) (.int 1000000000000000000000000000057) h=.ok (.int (c % 1000000000000000000000000000057)) h:=ZU (by decide);have e2:opB .Mult (.int (c % 1000000000000000000000000000057)) (.int 271828182845904523536028747135) h=.ok (.int (c % 1000000000000000000000000000057 * 271828182845904523536028747135)) h:=Zbx ⟨Zr (by lia) (by lia),Zr (by decide) (by decide)⟩;have e3:opB .Mult (.int k) (.int k) h=.ok (.int (k * k)) h:=Zbx ⟨Zr (by lia) (by lia),Zr (by lia) (by lia)⟩;have e4:opB .Mult (.int (k * k)) (.int 314159265358979323846264338327) h=.ok (.int (k * k * 314159265358979323846264338327)) h:=Zbx ⟨Zr (by lia) (by lia),Zr (by decide) (by decide)⟩;have e5:opB .Mod (.int (c % 1000000000000000000000000000057 * 271828182845904523536028747135+k * k * 314159265358979323846264338327+577215664901532860606512090082)) (.int 1000000000000000000000000000057) h=.ok (.int (mixed c k)) h:=ZU (by decide);simp [ZS,Zb8,Z7,hp,e1,e2,e3,e4,e5]
noncomputable def Wl(n:Nat)(x:Str):Prop:=PyData.strOk x=true/\x.length<=n
noncomputable def Cl:List Str->T->Prop
 | _,.num n=>0<=n/\n<1000000
 | sc,.name x=>x∈sc
 | sc,.fn x e=>Cl (x::sc) e/\Wl 20 x
 | sc,.rcc f x e=>Cl (x::f::sc) e/\f≠x/\Wl 20 f/\Wl 20 x
 | sc,.call f a=>Cl sc f/\Cl sc a
 | sc,.iff c t e=>Cl sc c/\Cl sc t/\Cl sc e
 | sc,.op _ a b=>Cl sc a/\Cl sc b
noncomputable def Zt:Str:=O "abcdefghijklmnopqrstuvwxyz"
theorem Zg4:Zt.length=26:=by decide +kernel
theorem Zii:PyData.strOk Zt=true:=by decide +kernel
noncomputable def ltr(k:Int):Nat:=Zt.cps.toList.getD k.toNat 0
noncomputable def lt1(k:Int):Str:=⟨#[ltr k]⟩
theorem Zij(k:Int)(h0:0<=k)(h1:k<26):Zcs GD (.str Zt) (.int k) h=.ok (.str (lt1 k)) h/\Wl 1 (lt1 k):=by
 obtain ⟨m,rfl⟩:∃ m:Nat,k=m:=⟨k.toNat,by lia⟩
 have hl:Zt.cps.toList.length=26:=by decide +kernel
 have hm:m<Zt.cps.toList.length:=by lia
 have el:ltr m=Zt.cps.toList[m]:=by
   show Zt.cps.toList.getD (m:Int).toNat 0=_;rw [Int.toNat_natCast,List.getD_eq_getElem?_getD,Og hm];rfl
 have e:atI Zt.cps.toList (m:Int)=some Zt.cps.toList[m]:=by rw [IV.ZdB,Og hm]
 unfold lt1;rw [el];refine ⟨?_,Zly Zii (List.getElem_mem hm),by show (#[Zt.cps.toList[m]]:Array Nat).size<=1;simp⟩;have q:Zcs GD (.str Zt) (.int (m:Int)) h=if Zt.length<=sizeLine then R.ofO ((atI Zt.cps.toList (m:Int)).map fun c=>.str ⟨#[c]⟩) h else .bad:=rfl;rw [q,if_pos (by rw [Zg4,sizeLine_eq];decide),e];rfl
theorem len_cat{x y:Str}:(x++y).length=x.length+y.length:=by
 show (x.cps++y.cps).size=_;rw [Array.size_append];rfl
theorem Zdq{x y:Str}(hx:Wl a x)(hy:Wl b y)(hz:a+b<=1000):opB .Add (.str x) (.str y) h=.ok (.str (x++y)) h/\Wl (a+b) (x++y):=by
 have hl:(x++y).length=x.length+y.length:=len_cat;refine ⟨if_pos (by rw [sizeLine_eq];have:=hx.2;have:=hy.2;lia),ZfS hx.1 hy.1,by rw [hl];have:=hx.2;have:=hy.2;lia⟩
theorem ZlM{U:Tb}:∀ (ks:List Int) (r:Int) (x:Str) (m:Nat) (k:Option D),Wl m x->x.length=m->m+ks.length<=100->∃ r' x' k',Wl (m+ks.length) x'/\x'.length=m+ks.length /\
   Z9 [] (.nm 6) (xs2 U (.cons (.set (.nm 5) (.bin .Add (.var 5) (.ix (.var 1) (.bin .Mod (.var 4) (.cst (.int 26)))))) (.cons (.set (.nm 4) (.bin .FloorDiv (.var 4) (.cst (.int 26)))) .nil))) (ks.map D.int) [a,some (.str Zt),l,p,some (.int r),some (.str x),k,f,sg,wd] h
     = .ok (.nx,[a,some (.str Zt),l,p,some (.int r'),some (.str x'),k',f,sg,wd]) h
 | [],r,x,m,k,hx,hn,hm=>⟨r,x,k,hx,hn,rfl⟩
 | c::cs,r,x,m,k,hx,hn,hm=>by
   obtain ⟨e1,hy⟩:=Zij (GD:=U.GD) (h:=h) (r % 26) (by lia) (by lia);obtain ⟨e2,hxy⟩:=Zdq (h:=h) hx hy (by simp at hm;lia);obtain ⟨r',x',k',h1,h2,e3⟩:=ZlM (U:=U) (h:=h) (a:=a) (l:=l) (p:=p) (f:=f) (sg:=sg) (wd:=wd) cs (r / 26) (x++lt1 (r % 26)) (m+1) (some (.int c)) hxy (by rw [len_cat,hn];rfl) (by simp at hm ⊢;lia);have hcl:m+(c::cs).length=m+1+cs.length:=by rw [Os];lia
   refine ⟨r',x',k',by rw [hcl];exact h1,by rw [hcl];exact h2,?_⟩;have e4:opB .Mod (.int r) (.int 26) h=.ok (.int (r % 26)) h:=ZU (by decide);have e5:opB .FloorDiv (.int r) (.int 26) h=.ok (.int (r / 26)) h:=Zde (by decide);rw [Op,Zcp];simp [e4,e1,e2,e5,e3]
theorem Zpe(x:Str)(l u:Option Int):(StrLaws.sliceText x l u).length<=x.length:=by
 unfold StrLaws.sliceText;split
 . exact Oq _
 . show ((Builtin.Str.strSliceIndices l u 1 x.length).filterMap (x.cps[·]?)).toArray.size<=_;rw [Of];refine OE (List.length_filterMap_le _ _) ?_;unfold Builtin.Str.strSliceIndices;refine PySem.sliceRange_length_le _ _ _ _ (fun _=>?_) (fun z=>absurd (by decide) z);cases l<;>cases u<;>simp<;>lia
theorem Zcj(hx:Wl m x)(hm:m<=1000)(l u:Option Int):ZgX (.str x) l u h=.ok (.str (StrLaws.sliceText x l u)) h/\Wl m (StrLaws.sliceText x l u):=by
 refine ⟨if_pos (by rw [sizeLine_eq];have:=hx.2;lia),Zlw hx.1 (Zey _ _ _),?_⟩;have:=hx.2;have q:(StrLaws.sliceText x l u).length<=x.length:=Zpe x l u
 lia
theorem in4:opC GD .In (.str x) (.tup [.str (O "fn"),.str (O "rec"),.str (O "call"),.str (O "if")]) h=.ok (.bl (decide (x∈[O "fn",O "rec",O "call",O "if"]))) h :=
 Zbw (ss:=[O "fn",O "rec",O "call",O "if"])
theorem len_str(hx:Wl m x)(hm:m<=1000):Za9 GD .len [.str x] h=.ok (.int x.length) h:=by
 show (if x.length<=sizeLine then _ else _)=_;exact if_pos (by rw [sizeLine_eq];have:=hx.2;lia)
theorem Zoz (hx:Wl m x) (hm:m<=1000):opB .Mult (.str (O "q")) (.int x.length) h=.ok (.str (ZdF (O "q") x.length)) h/\Wl m (ZdF (O "q") x.length):=by
 have hq:(O "q").length=1:=by decide +kernel
 have:=hx.2;refine ⟨if_pos ⟨by lia,by lia,by rw [hq];decide⟩,Zlx (by decide +kernel) _,?_⟩;rw [Zdb,hq]
 lia
noncomputable def nmW(b:Str)(l p r c:Int):Str:=if r / 26 % 4=1 then StrLaws.sliceText b none (some (8 - c)) else StrLaws.sliceText b none (some p)++lt1 ((r+5 * c) % 26)++StrLaws.sliceText b (some (p+1)) (some l)
noncomputable def nmQ (w:Str):Str:=if w∈[O "fn",O "rec",O "call",O "if"] then ZdF (O "q") w.length else w
noncomputable def nm(b:Str)(l p r c:Int):Str:=nmQ (nmW b l p r c)
theorem ZlA(hb:Wl 8 b)(l p r c:Int):Wl 20 (nmW b l p r c):=by
 unfold nmW;split
 . have q:=(Zcj (h:=[]) hb (by decide) none (some (8 - c))).2;exact ⟨q.1,by have:=q.2;lia⟩
 . have q1:=(Zcj (h:=[]) hb (by decide) none (some p)).2;have q2:=(Zij (GD:=fun _=>none) (h:=[]) ((r+5 * c) % 26) (by lia) (by lia)).2;have q3:=(Zcj (h:=[]) hb (by decide) (some (p+1)) (some l)).2;have q:=(Zdq (h:=[]) (Zdq (h:=[]) q1 q2 (by decide)).2 q3 (by decide)).2;exact ⟨q.1,by have:=q.2;lia⟩
theorem Zr9(hb:Wl 8 b)(l p r c:Int):Wl 20 (nm b l p r c):=by
 unfold nm nmQ;split
 . exact (Zoz (h:=[]) (ZlA hb l p r c) (by decide)).2
 . exact ZlA hb l p r c
noncomputable def Zp8:Sx:=.set (.nm 8) (.ix (.var 1) (.bin .Mod (.bin .Add (.var 4) (.bin .Mult (.cst (.int 5)) (.var 6))) (.cst (.int 26))))
noncomputable def Zp7:Sx:=.set (.nm 9) (.bin .Add (.bin .Add (.sl (.var 5) none (some (.var 3))) (.var 8)) (.sl (.var 5) (some (.bin .Add (.var 3) (.cst (.int 1)))) (some (.var 2))))
noncomputable def Zp3:Tx:=.ex (.cmp .Eq (.bin .Mod (.bin .FloorDiv (.var 4) (.cst (.int 26))) (.cst (.int 4))) (.cst (.int 1)))
noncomputable def Zsj:Sx:=.set (.nm 9) (.sl (.var 5) none (some (.bin .Sub (.cst (.int 8)) (.var 6))))
noncomputable def Zp2:Exs:=(.cons (.cst (.str (O "fn"))) (.cons (.cst (.str (O "rec"))) (.cons (.cst (.str (O "call"))) (.cons (.cst (.str (O "if"))) .nil))))
noncomputable def Zsk:Sx:=.set (.nm 9) (.bin .Mult (.cst (.str (O "q"))) (.blt .len (.cons (.var 9) .nil)))
noncomputable def Zp5:Sx:=.drp (.meth .app (.var 7) (.cons (.var 9) .nil))
noncomputable def Zp4:Sxs:=.cons (.iff (.ex (.cmp .In (.var 9) (.tupl Zp2))) (.cons Zsk .nil) .nil) (.cons Zp5 .nil)
noncomputable def Zp6:Sxs:=.cons Zp8 (.cons Zp7 (.cons (.iff Zp3 (.cons Zsj .nil) .nil) Zp4))
noncomputable def vn(a:Option D)(l p r:Int)(b:Str)(q:Nat)(k sg wd:Option D):Ev:=[a,some (.str Zt),some (.int l),some (.int p),some (.int r),some (.str b),k,some (.ref q),sg,wd]
theorem ZlI(hw:Wl 20 wd)(hz:ds.length<16777216):xs2 U Zp4 (vn a l p r b h.length k sg (some (.str wd))) (h++[.lst ds])=.ok (.nx,vn a l p r b h.length k sg (some (.str (nmQ wd)))) (h++[.lst (ds++[.str (nmQ wd)])]):=by
 have ap:∀ w:Str,xs1 U Zp5 (vn a l p r b h.length k sg (some (.str w))) (h++[.lst ds])=.ok (.nx,vn a l p r b h.length k sg (some (.str w))) (h++[.lst (ds++[.str w])]):=fun w=>by
   have e:=Zhm (Zko (U:=U) (S:=vn a l p r b h.length k sg (some (.str w))) (o:=.var 7) (es:=.cons (.var 9) .nil) rfl Zcg rfl (ZbV (d:=.str w) (Zcg (h:=h) (x:=.lst ds) (r:=[])) (by rw [sizeLine_eq];exact hz)));rw [show (h++[DO.lst ds]).set h.length (.lst (ds++[.str w]))=h++[.lst (ds++[.str w])] by simp] at e;exact e
 have i4:tst U (.ex (.cmp .In (.var 9) (.tupl Zp2))) (vn a l p r b h.length k sg (some (.str wd))) (h++[.lst ds])=.ok (decide (wd∈[O "fn",O "rec",O "call",O "if"])) (h++[.lst ds]):=Zcu ((Zy (x:=.str wd) rfl (ZaA (xs:=[.str (O "fn"),.str (O "rec"),.str (O "call"),.str (O "if")]) rfl (by decide))).trans in4);unfold nmQ;by_cases hin:wd∈[O "fn",O "rec",O "call",O "if"]
 . rw [if_pos hin];exact (Za ((ZZ (ZV i4 (decide_eq_true hin))).trans ((Za (Zj ((Zo rfl (Zfb rfl (len_str hw (by decide)))).trans (Zoz hw (by decide)).1))).trans rfl))).trans ((Za (ap _)).trans rfl)
 . rw [if_neg hin];exact (Za ((Zab (ZV i4 (decide_eq_false hin))).trans rfl)).trans ((Za (ap _)).trans rfl)
theorem Zsl(hb:Wl 8 b)(hc:0<=c/\c<100)(hz:ds.length<16777216):xs2 U Zp6 (vn a l p r b h.length (some (.int c)) sg wd) (h++[.lst ds])=.ok (.nx,vn a l p r b h.length (some (.int c)) (some (.str (lt1 ((r+5 * c) % 26)))) (some (.str (nm b l p r c)))) (h++[.lst (ds++[.str (nm b l p r c)])]):=by
 obtain ⟨e1,hy⟩:=Zij (GD:=U.GD) (h:=h++[.lst ds]) ((r+5 * c) % 26) (by lia) (by lia);obtain ⟨f1,w1⟩:=Zcj (h:=h++[.lst ds]) hb (by decide) none (some p);obtain ⟨f2,w2⟩:=Zcj (h:=h++[.lst ds]) hb (by decide) (some (p+1)) (some l);obtain ⟨f3,w3⟩:=Zcj (h:=h++[.lst ds]) hb (by decide) none (some (8 - c));obtain ⟨c1,v1⟩:=Zdq (h:=h++[.lst ds]) w1 hy (by decide);obtain ⟨c2,v2⟩:=Zdq (h:=h++[.lst ds]) v1 w2 (by decide);have m5:opB .Mult (.int 5) (.int c) (h++[.lst ds])=.ok (.int (5 * c)) (h++[.lst ds]):=Zbx ⟨Zr (by decide) (by decide),Zr (by lia) (by lia)⟩;unfold nm nmW;generalize lt1 ((r+5 * c) % 26)=y at *;have x8:xs1 U Zp8 (vn a l p r b h.length (some (.int c)) sg wd) (h++[.lst ds])=.ok (.nx,vn a l p r b h.length (some (.int c)) (some (.str y)) wd) (h++[.lst ds]):=Zj ((ZX (x:=.str Zt) rfl ((Zo (x:=.int (r+5 * c)) ((Zo rfl ((Zo rfl rfl).trans m5)).trans rfl) rfl).trans (ZU (by decide)))).trans e1);have g1:ev U (.sl (.var 5) none (some (.var 3))) (vn a l p r b h.length (some (.int c)) (some (.str y)) wd) (h++[.lst ds])=.ok (.str (StrLaws.sliceText b none (some p))) (h++[.lst ds]):=f1;have g2:ev U (.sl (.var 5) (some (.bin .Add (.var 3) (.cst (.int 1)))) (some (.var 2))) (vn a l p r b h.length (some (.int c)) (some (.str y)) wd) (h++[.lst ds])=.ok (.str (StrLaws.sliceText b (some (p+1)) (some l))) (h++[.lst ds]):=f2;have g3:∀ w,ev U (.sl (.var 5) none (some (.bin .Sub (.cst (.int 8)) (.var 6)))) (vn a l p r b h.length (some (.int c)) (some (.str y)) w) (h++[.lst ds])=.ok (.str (StrLaws.sliceText b none (some (8 - c)))) (h++[.lst ds]):=fun _=>f3;have x9:xs1 U Zp7 (vn a l p r b h.length (some (.int c)) (some (.str y)) wd) (h++[.lst ds])=.ok (.nx,vn a l p r b h.length (some (.int c)) (some (.str y)) (some (.str (StrLaws.sliceText b none (some p)++y++StrLaws.sliceText b (some (p+1)) (some l))))) (h++[.lst ds]):=Zj ((Zo ((Zo g1 rfl).trans c1) g2).trans c2);have tt:tst U Zp3 (vn a l p r b h.length (some (.int c)) (some (.str y)) (some (.str (StrLaws.sliceText b none (some p)++y++StrLaws.sliceText b (some (p+1)) (some l))))) (h++[.lst ds])=.ok (decide (r / 26 % 4=1)) (h++[.lst ds]):=Zum ((Zo (x:=.int (r / 26)) ((Zo rfl rfl).trans (Zde (by decide))) rfl).trans (ZU (by decide))) rfl;refine (Za x8).trans ((Za x9).trans ?_);by_cases hr:r / 26 % 4=1
 . rw [if_pos hr];exact (Za ((ZZ (ZV tt (decide_eq_true hr))).trans ((Za (Zj (g3 _))).trans rfl))).trans (ZlI ⟨w3.1,by have:=w3.2;lia⟩ hz)
 . rw [if_neg hr];exact (Za ((Zab (ZV tt (decide_eq_false hr))).trans rfl)).trans (ZlI ⟨v2.1,by have:=v2.2;lia⟩ hz)
theorem Zjt(hb:Wl 8 b):∀ (ks:List Int) (fo:List Str) (k sg wd:Option D),fo.length+ks.length<=100->(∀ c∈ks,0<=c/\c<100)->∃ k' sg' wd',
   Z9 [] (.nm 6) (xs2 U Zp6) (ks.map D.int) (vn a l p r b h.length k sg wd) (h++[.lst (fo.map .str)])
     = .ok (.nx,vn a l p r b h.length k' sg' wd') (h++[.lst ((fo++ks.map (nm b l p r)).map .str)])
 | [],fo,k,sg,wd,h2,h3=>⟨k,sg,wd,by rw [Oy,Oy,List.append_nil];rfl⟩
 | c::cs,fo,k,sg,wd,h2,h3=>by
   rw [Os] at h2;obtain ⟨k',sg',wd',e3⟩:=Zjt (U:=U) (h:=h) (a:=a) (l:=l) (p:=p) (r:=r) hb cs (fo++[nm b l p r c]) (some (.int c)) (some (.str (lt1 ((r+5 * c) % 26)))) (some (.str (nm b l p r c))) (by rw [OA,List.length_singleton];lia) (fun z hz=>h3 z (.tail _ hz));refine ⟨k',sg',wd',(Ziu rfl (Zsl hb (h3 c (.head _)) (by rw [List.length_map];lia))).trans ?_⟩;rw [List.map_append,Oz] at e3;exact e3
theorem Zqb:∀ k∈[[102,110],[114,101,99],[99,97,108,108],[105,102]],∀ l∈[[102,110],[114,101,99],[99,97,108,108],[105,102],List.replicate k.length 113],k=l\/k.length≠l.length\/∀ i,i<4->∃ j,j<4/\j≠i/\k[j]?≠l[j]? := by decide +kernel
theorem Zjv(ne:x≠y)(a:List Nat)(h:a++x::b∈[[102,110],[114,101,99],[99,97,108,108],[105,102]]):a++y::b ∉ [[102,110],[114,101,99],[99,97,108,108],[105,102]]/\a++y::b≠List.replicate (a++x::b).length 113:=by
 have l4:(a++x::b).length<=4:=by
   have:∀ k∈[[102,110],[114,101,99],[99,97,108,108],[105,102]],k.length<=4:=by decide
   exact this _ h
 have sl:(a++x::b).length=(a++y::b).length:=by simp
 have no:∀ l∈[[102,110],[114,101,99],[99,97,108,108],[105,102],List.replicate (a++x::b).length 113],a++y::b≠l:=fun l hl e=>by
   rcases Zqb _ h l hl with q|q|q
   . rw [<- e] at q;exact ne (List.cons.inj (List.append_cancel_left q)).1
   . exact q (by rw [<- e];exact sl)
   . obtain ⟨j,_,nj,d⟩:=q a.length (by simp at l4;lia);rw [<- e] at d;rcases Nat.lt_or_ge j a.length with z|z
     . exact d (by rw [Oe z,Oe z])
     . rw [Om z,Om z] at d;obtain ⟨m,hm⟩:∃ m,j - a.length=m+1:=⟨j - a.length - 1,by lia⟩
       rw [hm] at d;exact d rfl
 refine ⟨fun m=>no _ (List.mem_append_left [List.replicate (a++x::b).length 113] m) rfl,no _ (Ov [[102,110],[114,101,99],[99,97,108,108],[105,102]] (Ox.mpr rfl))⟩
theorem ZlN:w∈[O "fn",O "rec",O "call",O "if"]↔w.cps.toList∈[[102,110],[114,101,99],[99,97,108,108],[105,102]]:=by
 have e:[[102,110],[114,101,99],[99,97,108,108],[105,102]]=[O "fn",O "rec",O "call",O "if"].map (·.cps.toList):=by decide +kernel
 rw [e];refine ⟨fun h=>List.mem_map_of_mem h,fun h=>?_⟩;obtain ⟨v,hv,q⟩:=List.mem_map.mp h;have:v=w:=by
   obtain ⟨⟨v⟩⟩:=v;obtain ⟨⟨w⟩⟩:=w;cases q;rfl
 exact this ▸ hv
theorem ZgS:∀ n,(ZdF (O "q") n).cps.toList=List.replicate n 113
 | n=>by
   have:∀ (n:Nat) (a:Array Nat),((List.replicate n (O "q").cps).foldl (·++·) a).toList=a.toList++List.replicate n 113:=by
     intro n;induction n with
     | zero=>intro a;simp
     | succ n ih=>intro a;rw [List.replicate_succ,List.foldl_cons,ih,Array.toList_append,Oz,List.replicate_succ];rfl
   have q:=this n #[];simpa [ZdF] using q
theorem nq(hv:v.cps.toList=a++x::b)(hw:w.cps.toList=a++y::b)(ne:x≠y):nmQ v≠nmQ w:=by
 have hl:v.length=(a++x::b).length/\w.length=(a++y::b).length:=by rw [<- hv,<- hw];exact ⟨by simp [Str.length],by simp [Str.length]⟩
 unfold nmQ;intro e;have e':=congrArg (·.cps.toList) e;simp only [ZlN] at e';split at e'
 . rename_i kv;rw [hv] at kv;obtain ⟨k1,k2⟩:=Zjv ne a kv;rw [if_neg (by rw [hw];exact k1),ZgS,hw,hl.1] at e';exact k2 e'.symm
 . split at e'
   . rename_i kw;rw [hw] at kw;obtain ⟨k1,k2⟩:=Zjv (Ne.symm ne) a kw;rw [ZgS,hv,hl.2] at e';exact k2 e'
   . rw [hv,hw] at e';have:=List.append_cancel_left e';exact ne (List.cons.inj this).1
theorem Zjm(w:Str):(nmQ w).length=w.length:=by
 unfold nmQ;split
 . rw [Zdb,show (O "q").length=1 by decide +kernel,Nat.mul_one]
 . rfl
theorem ZnC:∀ i j:Fin 26,ltr (i.val:Int)=ltr (j.val:Int)->i=j:=by decide +kernel
theorem Zsa(hb:b.length=8)(hc:0<=c/\c<5)(hd:0<=d/\d<5)(ne:c≠d):nm b l p r c≠nm b l p r d:=by
 unfold nm nmW;split
 . intro e;have e':=congrArg Str.length e;have len:∀ z:Int,0<=z/\z<5->(StrLaws.sliceText b none (some (8 - z))).length=(8 - z).toNat:=fun z hz=>by
     have h8:b.cps.toList.length=8:=by simpa [Str.length] using hb
     rw [StrLaws.sliceText_to ⟨by lia,by lia⟩];show (List.take (8 - z - 0).toNat (List.drop 0 b.cps.toList)).toArray.size=_;rw [Of,List.length_take,List.drop_zero,h8]
     lia
   rw [Zjm,Zjm,len c hc,len d hd] at e'
   lia
 . refine nq (a:=(StrLaws.sliceText b none (some p)).cps.toList) (b:=(StrLaws.sliceText b (some (p+1)) (some l)).cps.toList) (x:=ltr ((r+5 * c) % 26)) (y:=ltr ((r+5 * d) % 26)) ?_ ?_ ?_
   . show (_++#[ltr ((r+5 * c) % 26)]++_:Array Nat).toList=_;simp
   . show (_++#[ltr ((r+5 * d) % 26)]++_:Array Nat).toList=_;simp
   . intro e;have q:=ZnC ⟨((r+5 * c) % 26).toNat,by lia⟩ ⟨((r+5 * d) % 26).toNat,by lia⟩ (by
       show ltr (((r+5 * c) % 26).toNat:Int)=ltr (((r+5 * d) % 26).toNat:Int);rw [Int.toNat_of_nonneg (by lia),Int.toNat_of_nonneg (by lia)];exact e)
     have q:=Fin.mk.inj q
     lia
theorem Zlz(hb:b.length=8):(([0,1,2,3,4]:List Int).map (nm b l p r)).Nodup:=by
 refine List.pairwise_map.mpr (List.Pairwise.imp_of_mem (R:=fun x y=>x≠y) (fun {x y} hx hy ne=>Zsa hb ?_ ?_ ne) (by decide))
 . simp at hx;lia
 . simp at hy;lia
theorem ZmP (H:Alk P (O "_law_names") ZR) (n:Nat) (v:Int) (h:Hd):∃ ns:List Str,ns.length=5/\(∀ x∈ns,Wl 20 x)/\ns.Nodup/\run P (n+1) (O "_law_names") [.int v] h=.ok (.ref h.length) (h++[.lst (ns.map .str)]):=by
 rw [Zi7 H rfl];have u8:Z6 0 8=[0,1,2,3,4,5,6,7].map D.int:=by rfl
 have u5:Z6 0 5=[0,1,2,3,4].map D.int:=by rfl
 have m8:opB .Mod (.int v) (.int 8) h=.ok (.int (v % 8)) h:=ZU (by decide);have d8:opB .FloorDiv (.int v) (.int 8) h=.ok (.int (v / 8)) h:=Zde (by decide);have mp:opB .Mod (.int (v / 8)) (.int (1+v % 8)) h=.ok (.int (v / 8 % (1+v % 8))) h:=ZU (by lia);have d64:opB .FloorDiv (.int v) (.int 64) h=.ok (.int (v / 64)) h:=Zde (by decide);obtain ⟨r',b,k',hb,hb8,e1⟩:=ZlM (U:=⟨P.G,P.GD,run P n,P.L⟩) (h:=h) (a:=some (.int v)) (l:=some (.int (1+v % 8))) (p:=some (.int (v / 8 % (1+v % 8)))) (f:=none) (sg:=none) (wd:=none) [0,1,2,3,4,5,6,7] (v / 64) (O "") 0 none ⟨by decide +kernel,by decide +kernel⟩ (by decide +kernel) (by decide);obtain ⟨k2,sg',wd',e2⟩:=Zjt (U:=⟨P.G,P.GD,run P n,P.L⟩) (h:=h) (a:=some (.int v)) (l:=1+v % 8) (p:=v / 8 % (1+v % 8)) (r:=r') hb [0,1,2,3,4] [] k' none none (by decide) (by decide);refine ⟨[0,1,2,3,4].map (nm b (1+v % 8) (v / 8 % (1+v % 8)) r'),rfl,fun x hx=>?_,Zlz hb8,?_⟩
 . obtain ⟨c,_,rfl⟩:=List.mem_map.mp hx;exact Zr9 hb _ _ _ _
 generalize nm b (1+v % 8) (v / 8 % (1+v % 8)) r'=F at e2 ⊢;simp only [Oy,OB] at e2;have s8:ZaR 8=true:=by decide
 have s5:ZaR 5=true:=by decide
 unfold Zt at e1;unfold vn Zp6 Zp4 Zp8 Zp7 Zp3 Zsj Zp2 Zsk Zp5 Zt at e2;rw [<- u8] at e1;rw [<- u5] at e2
 try simp at e1
 try simp at e2
 simp [ZR,Zb7,Z7,m8,d8,mp,d64,s8,s5,e1,e2,sizeLine_eq]
end Gn
end
section
set_option tactic.hygienic false
namespace Gn
open PySem L2 IV
variable {P:Pg}{cs:List Int}{ns:List Str}{h h':Hd}{i j m k:Nat}{sc:Scp}{a b a' b':Int}
theorem Cl.mono{sc sc':List Str}:∀ {t:T},(∀ x∈sc,x∈sc')->Cl sc t->Cl sc' t
 | .num n,_,c=>c
 | .name x,s,c=>s x c
 | .fn x e,s,c=>⟨Cl.mono (t:=e) (fun y hy=>by
     rcases O2.mp hy with z|z
     . rw [z];exact Oi
     . exact Oh _ (s y z)) c.1,c.2⟩
 | .rcc f x e,s,c=>⟨Cl.mono (t:=e) (fun y hy=>by
     rcases O2.mp hy with z|z
     . rw [z];exact Oi
     . rcases O2.mp z with q|q
       . rw [q];exact Oh _ Oi
       . exact Oh _ (Oh _ (s y q))) c.1,c.2⟩
 | .call f e,s,c=>⟨Cl.mono s c.1,Cl.mono s c.2⟩
 | .iff p q r,s,c=>⟨Cl.mono s c.1,Cl.mono s c.2.1,Cl.mono s c.2.2⟩
 | .op w p q,s,c=>⟨Cl.mono s c.1,Cl.mono s c.2⟩
end Gn
end
section
set_option tactic.hygienic false
namespace Gn
open PySem L2 IV
variable {P:Pg}{cs:List Int}{ns:List Str}{h h':Hd}{i j m:Nat}{a b:Int}
theorem ZrG(zs:List Int)(st:Int)(hz:zs.length<=100):∃ ys:List Int,ys.length<=100/\∀ h:Hd,ZgX (.ro (zs.map D.int)) (some st) none h=.ok (.ref h.length) (h++[.lst (ys.map .int)]):=by
 refine ⟨(zs.drop (HT.sIx zs.length 0 (some st))).take (HT.sIx zs.length zs.length none - HT.sIx zs.length 0 (some st)),?_,fun h=>?_⟩
 . rw [List.length_take,List.length_drop]
   lia
 . show Zay (.lst (cutD (zs.map D.int) (some st) none)) h=_;simp [cutD,List.map_drop,List.map_take]
end Gn
end
section
namespace Rw
open PySem L2 IV Gn
noncomputable def Zv:Sxs:=(.cons (.iff (.ors (.cons (.ex (.cmp .NotEq (.ix (.var 1) (.cst (.int 0))) (.cst (.str (O "num"))))) (.one (.ex (.cmp .NotEq (.ix (.var 2) (.cst (.int 0))) (.cst (.str (O "num")))))))) (.cons (.ret (.cst .non)) .nil) .nil) (.cons (.iff (.ex (.cmp .Eq (.var 0) (.cst (.str (O "<"))))) (.cons (.ret (.tupl (.cons (.cst (.str (O "num"))) (.cons (.ite (.ex (.cmp .Lt (.ix (.var 1) (.cst (.int 1))) (.ix (.var 2) (.cst (.int 1))))) (.cst (.int 1)) (.cst (.int 0))) .nil)))) .nil) .nil) (.cons (.iff (.ex (.cmp .Eq (.var 0) (.cst (.str (O "+"))))) (.cons (.ret (.tupl (.cons (.cst (.str (O "num"))) (.cons (.bin .Mod (.bin .Add (.ix (.var 1) (.cst (.int 1))) (.ix (.var 2) (.cst (.int 1)))) (.glo (O "BEYOND"))) .nil)))) .nil) .nil) (.cons (.iff (.ex (.cmp .Eq (.var 0) (.cst (.str (O "-"))))) (.cons (.ret (.tupl (.cons (.cst (.str (O "num"))) (.cons (.bin .Mod (.bin .Sub (.ix (.var 1) (.cst (.int 1))) (.ix (.var 2) (.cst (.int 1)))) (.glo (O "BEYOND"))) .nil)))) .nil) .nil) (.cons (.ret (.tupl (.cons (.cst (.str (O "num"))) (.cons (.bin .Mod (.bin .Mult (.ix (.var 1) (.cst (.int 1))) (.ix (.var 2) (.cst (.int 1)))) (.glo (O "BEYOND"))) .nil)))) .nil)))))
noncomputable def Zdl:Fd:=⟨[(O "word"),(O "first"),(O "second")],[(O "word"),(O "first"),(O "second")],Zv⟩
variable {P:Pg}{h:Hd}
noncomputable def wk(w:Wd)(a b:Int):Int:=match w with
 | .lt=>if a<b then 1 else 0
 | .add=>(a+b) % 1000000
 | .sub=>(a - b) % 1000000
 | .mul=>a * b % 1000000
theorem worked_nn (hw:P.tb.lookup (O "worked")=some Zdl) (hb:P.G (O "BEYOND")=some (.int 1000000)) (n:Nat) (w:Wd) (hx:0<=x/\x<1000000) (hy:0<=y/\y<1000000):run P (n+1) (O "worked") [.str w.s,(T.num x).d,(T.num y).d] h=.ok (T.num (wk w x y)).d h:=by
 rw [Zl hw (by rfl)];have gb:∀ S,ev (P.tbl n) (.glo (O "BEYOND")) S h=.ok (.int 1000000) h:=fun S=>by
   show R.ofO (P.G (O "BEYOND")) h=_;rw [hb];rfl
 have m2:opB .Mult (.int x) (.int y) h=.ok (.int (x * y)) h:=Zbx ⟨Zr (by lia) (by lia),Zr (by lia) (by lia)⟩;have fin:∀ (S:Ev) (e:Ex) (z:Int),ev (P.tbl n) e S h=.ok (.int z) h->xs1 (P.tbl n) (.ret (.tupl (.cons (.cst (.str (O "num"))) (.cons (.bin .Mod e (.glo (O "BEYOND"))) .nil)))) S h=.ok (.rt (T.num (z % 1000000)).d,S) h:=fun S e z q =>
   Zs (ZaA (Zb rfl (Zb ((Zo q (gb S)).trans (ZU (by decide))) rfl)) (by simp))
 show Zh (xs2 (P.tbl n) Zv [some (.str w.s),some (T.num x).d,some (T.num y).d] h)=_;rw [nx1 (U:=P.tbl n) (ss:=Zv) (ρ1:=[some (.str w.s),some (T.num x).d,some (T.num y).d]) (h2:=h) rfl rfl];cases w with
 | lt=>by_cases e:x<y<;>simp [Zv,tlS,T.d,Wd.s,wk,e,sizeLine_eq]
 | add =>
   rw [nx1 (U:=P.tbl n) (ss:=tlS Zv) (ρ1:=[some (.str Wd.add.s),some (T.num x).d,some (T.num y).d]) (h2:=h) rfl rfl];exact rt1 (U:=P.tbl n) (ss:=tlS (tlS Zv)) ((ZZ rfl).trans (Zc (fin _ _ (x+y) rfl))) rfl
 | sub =>
   rw [nx1 (U:=P.tbl n) (ss:=tlS Zv) (ρ1:=[some (.str Wd.sub.s),some (T.num x).d,some (T.num y).d]) (h2:=h) rfl rfl,nx1 (U:=P.tbl n) (ss:=tlS (tlS Zv)) (ρ1:=[some (.str Wd.sub.s),some (T.num x).d,some (T.num y).d]) (h2:=h) rfl rfl];exact rt1 (U:=P.tbl n) (ss:=tlS (tlS (tlS Zv))) ((ZZ rfl).trans (Zc (fin _ _ (x - y) rfl))) rfl
 | mul =>
   rw [nx1 (U:=P.tbl n) (ss:=tlS Zv) (ρ1:=[some (.str Wd.mul.s),some (T.num x).d,some (T.num y).d]) (h2:=h) rfl rfl,nx1 (U:=P.tbl n) (ss:=tlS (tlS Zv)) (ρ1:=[some (.str Wd.mul.s),some (T.num x).d,some (T.num y).d]) (h2:=h) rfl rfl,nx1 (U:=P.tbl n) (ss:=tlS (tlS (tlS Zv))) (ρ1:=[some (.str Wd.mul.s),some (T.num x).d,some (T.num y).d]) (h2:=h) rfl rfl];exact rt1 (U:=P.tbl n) (ss:=tlS (tlS (tlS (tlS Zv)))) (fin _ _ (x * y) m2) rfl
end Rw
end
section
namespace Rw
open PySem L2 IV Gn
theorem wk_ok(w:Wd)(a b:Int):0<=wk w a b/\wk w a b<1000000:=by
 cases w<;>simp only [wk]
 . lia
 . lia
 . exact ⟨Int.emod_nonneg _ (by decide),Int.emod_lt_of_pos _ (by decide)⟩
 . split<;>lia
end Rw
end
section
namespace Tm
open PySem L2 IV
noncomputable def Z1:Sxs:=(.cons (.iff (.ex (.cmp .NotIn (.ix (.var 0) (.cst (.int 0))) (.glo (O "FORMS")))) (.cons (.ret (.tupl .nil)) .nil) .nil) (.cons (.ret (.sl (.var 0) (some (.cst (.int 1))) (some (.bin .Add (.cst (.int 1)) (.ix (.ix (.glo (O "FORMS")) (.ix (.var 0) (.cst (.int 0)))) (.cst (.int 0))))))) .nil))
noncomputable def ZcO:Fd:=⟨[(O "E")],[(O "E")],Z1⟩
noncomputable def Za3:Sxs:=(.cons (.iff (.ex (.cmp .NotIn (.ix (.var 0) (.cst (.int 0))) (.glo (O "FORMS")))) (.cons (.ret (.var 0)) .nil) .nil) (.cons (.ret (.sl (.var 0) none (some (.bin .Add (.cst (.int 1)) (.ix (.ix (.glo (O "FORMS")) (.ix (.var 0) (.cst (.int 0)))) (.cst (.int 0))))))) .nil))
noncomputable def Ze7:Fd:=⟨[(O "E")],[(O "E")],Za3⟩
noncomputable def Zfq:Sxs:=(.cons (.ret (.cmp .In (.ix (.var 0) (.cst (.int 0))) (.glo (O "VALUES")))) .nil)
noncomputable def Ze5:Fd:=⟨[(O "E")],[(O "E")],Zfq⟩
noncomputable def Zas:Sxs:=(.cons (.iff (.ex (.cmp .Eq (.ix (.var 0) (.cst (.int 0))) (.cst (.str (O "if"))))) (.cons (.ret (.sl (.var 0) (some (.cst (.int 1))) (some (.cst (.int 2))))) .nil) .nil) (.cons (.ret (.call (O "parts_of") (.cons (.var 0) .nil))) .nil))
noncomputable def ZcM:Fd:=⟨[(O "E")],[(O "E")],Zas⟩
noncomputable def ZhG:Sxs:=(.cons (.iff (.ex (.cmp .NotEq (.ix (.var 0) (.cst (.int 0))) (.cst (.str (O "num"))))) (.cons (.ret (.cst .non)) .nil) .nil) (.cons (.ret (.ite (.ex (.cmp .Eq (.ix (.var 0) (.cst (.int 1))) (.cst (.int 0)))) (.var 2) (.var 1))) .nil))
noncomputable def Ze8:Fd:=⟨[(O "C"),(O "T"),(O "E")],[(O "C"),(O "T"),(O "E")],ZhG⟩
noncomputable def Zfo:Sx:=(.iff (.ors (.cons (.ex (.cmp .NotEq (.ix (.var 1) (.cst (.int 0))) (.cst (.str (O "num"))))) (.one (.ex (.cmp .NotEq (.ix (.var 2) (.cst (.int 0))) (.cst (.str (O "num")))))))) (.cons (.ret (.cst .non)) .nil) .nil)
noncomputable def ZiK:Sx:=(.iff (.ex (.cmp .Eq (.var 0) (.cst (.str (O "<"))))) (.cons (.ret (.tupl (.cons (.cst (.str (O "num"))) (.cons (.ite (.ex (.cmp .Lt (.ix (.var 1) (.cst (.int 1))) (.ix (.var 2) (.cst (.int 1))))) (.cst (.int 1)) (.cst (.int 0))) .nil)))) .nil) .nil)
noncomputable def ZiJ:Sx:=(.iff (.ex (.cmp .Eq (.var 0) (.cst (.str (O "+"))))) (.cons (.ret (.tupl (.cons (.cst (.str (O "num"))) (.cons (.bin .Mod (.bin .Add (.ix (.var 1) (.cst (.int 1))) (.ix (.var 2) (.cst (.int 1)))) (.glo (O "BEYOND"))) .nil)))) .nil) .nil)
noncomputable def ZiI:Sx:=(.iff (.ex (.cmp .Eq (.var 0) (.cst (.str (O "-"))))) (.cons (.ret (.tupl (.cons (.cst (.str (O "num"))) (.cons (.bin .Mod (.bin .Sub (.ix (.var 1) (.cst (.int 1))) (.ix (.var 2) (.cst (.int 1)))) (.glo (O "BEYOND"))) .nil)))) .nil) .nil)
noncomputable def ZiH:Sx:=(.ret (.tupl (.cons (.cst (.str (O "num"))) (.cons (.bin .Mod (.bin .Mult (.ix (.var 1) (.cst (.int 1))) (.ix (.var 2) (.cst (.int 1)))) (.glo (O "BEYOND"))) .nil))))
noncomputable def Zv:Sxs:=(.cons Zfo (.cons ZiK (.cons ZiJ (.cons ZiI (.cons ZiH .nil)))))
noncomputable def Zdl:Fd:=⟨[(O "word"),(O "first"),(O "second")],[(O "word"),(O "first"),(O "second")],Zv⟩
end Tm
end
section
namespace Tm
open PySem L2 IV
variable {P:Pg}{h:Hd}
section
variable {w:Wd}
@[simp] theorem ZuI:(w.s=O "if")↔False:=by cases w<;>simp [Wd.s]
@[simp] theorem Zc7:ZE Gn.Zb2 (.inr w.s)=some (.tup [.int 0,.int 2]):=by cases w<;>rfl
end
noncomputable def bnd:T->List Str
 | .fn x _=>[x]
 | .rcc f x _=>[f,x]
 | _=>[]
noncomputable def fr:T->List D
 | .num n=>[.str (O "num"),.int n]
 | .name x=>[.str (O "name"),.str x]
 | .fn x _=>[.str (O "fn"),.str x]
 | .rcc f x _=>[.str (O "rec"),.str f,.str x]
 | .call _ _=>[.str (O "call")]
 | .iff _ _ _=>[.str (O "if")]
 | .op w _ _=>[.str w.s]
noncomputable abbrev Ar:=List (Str×Option T)
noncomputable def get:Ar->Str->Option T
 | [],_=>none
 | (y,v)::r,x=>if y=x then v else get r x
noncomputable def ZpY(ar:Ar):T->Option T
 | .name x=>get ar x
 | _=>none
noncomputable def inn(t:T)(ar:Ar):Ar:=(bnd t).map (fun x=>(x,none))++ar
end Tm
end
section
namespace Tm
open PySem L2 IV
variable {P:Pg}
noncomputable def sub:Ar->T->T
 | _,.num n=>.num n
 | ar,.name x=>(get ar x).getD (.name x)
 | ar,.fn x e=>.fn x (sub ((x,none)::ar) e)
 | ar,.rcc f x e=>.rcc f x (sub ((f,none)::(x,none)::ar) e)
 | ar,.call f a=>.call (sub ar f) (sub ar a)
 | ar,.iff c t e=>.iff (sub ar c) (sub ar t) (sub ar e)
 | ar,.op w a b=>.op w (sub ar a) (sub ar b)
theorem ZJ(t:T):t.size=1+(t.parts.map T.size).sum:=by
 unfold T.size;rw [T.places_parts];simp only [Os,List.length_flatMap]
 lia
theorem ZP(t:T):1<=t.size:=by rw [ZJ];lia
theorem ZjW(t:T)(ar:Ar)(h:ZpY ar t=none):(sub ar t).parts=t.parts.map (sub (inn t ar))/\fr (sub ar t)=fr t:=by
 cases t with
 | name x=>rw [sub,show get ar x=none from h];exact ⟨rfl,rfl⟩
 | _=>exact ⟨rfl,rfl⟩
end Tm
namespace Tm
open PySem L2 IV
variable {P:Pg}
theorem Zw{h:Hd}(e:h[i]? = some o):i<h.length:=(Ob.mp e).1
theorem keep{h:Hd}{i:Nat}{g:Hd}(e:h[i]? = some o):(h++g)[i]? = some o:=by
 rw [Oe (Zw e)];exact e
structure B_(h0 h:Hd)(fk dk:Nat)(fs ds:List D):Prop where
 f:h[fk]? = some (.lst fs)
 d:h[dk]? = some (.lst ds)
 ne:dk≠fk
 o1:h0.length<=dk
 ol:h0.length<=h.length
 old:∀ i,i<h0.length->h[i]? = h0[i]?
theorem B_.set{h0 h:Hd}(b:B_ h0 h fk dk fs ds)(es:List D):B_ h0 (h.set dk (.lst es)) fk dk fs es :=
 ⟨by rw [Oc b.ne];exact b.f,by rw [Ol (Zw b.d)],b.ne,b.o1,by simpa using b.ol,fun i hi=>by rw [Oc (by have:=b.o1;lia)];exact b.old i hi⟩
theorem B_.app{h0 h g:Hd}{fk dk:Nat}{fs ds:List D}(b:B_ h0 h fk dk fs ds):B_ h0 (h++g) fk dk fs ds :=
 ⟨keep b.f,keep b.d,b.ne,b.o1,by have:=b.ol;simp;lia,fun i hi=>by rw [Oe (by have:=b.ol;lia)];exact b.old i hi⟩
theorem ZoN:∀ (ks xs D0 acc:List D) (h:Hd),ks.length=xs.length->acc.length+xs.length<=1000->B_ h0 h fk dk fs (D0++xs.reverse)->∃ h',
   ZM [] (.nm 0) (tsto U none) (ev U (.meth .pop (.var 1) .nil)) ks [none,some (.ref dk)] acc h=.ok (acc++xs) h'/\B_ h0 h' fk dk fs D0
 | [],[],D0,acc,h,_,_,b=>⟨h,by simp [ZM,Wk.stays],by simpa using b⟩
 | [],_::_,_,_,_,e,_,_=>by cases e
 | _::_,[],_,_,_,e,_,_=>by cases e
 | k::ks,x::xs,D0,acc,h,e,hz,b=>by
   have b1:B_ h0 h fk dk fs ((D0++xs.reverse)++[x]):=by simpa using b
   obtain ⟨h',q,b2⟩:=ZoN (U:=U) ks xs D0 (acc++[x]) _ (by simpa using e) (by simp at hz ⊢;lia) (b1.set (D0++xs.reverse));refine ⟨h',?_,b2⟩;have pp:=ZeO b1.d;have il:=Zbp b1.d;have hl:acc.length<16777216:=by simp at hz;lia
   rw [ZiD];simp [Wk.stays,hl,sizeLine_eq,il,pp];simpa using q
end Tm
end
section
namespace Tm
open PySem L2 IV
variable {P:Pg}
theorem ZlX(e:h[j]? = some (.lst L))(b:Za1 g d S=some ρ1)(q:body ρ1 h=.ok (.nx,ρ2) h2):Z9 [(j,L)] g body (d::ds) S h=Z9 [(j,L)] g body ds ρ2 h2:=by
 have:Wk.stays [(j,L)] h=true:=by simp [Wk.stays,e]
 rw [Z9,if_pos this,b];simp only;rw [q];rfl
theorem ZlY(e:h[j]? = some (.lst L)):Z9 [(j,L)] g body [] S h=.ok (.nx,S) h:=by
 have:Wk.stays [(j,L)] h=true:=by simp [Wk.stays,e]
 rw [Z9,if_pos this]
end Tm
end
section
namespace Tm
open PySem L2 IV
variable {P:Pg}
noncomputable abbrev Fil:=List (Str×T)
noncomputable def Fil.ar(f:Fil):Ar:=f.map fun p=>(p.1,some p.2)
end Tm
end
section
namespace Tm
open PySem L2 IV
variable {P:Pg}{h:Hd}
noncomputable def isV:T->Bool
 | .num _|.fn _ _|.rcc _ _ _=>true
 | _=>false
theorem ZnJ:opC GD .In (.str x) (.tup [.str (O "num"),.str (O "fn"),.str (O "rec")]) h=.ok (.bl (decide (x=O "num" \/ x=O "fn" \/ x=O "rec"))) h:=by
 have:=@Zbw GD h [O "num",O "fn",O "rec"] x;simpa using this
noncomputable def pth:T->List (T×Nat)
 | .call f a=>if isV f then (if isV a then [] else (.call f a,2)::pth a) else (.call f a,1)::pth f
 | .op w f a=>if isV f then (if isV a then [] else (.op w f a,2)::pth a) else (.op w f a,1)::pth f
 | .iff c t e=>if isV c then [] else (.iff c t e,1)::pth c
 | _=>[]
noncomputable def bot:T->T
 | .call f a=>if isV f then (if isV a then .call f a else bot a) else bot f
 | .op w f a=>if isV f then (if isV a then .op w f a else bot a) else bot f
 | .iff c t e=>if isV c then .iff c t e else bot c
 | t=>t
end Tm
end
section
namespace Tm
open PySem L2 IV
variable {P:Pg}{h:Hd}
noncomputable def ZfQ:T->Nat->T->T
 | .call _ a,1,u=>.call u a
 | .call f _,2,u=>.call f u
 | .op w _ a,1,u=>.op w u a
 | .op w f _,2,u=>.op w f u
 | .iff _ t e,1,u=>.iff u t e
 | s,_,_=>s
noncomputable def Za8:List (T×Nat)->T->T
 | [],u=>u
 | (s,k)::r,u=>ZfQ s k (Za8 r u)
theorem p1c:ZfQ (.call f a) 1 u=.call u a:=rfl
theorem p2c:ZfQ (.call f a) 2 u=.call f u:=rfl
theorem p1o:ZfQ (.op w f a) 1 u=.op w u a:=rfl
theorem p2o:ZfQ (.op w f a) 2 u=.op w f u:=rfl
theorem p1i:ZfQ (.iff c t e) 1 u=.iff u t e:=rfl
end Tm
end
section
namespace Tm
open PySem L2 IV
variable {P:Pg}{h:Hd}
noncomputable def Zl1(f:Str)(F:T)(x:Str)(A:T):Fil:=if f=x then [(x,A)] else [(f,F),(x,A)]
noncomputable def bec:T->Option T
 | .call F A=>match F with
   | .fn x e=>some (sub (Fil.ar [(x,A)]) e)
   | .rcc f x e=>some (sub (Fil.ar (Zl1 f (.rcc f x e) x A)) e)
   | _=>none
 | .iff c t e=>match c with
   | .num z=>some (if z=0 then e else t)
   | _=>none
 | .op w a b=>match a,b with
   | .num a,.num b=>some (.num (_root_.Rw.wk w a b))
   | _,_=>none
 | _=>none
noncomputable def next(t:T):Option T:=(bec (bot t)).map (Za8 (pth t))
noncomputable def Red:T->Prop
 | .call f a=>isV f=true/\isV a=true
 | .op _ f a=>isV f=true/\isV a=true
 | .iff c _ _=>isV c=true
 | _=>False
end Tm
end
section
namespace Tm
open PySem L2 IV
variable {P:Pg}{h:Hd}
noncomputable def Kp(ar:Ar)(sc sc':List Str):Prop:=∀ x∈sc,(∃ V,get ar x=some V/\Gn.Cl [] V)\/(get ar x=none/\x∈sc')
theorem Kp.bind(k:Kp ar sc sc')(y:Str):Kp ((y,none)::ar) (y::sc) (y::sc'):=fun x hx=>by
 unfold get;by_cases e:y=x
 . rw [if_pos e];exact .inr ⟨rfl,by rw [e];exact Oi⟩
 . rw [if_neg e];rcases O2.mp hx with z|z
   . exact absurd z.symm e
   . rcases k x z with q|q
     . exact .inl q
     . exact .inr ⟨q.1,Oh _ q.2⟩
theorem Kp.two(k:Kp ar sc sc')(f x:Str):Kp ((f,none)::(x,none)::ar) (x::f::sc) (x::f::sc'):=fun z hz=>by
 have q:=(k.bind x).bind f z (by simp at hz ⊢;rcases hz with h|h|h<;>simp [h]);rcases q with q|q
 . exact .inl q
 . exact .inr ⟨q.1,by have:=q.2;simp at this ⊢;rcases this with h|h|h<;>simp [h]⟩
theorem Za0:∀ (t:T) {ar:Ar}{sc sc':List Str},Kp ar sc sc'->Gn.Cl sc t->Gn.Cl sc' (sub ar t)
 | .num _,_,_,_,_,c=>c
 | .name x,ar,sc,sc',k,c=>by
   rcases k x c with ⟨V,e,cv⟩|⟨e,m⟩
   . rw [sub,e];exact Gn.Cl.mono (fun y hy=>by cases hy) cv
   . rw [sub,e];exact m
 | .fn x e,_,_,_,k,c=>⟨Za0 e (k.bind x) c.1,c.2⟩
 | .rcc f x e,_,_,_,k,c=>⟨Za0 e (k.two f x) c.1,c.2⟩
 | .call f a,_,_,_,k,c=>⟨Za0 f k c.1,Za0 a k c.2⟩
 | .iff f a b,_,_,_,k,c=>⟨Za0 f k c.1,Za0 a k c.2.1,Za0 b k c.2.2⟩
 | .op _ f a,_,_,_,k,c=>⟨Za0 f k c.1,Za0 a k c.2⟩
theorem zc(f a:T):(T.call f a).size=1+(f.size+a.size):=by rw [ZJ];simp [T.parts]
theorem zo(w:Wd)(f a:T):(T.op w f a).size=1+(f.size+a.size):=by rw [ZJ];simp [T.parts]
theorem zi(f a b:T):(T.iff f a b).size=1+(f.size+(a.size+b.size)):=by rw [ZJ];simp [T.parts]
theorem zf(x:Str)(e:T):(T.fn x e).size=1+e.size:=by rw [ZJ];simp [T.parts]
theorem zr(f x:Str)(e:T):(T.rcc f x e).size=1+e.size:=by rw [ZJ];simp [T.parts]
theorem Zl0{f:Fil}(hc:∀ p∈f,Gn.Cl [] p.2)(sc:List Str)(hk:∀ x∈sc,x∈f.map (·.1)):Kp f.ar sc []:=fun x hx=>by
 have:∀ (f:Fil),(∀ p∈f,Gn.Cl [] p.2)->x∈f.map (·.1)->∃ V,get f.ar x=some V/\Gn.Cl [] V:=by
   intro f;induction f with
   | nil=>intro _ z;cases z
   | cons p r ih =>
     intro hc z;rw [Fil.ar,Op,get];by_cases e:p.1=x
     . rw [if_pos e];exact ⟨p.2,rfl,hc p Oi⟩
     . rw [if_neg e];rw [Op] at z;rcases O2.mp z with q|q
       . exact absurd q.symm e
       . exact ih (fun p hp=>hc p (Oh _ hp)) q
 exact .inl (this f hc (hk x hx))
theorem Zle:∀ (t:T) (u:T),Gn.Cl [] t->Gn.Cl [] u->Gn.Cl [] (Za8 (pth t) u)/\(Za8 (pth t) u).size<=t.size+u.size:=by
 have two:∀ a b c u:Nat,a<=b+u->1+(a+c)<=1+(b+c)+u:=fun a b c u q=>by lia
 have two':∀ a b c u:Nat,a<=b+u->1+(c+a)<=1+(c+b)+u:=fun a b c u q=>by lia
 have z2:=zc;have o2:=zo;have i2:=zi;intro t u;induction t with
 | num _=>exact fun _ cu=>⟨cu,Nat.le_add_left _ _⟩
 | name _=>exact fun _ cu=>⟨cu,Nat.le_add_left _ _⟩
 | fn _ _ _=>exact fun _ cu=>⟨cu,Nat.le_add_left _ _⟩
 | rcc _ _ _ _=>exact fun _ cu=>⟨cu,Nat.le_add_left _ _⟩
 | call f a q1 q2 =>
   intro c cu;cases hf:isV f with
   | false =>
     simp only [pth,hf,Za8,p1c,p2c,p1o,p2o,p1i,OG,if_false];exact ⟨⟨(q1 c.1 cu).1,c.2⟩,by rw [z2,z2];exact two _ _ _ _ (q1 c.1 cu).2⟩
   | true =>
     cases ha:isV a with
     | false =>
       simp only [pth,hf,ha,Za8,p1c,p2c,p1o,p2o,p1i,OG,if_false,if_true];exact ⟨⟨c.1,(q2 c.2 cu).1⟩,by rw [z2,z2];exact two' _ _ _ _ (q2 c.2 cu).2⟩
     | true =>
       simp only [pth,hf,ha,Za8,if_true];exact ⟨cu,Nat.le_add_left _ _⟩
 | op w f a q1 q2 =>
   intro c cu;cases hf:isV f with
   | false =>
     simp only [pth,hf,Za8,p1c,p2c,p1o,p2o,p1i,OG,if_false];exact ⟨⟨(q1 c.1 cu).1,c.2⟩,by rw [o2,o2];exact two _ _ _ _ (q1 c.1 cu).2⟩
   | true =>
     cases ha:isV a with
     | false =>
       simp only [pth,hf,ha,Za8,p1c,p2c,p1o,p2o,p1i,OG,if_false,if_true];exact ⟨⟨c.1,(q2 c.2 cu).1⟩,by rw [o2,o2];exact two' _ _ _ _ (q2 c.2 cu).2⟩
     | true =>
       simp only [pth,hf,ha,Za8,if_true];exact ⟨cu,Nat.le_add_left _ _⟩
 | iff f a b q1 q2 q3 =>
   intro c cu;cases hf:isV f with
   | false =>
     simp only [pth,hf,Za8,p1c,p2c,p1o,p2o,p1i,OG,if_false];exact ⟨⟨(q1 c.1 cu).1,c.2.1,c.2.2⟩,by rw [i2,i2];exact two _ _ _ _ (q1 c.1 cu).2⟩
   | true =>
     simp only [pth,hf,Za8,if_true];exact ⟨cu,Nat.le_add_left _ _⟩
end Tm
end
section
namespace Grf
open PySem L2 IV
noncomputable def ZaB:Sx:=(.set (.nm 1) (.call (O "places") (.cons (.var 0) .nil)))
noncomputable def Z5:Sx:=(.set (.nm 2) (.lstl .nil))
noncomputable def Z4:Sx:=(.set (.nm 3) (.lstl .nil))
noncomputable def Zeb:Ix:=(.rev (.var 1))
noncomputable def Zdx:Sx:=(.set (.nm 5) (.comp [(O "part"),(O "numbers")] [none,some 3] (.pl (.call (O "parts_of") (.cons (.var 4) .nil))) (.nm 0) none (.meth .pop (.var 1) .nil)))
noncomputable def Zdw:Sx:=(.drp (.meth .app (.var 2) (.cons (.bin .Add (.call (O "front_of") (.cons (.var 4) .nil)) (.blt .tup (.cons (.var 5) .nil))) .nil)))
noncomputable def Zdv:Sx:=(.drp (.meth .app (.var 3) (.cons (.bin .Sub (.blt .len (.cons (.var 1) .nil)) (.blt .len (.cons (.var 2) .nil))) .nil)))
noncomputable def Zd9:Sxs:=(.cons Zdx (.cons Zdw (.cons Zdv .nil)))
noncomputable def Z3:Sx:=.forr (.nm 4) Zeb Zd9
noncomputable def Z2:Sx:=(.drp (.meth .rev (.var 2) .nil))
noncomputable def ZbN:Sx:=(.ret (.tupl (.cons (.var 2) (.cons (.cst (.int 0)) .nil))))
noncomputable def ZfD:Sxs:=(.cons ZaB (.cons Z5 (.cons Z4 (.cons Z3 (.cons Z2 (.cons ZbN .nil))))))
noncomputable def ZcN:Fd:=⟨[(O "E")],[(O "E"),(O "told"),(O "cells"),(O "numbers"),(O "place"),(O "parts")],ZfD⟩
noncomputable def Zb0:Ix:=(.pl (.call (O "parts_first") (.cons (.var 1) .nil)))
noncomputable def Zbq:Tx:=(.nt (.ex (.call (O "is_value") (.cons (.ix (.var 0) (.var 2)) .nil))))
noncomputable def Zcv:Sx:=(.ret (.var 2))
noncomputable def ZdH:Sxs:=(.cons Zcv .nil)
noncomputable def ZdS:Sx:=.iff Zbq ZdH .nil
noncomputable def Zag:Sxs:=(.cons ZdS .nil)
noncomputable def Zfu:Sx:=.forr (.nm 2) Zb0 Zag
noncomputable def Zft:Sx:=(.ret (.cst .non))
noncomputable def ZbE:Sxs:=(.cons Zfu (.cons Zft .nil))
noncomputable def Zdo:Fd:=⟨[(O "cells"),(O "cell")],[(O "cells"),(O "cell"),(O "number")],ZbE⟩
noncomputable def ZfC:Sx:=(.set (.nm 2) (.var 1))
noncomputable def ZfB:Sx:=(.set (.nm 3) (.call (O "first_open") (.cons (.var 0) (.cons (.ix (.var 0) (.var 1)) .nil))))
noncomputable def Zbj:Tx:=(.ex (.cmp .IsNot (.var 3) (.cst .non)))
noncomputable def Zed:Sx:=(.set (.nm 2) (.var 3))
noncomputable def Zec:Sx:=(.set (.nm 3) (.call (O "first_open") (.cons (.var 0) (.cons (.ix (.var 0) (.var 2)) .nil))))
noncomputable def ZcK:Sxs:=(.cons Zed (.cons Zec .nil))
noncomputable def ZcS:Sx:=.whl Zbj ZcK
noncomputable def ZfA:Sx:=(.ret (.var 2))
noncomputable def Zd4:Sxs:=(.cons ZfC (.cons ZfB (.cons ZcS (.cons ZfA .nil))))
noncomputable def ZdY:Fd:=⟨[(O "cells"),(O "root")],[(O "cells"),(O "root"),(O "found"),(O "inner")],Zd4⟩
noncomputable def ZhK:Sx:=(.set (.nm 3) (.ix (.var 0) (.var 1)))
noncomputable def ZhJ:Sx:=(.set (.nm 4) (.call (O "bound_names") (.cons (.var 3) .nil)))
noncomputable def ZhI:Sx:=(.set (.nm 5) (.blt .tup (.cons (.comp [(O "name"),(O "bound")] [none,some 4] (.pl (.var 2)) (.nm 0) (some (.ex (.cmp .NotIn (.var 0) (.var 1)))) (.var 0)) .nil)))
noncomputable def ZhH:Sx:=(.ret (.comp [(O "part"),(O "inner")] [none,some 5] (.pl (.call (O "parts_of") (.cons (.var 3) .nil))) (.nm 0) none (.tupl (.cons (.var 0) (.cons (.var 1) .nil)))))
noncomputable def Zf6:Sxs:=(.cons ZhK (.cons ZhJ (.cons ZhI (.cons ZhH .nil))))
noncomputable def ZfY:Fd:=⟨[(O "cells"),(O "number"),(O "names")],[(O "cells"),(O "number"),(O "names"),(O "cell"),(O "bound"),(O "inner")],Zf6⟩
noncomputable def ZgB:Sx:=(.ret (.ands (.cons (.cmp .Eq (.ix (.var 0) (.cst (.int 0))) (.cst (.str (O "name")))) (.cons (.cmp .In (.ix (.var 0) (.cst (.int 1))) (.var 1)) .nil))))
noncomputable def ZbD:Sxs:=(.cons ZgB .nil)
noncomputable def Ze6:Fd:=⟨[(O "cell"),(O "names")],[(O "cell"),(O "names")],ZbD⟩
noncomputable def Zbt:Sx:=(.set (.nm 3) .ndl)
noncomputable def Zbs:Sx:=(.set (.nm 4) (.lstl (.cons (.tupl (.cons (.var 1) (.cons (.var 2) .nil))) .nil)))
noncomputable def Zx:Tx:=(.ex (.var 4))
noncomputable def Za5:Sx:=(.set (.nm 5) (.comp [(O "pair")] [none] (.pl (.call (O "beneath") (.cons (.var 0) (.cons (.ix (.ix (.var 4) (.neg (.cst (.int 1)))) (.cst (.int 0))) (.cons (.ix (.ix (.var 4) (.neg (.cst (.int 1)))) (.cst (.int 1))) .nil))))) (.nm 0) (some (.ex (.ix (.var 0) (.cst (.int 1))))) (.var 0)))
noncomputable def Za4:Sx:=(.set (.nm 6) (.comp [(O "pair"),(O "free")] [none,some 3] (.pl (.var 5)) (.nm 0) (some (.ex (.nin true (.var 0) (.var 1)))) (.var 0)))
noncomputable def Zaa:Tx:=(.ex (.var 6))
noncomputable def Zam:Sx:=(.drp (.meth .ext (.var 4) (.cons (.var 6) .nil)))
noncomputable def Zan:Sx:=(.set (.nm 7) (.meth .pop (.var 4) .nil))
noncomputable def ZbP:Sx:=(.npt (.var 3) (.var 7) (.ors (.cons (.call (O "is_meant") (.cons (.ix (.var 0) (.ix (.var 7) (.cst (.int 0)))) (.cons (.ix (.var 7) (.cst (.int 1))) .nil))) (.cons (.blt .anb (.cons (.comp [(O "part"),(O "free")] [none,some 3] (.pl (.var 5)) (.nm 0) none (.nix (.var 1) (.var 0))) .nil)) .nil))))
noncomputable def ZcY:Sxs:=(.cons Zam .nil)
noncomputable def Zc0:Sxs:=(.cons Zan (.cons ZbP .nil))
noncomputable def Zc2:Sx:=.iff Zaa ZcY Zc0
noncomputable def ZW:Sxs:=(.cons Za5 (.cons Za4 (.cons Zc2 .nil)))
noncomputable def Zbr:Sx:=.whl Zx ZW
noncomputable def ZdR:Sx:=(.ret (.var 3))
noncomputable def Zcf:Sxs:=(.cons Zbt (.cons Zbs (.cons Zbr (.cons ZdR .nil))))
noncomputable def Zb3:Fd:=⟨[(O "cells"),(O "start"),(O "names")],[(O "cells"),(O "start"),(O "names"),(O "free"),(O "waiting"),(O "inner"),(O "unknown"),(O "pair")],Zcf⟩
noncomputable def ZaQ:Sx:=(.seta [(O "Copier")] (.var 0) (O "cells") (.var 1))
noncomputable def ZaP:Sx:=(.seta [(O "Copier")] (.var 0) (O "meant") (.var 3))
noncomputable def ZaO:Sx:=(.seta [(O "Copier")] (.var 0) (O "free") (.call (O "free_beneath") (.cons (.var 1) (.cons (.var 2) (.cons (.blt .tdk (.cons (.var 3) .nil)) .nil)))))
noncomputable def ZaN:Sx:=(.seta [(O "Copier")] (.var 0) (O "known") .ndl)
noncomputable def ZaM:Sx:=(.seta [(O "Copier")] (.var 0) (O "waiting") (.lstl .nil))
noncomputable def Zbh:Sxs:=(.cons ZaQ (.cons ZaP (.cons ZaO (.cons ZaN (.cons ZaM .nil)))))
noncomputable def Zaj:Fd:=⟨[(O "self"),(O "cells"),(O "start"),(O "meant")],[(O "self"),(O "cells"),(O "start"),(O "meant")],Zbh⟩
noncomputable def ZaK:Sx:=(.set (.nm 3) (.ix (.att [(O "Copier")] (.var 0) (O "cells")) (.var 1)))
noncomputable def ZaI:Tx:=(.ands (.cons (.ex (.call (O "is_value") (.cons (.var 3) .nil))) (.one (.nt (.ex (.nix (.att [(O "Copier")] (.var 0) (O "free")) (.tupl (.cons (.var 1) (.cons (.var 2) .nil)))))))))
noncomputable def ZbH:Sx:=(.ret (.var 1))
noncomputable def ZaE:Sxs:=(.cons ZbH .nil)
noncomputable def Zcz:Sx:=.iff ZaI ZaE .nil
noncomputable def ZaH:Tx:=(.ex (.call (O "is_meant") (.cons (.var 3) (.cons (.var 2) .nil))))
noncomputable def ZbG:Sx:=(.ret (.ix (.att [(O "Copier")] (.var 0) (O "meant")) (.ix (.var 3) (.cst (.int 1)))))
noncomputable def ZaD:Sxs:=(.cons ZbG .nil)
noncomputable def Zcy:Sx:=.iff ZaH ZaD .nil
noncomputable def ZaG:Tx:=(.ex (.nin true (.tupl (.cons (.var 1) (.cons (.var 2) .nil))) (.att [(O "Copier")] (.var 0) (O "known"))))
noncomputable def ZbF:Sx:=(.npt (.att [(O "Copier")] (.var 0) (O "known")) (.tupl (.cons (.var 1) (.cons (.var 2) .nil))) (.blt .len (.cons (.att [(O "Copier")] (.var 0) (O "cells")) .nil)))
noncomputable def Zal:Sx:=(.drp (.meth .app (.att [(O "Copier")] (.var 0) (O "cells")) (.cons (.var 3) .nil)))
noncomputable def Zak:Sx:=(.drp (.meth .app (.att [(O "Copier")] (.var 0) (O "waiting")) (.cons (.tupl (.cons (.var 1) (.cons (.var 2) .nil))) .nil)))
noncomputable def ZaC:Sxs:=(.cons ZbF (.cons Zal (.cons Zak .nil)))
noncomputable def Zcx:Sx:=.iff ZaG ZaC .nil
noncomputable def Zcw:Sx:=(.ret (.nix (.att [(O "Copier")] (.var 0) (O "known")) (.tupl (.cons (.var 1) (.cons (.var 2) .nil)))))
noncomputable def ZA:Sxs:=(.cons ZaK (.cons Zcz (.cons Zcy (.cons Zcx (.cons Zcw .nil)))))
noncomputable def Zbe:Fd:=⟨[(O "self"),(O "number"),(O "names")],[(O "self"),(O "number"),(O "names"),(O "cell")],ZA⟩
noncomputable def Zaq:Sx:=(.set (.nm 1) (.meth .pop (.att [(O "Copier")] (.var 0) (O "waiting")) .nil))
noncomputable def Zap:Sx:=(.set (.nm 2) (.comp [(O "part"),(O "names"),(O "self")] [none,none,some 0] (.pl (.call (O "beneath") (.cons (.att [(O "Copier")] (.var 0) (O "cells")) (.cons (.ix (.var 1) (.cst (.int 0))) (.cons (.ix (.var 1) (.cst (.int 1))) .nil))))) (.two 0 1) none (.mcl (O "Copier") (O "stand_in") (.var 2) (.cons (.var 0) (.cons (.var 1) .nil)))))
noncomputable def Zao:Sx:=(.put (.att [(O "Copier")] (.var 0) (O "cells")) (.nix (.att [(O "Copier")] (.var 0) (O "known")) (.var 1)) (.bin .Add (.call (O "front_of") (.cons (.ix (.att [(O "Copier")] (.var 0) (O "cells")) (.ix (.var 1) (.cst (.int 0)))) .nil)) (.blt .tup (.cons (.var 2) .nil))))
noncomputable def ZaJ:Sxs:=(.cons Zaq (.cons Zap (.cons Zao .nil)))
noncomputable def ZaF:Fd:=⟨[(O "self")],[(O "self"),(O "pair"),(O "parts")],ZaJ⟩
noncomputable def ZdA:Sx:=(.set (.nm 2) (.mcl (O "Copier") (O "stand_in") (.var 0) (.cons (.var 1) (.cons (.blt .tdk (.cons (.att [(O "Copier")] (.var 0) (O "meant")) .nil)) .nil))))
noncomputable def ZN:Tx:=(.ex (.att [(O "Copier")] (.var 0) (O "waiting")))
noncomputable def ZaL:Sx:=(.drp (.mcl (O "Copier") (O "write_next") (.var 0) .nil))
noncomputable def Zbd:Sxs:=(.cons ZaL .nil)
noncomputable def Zbg:Sx:=.whl ZN Zbd
noncomputable def Zdz:Sx:=(.ret (.var 2))
noncomputable def ZbO:Sxs:=(.cons ZdA (.cons Zbg (.cons Zdz .nil)))
noncomputable def ZbM:Fd:=⟨[(O "self"),(O "start")],[(O "self"),(O "start"),(O "number")],ZbO⟩
noncomputable def Zfv:Sx:=(.set (.nm 3) (.ix (.var 0) (.var 1)))
noncomputable def ZiF:Tx:=(.ex (.cmp .Eq (.ix (.var 3) (.cst (.int 0))) (.cst (.str (O "num")))))
noncomputable def ZfG:Sx:=(.ret (.cst .non))
noncomputable def Zil:Sxs:=(.cons ZfG .nil)
noncomputable def Zc6:Sx:=.iff ZiF Zil .nil
noncomputable def ZiE:Tx:=(.ex (.cmp .Eq (.ix (.var 3) (.cst (.int 0))) (.cst (.str (O "fn")))))
noncomputable def ZfE:Sx:=(.set (.nm 4) (.dictl (.cons (.ix (.var 3) (.cst (.int 1))) (.cons (.var 2) .nil))))
noncomputable def ZfF:Sx:=(.set (.nm 4) (.dictl (.cons (.ix (.var 3) (.cst (.int 1))) (.cons (.var 1) (.cons (.ix (.var 3) (.cst (.int 2))) (.cons (.var 2) .nil))))))
noncomputable def Zik:Sxs:=(.cons ZfE .nil)
noncomputable def ZiB:Sxs:=(.cons ZfF .nil)
noncomputable def Zc5:Sx:=.iff ZiE Zik ZiB
noncomputable def Zc4:Sx:=(.set (.nm 5) (.ix (.call (O "parts_of") (.cons (.var 3) .nil)) (.cst (.int 0))))
noncomputable def Zc3:Sx:=(.ret (.ix (.var 0) (.mcl (O "Copier") (O "copied") (.mk (O "Copier") (.cons (.var 0) (.cons (.var 5) (.cons (.var 4) .nil)))) (.cons (.var 5) .nil))))
noncomputable def Zdy:Sxs:=(.cons Zfv (.cons Zc6 (.cons Zc5 (.cons Zc4 (.cons Zc3 .nil)))))
noncomputable def Zhj:Fd:=⟨[(O "cells"),(O "F"),(O "A")],[(O "cells"),(O "F"),(O "A"),(O "function"),(O "meant"),(O "start")],Zdy⟩
noncomputable def Zd5:Sx:=(.set (.nm 2) (.call (O "chosen") (.cons (.ix (.var 0) (.ix (.var 1) (.cst (.int 1)))) (.cons (.ix (.var 1) (.cst (.int 2))) (.cons (.ix (.var 1) (.cst (.int 3))) .nil)))))
noncomputable def Zhy:Tx:=(.ex (.cmp .Is (.var 2) (.cst .non)))
noncomputable def Zfs:Sx:=(.ret (.cst .non))
noncomputable def Zha:Sxs:=(.cons Zfs .nil)
noncomputable def ZhF:Sx:=.iff Zhy Zha .nil
noncomputable def ZhE:Sx:=(.ret (.ix (.var 0) (.var 2)))
noncomputable def ZdQ:Sxs:=(.cons Zd5 (.cons ZhF (.cons ZhE .nil)))
noncomputable def ZfX:Fd:=⟨[(O "cells"),(O "cell")],[(O "cells"),(O "cell"),(O "number")],ZdQ⟩
noncomputable def Zhx:Tx:=(.ex (.cmp .Eq (.ix (.var 1) (.cst (.int 0))) (.cst (.str (O "call")))))
noncomputable def Zfn:Sx:=(.ret (.call (O "called") (.cons (.var 0) (.cons (.ix (.var 1) (.cst (.int 1))) (.cons (.ix (.var 1) (.cst (.int 2))) .nil)))))
noncomputable def Zg6:Sxs:=(.cons Zfn .nil)
noncomputable def Zb6:Sx:=.iff Zhx Zg6 .nil
noncomputable def Zhw:Tx:=(.ex (.cmp .Eq (.ix (.var 1) (.cst (.int 0))) (.cst (.str (O "if")))))
noncomputable def Zfm:Sx:=(.ret (.call (O "gone_on") (.cons (.var 0) (.cons (.var 1) .nil))))
noncomputable def Zg5:Sxs:=(.cons Zfm .nil)
noncomputable def Zd3:Sx:=.iff Zhw Zg5 .nil
noncomputable def Zhz:Sx:=(.ret (.call (O "worked") (.cons (.ix (.var 1) (.cst (.int 0))) (.cons (.ix (.var 0) (.ix (.var 1) (.cst (.int 1)))) (.cons (.ix (.var 0) (.ix (.var 1) (.cst (.int 2)))) .nil)))))
noncomputable def Zad:Sxs:=(.cons Zb6 (.cons Zd3 (.cons Zhz .nil)))
noncomputable def ZfW:Fd:=⟨[(O "cells"),(O "cell")],[(O "cells"),(O "cell")],Zad⟩
noncomputable def Zb5:Tx:=(.ex (.call (O "is_value") (.cons (.ix (.ix (.var 0) (.cst (.int 0))) (.ix (.var 0) (.cst (.int 1)))) .nil)))
noncomputable def Zdu:Sx:=(.ret (.tupl (.cons (.cst (.str (O "value"))) .nil)))
noncomputable def ZeS:Sxs:=(.cons Zdu .nil)
noncomputable def Zce:Sx:=.iff Zb5 ZeS .nil
noncomputable def Zcd:Sx:=(.set (.nm 1) (.blt .lst (.cons (.ix (.var 0) (.cst (.int 0))) .nil)))
noncomputable def Zcc:Sx:=(.set (.nm 2) (.call (O "next_cell") (.cons (.var 1) (.cons (.ix (.var 0) (.cst (.int 1))) .nil))))
noncomputable def Zcb:Sx:=(.set (.nm 3) (.call (O "written") (.cons (.var 1) (.cons (.ix (.var 1) (.var 2)) .nil))))
noncomputable def Zfk:Tx:=(.ex (.cmp .Is (.var 3) (.cst .non)))
noncomputable def Zdt:Sx:=(.ret (.tupl (.cons (.cst (.str (O "stuck"))) .nil)))
noncomputable def ZeR:Sxs:=(.cons Zdt .nil)
noncomputable def Zca:Sx:=.iff Zfk ZeR .nil
noncomputable def Zb9:Sx:=(.put (.var 1) (.var 2) (.var 3))
noncomputable def Zfr:Sx:=(.ret (.tupl (.cons (.cst (.str (O "loud"))) (.cons (.tupl (.cons (.var 1) (.cons (.ix (.var 0) (.cst (.int 1))) .nil))) .nil))))
noncomputable def ZaT:Sxs:=(.cons Zce (.cons Zcd (.cons Zcc (.cons Zcb (.cons Zca (.cons Zb9 (.cons Zfr .nil)))))))
noncomputable def Zdn:Fd:=⟨[(O "state")],[(O "state"),(O "cells"),(O "number"),(O "cell")],ZaT⟩
end Grf
end
section
namespace Grf
open PySem L2 IV Tm
inductive Gc where
 | num (n:Int)|name (x:Str)|fn (x:Str) (e:Nat)|rcc (f x:Str) (e:Nat)|call (f a:Nat)|iff (c t e:Nat)|op (w:Wd) (a b:Nat)
noncomputable def Gc.fr:Gc->List D
 | .num n=>[.str (O "num"),.int n]
 | .name x=>[.str (O "name"),.str x]
 | .fn x _=>[.str (O "fn"),.str x]
 | .rcc f x _=>[.str (O "rec"),.str f,.str x]
 | .call _ _=>[.str (O "call")]
 | .iff _ _ _=>[.str (O "if")]
 | .op w _ _=>[.str w.s]
noncomputable def Gc.ps:Gc->List Nat
 | .num _|.name _=>[]
 | .fn _ e|.rcc _ _ e=>[e]
 | .call f a=>[f,a]
 | .iff c t e=>[c,t,e]
 | .op _ a b=>[a,b]
noncomputable def Gc.bd:Gc->List Str
 | .fn x _=>[x]
 | .rcc f x _=>[f,x]
 | _=>[]
noncomputable def Gc.isV:Gc->Bool
 | .num _|.fn _ _|.rcc _ _ _=>true
 | _=>false
noncomputable def nI(n:Nat):D:=.int (n:Int)
noncomputable def Gc.d(c:Gc):D:=.tup (c.fr++c.ps.map nI)
noncomputable def Gc.wp:Gc->List Nat->Gc
 | .fn x _,[e]=>.fn x e
 | .rcc f x _,[e]=>.rcc f x e
 | .call _ _,[a,b]=>.call a b
 | .iff _ _ _,[a,b,c]=>.iff a b c
 | .op w _ _,[a,b]=>.op w a b
 | c,_=>c
theorem Zoq{c:Gc}{ms:List Nat}(h:ms.length=c.ps.length):(c.wp ms).fr=c.fr/\(c.wp ms).ps=ms:=by
 have one:∀ {l:List Nat},l.length=1->∃ a,l=[a]:=fun h=>List.length_eq_one_iff.mp h;have two:∀ {l:List Nat},l.length=2->∃ a b,l=[a,b]:=fun {l} h=>match l,h with|[a,b],_=>⟨a,b,rfl⟩
 have three:∀ {l:List Nat},l.length=3->∃ a b c,l=[a,b,c]:=fun {l} h=>match l,h with|[a,b,c],_=>⟨a,b,c,rfl⟩
 cases c with
 | num n=>cases List.length_eq_zero_iff.mp h;exact ⟨rfl,rfl⟩
 | name n=>cases List.length_eq_zero_iff.mp h;exact ⟨rfl,rfl⟩
 | fn x e=>obtain ⟨a,rfl⟩:=one h;exact ⟨rfl,rfl⟩
 | rcc f x e=>obtain ⟨a,rfl⟩:=one h;exact ⟨rfl,rfl⟩
 | call f a=>obtain ⟨a,b,rfl⟩:=two h;exact ⟨rfl,rfl⟩
 | iff c a b=>obtain ⟨a,b,c,rfl⟩:=three h;exact ⟨rfl,rfl⟩
 | op w a b=>obtain ⟨a,b,rfl⟩:=two h;exact ⟨rfl,rfl⟩
noncomputable def Fit:Gc->T->Prop
 | .num n,.num m=>n=m
 | .name x,.name y=>x=y
 | .fn x _,.fn y _=>x=y
 | .rcc f x _,.rcc g y _=>f=g/\x=y
 | .call _ _,.call _ _=>True
 | .iff _ _ _,.iff _ _ _=>True
 | .op w _ _,.op v _ _=>w=v
 | _,_=>False
inductive Rd(g:Nat->Option Gc):Nat->T->Prop
 | num:g i=some (.num n)->Rd g i (.num n)
 | name:g i=some (.name x)->Rd g i (.name x)
 | fn:g i=some (.fn x e)->Rd g e t->Rd g i (.fn x t)
 | rcc:g i=some (.rcc f x e)->Rd g e t->Rd g i (.rcc f x t)
 | call:g i=some (.call a b)->Rd g a s->Rd g b t->Rd g i (.call s t)
 | iff:g i=some (.iff a b c)->Rd g a s->Rd g b t->Rd g c u->Rd g i (.iff s t u)
 | op:g i=some (.op w a b)->Rd g a s->Rd g b t->Rd g i (.op w s t)
theorem Rd.inv(h:Rd g i t):∃ c,g i=some c/\Fit c t/\Paired (Rd g) c.ps t.parts:=by
 cases h with
 | num e=>exact ⟨_,e,rfl,.nil⟩
 | name e=>exact ⟨_,e,rfl,.nil⟩
 | fn e a=>exact ⟨_,e,rfl,.cons a .nil⟩
 | rcc e a=>exact ⟨_,e,⟨rfl,rfl⟩,.cons a .nil⟩
 | call e a b=>exact ⟨_,e,trivial,.cons a (.cons b .nil)⟩
 | iff e a b c=>exact ⟨_,e,trivial,.cons a (.cons b (.cons c .nil))⟩
 | op e a b=>exact ⟨_,e,rfl,.cons a (.cons b .nil)⟩
theorem Rd.mk{c:Gc}{t:T}(e:g i=some c)(f:Fit c t)(p:Paired (Rd g) c.ps t.parts):Rd g i t:=by
 cases c<;>cases t<;>simp only [Fit] at f
 . subst f;exact .num e
 . subst f;exact .name e
 . subst f;cases p with|cons a q=>exact .fn e a
 . obtain ⟨rfl,rfl⟩:=f;cases p with|cons a q=>exact .rcc e a
 . cases p with|cons a q=>cases q with|cons b q=>exact .call e a b
 . cases p with|cons a q=>cases q with|cons b q=>cases q with|cons c q=>exact .iff e a b c
 . subst f;cases p with|cons a q=>cases q with|cons b q=>exact .op e a b
theorem Rd.ind{P:Nat->T->Prop}(k:∀ i t c,g i=some c->Fit c t->Paired (fun n s=>Rd g n s/\P n s) c.ps t.parts->P i t):∀ {i t},Rd g i t->P i t:=by
 intro i t h;induction h with
 | num e=>exact k _ _ _ e rfl .nil
 | name e=>exact k _ _ _ e rfl .nil
 | fn e a ia=>exact k _ _ _ e rfl (.cons ⟨a,ia⟩ .nil)
 | rcc e a ia=>exact k _ _ _ e ⟨rfl,rfl⟩ (.cons ⟨a,ia⟩ .nil)
 | call e a b ia ib=>exact k _ _ _ e trivial (.cons ⟨a,ia⟩ (.cons ⟨b,ib⟩ .nil))
 | iff e a b c ia ib ic=>exact k _ _ _ e trivial (.cons ⟨a,ia⟩ (.cons ⟨b,ib⟩ (.cons ⟨c,ic⟩ .nil)))
 | op e a b ia ib=>exact k _ _ _ e rfl (.cons ⟨a,ia⟩ (.cons ⟨b,ib⟩ .nil))
theorem ZbC{c:Gc}{t:T}(f:Fit c t):c.fr=Tm.fr t/\c.bd=bnd t/\c.isV=Tm.isV t/\c.ps.length=t.parts.length:=by
 cases c<;>cases t<;>simp only [Fit] at f
 . subst f;exact ⟨rfl,rfl,rfl,rfl⟩
 . subst f;exact ⟨rfl,rfl,rfl,rfl⟩
 . subst f;exact ⟨rfl,rfl,rfl,rfl⟩
 . obtain ⟨rfl,rfl⟩:=f;exact ⟨rfl,rfl,rfl,rfl⟩
 . exact ⟨rfl,rfl,rfl,rfl⟩
 . exact ⟨rfl,rfl,rfl,rfl⟩
 . subst f;exact ⟨rfl,rfl,rfl,rfl⟩
theorem Zqt{c:Gc}{t u:T}(f:Fit c t)(f':Fit c u)(e:t.parts=u.parts):t=u:=by
 cases c<;>cases t<;>simp only [Fit] at f<;>cases u<;>simp only [Fit] at f'<;>simp only [T.parts,List.cons.injEq,and_true] at e
 . rw [<- f,<- f']
 . rw [<- f,<- f']
 . rw [<- f,<- f',e]
 . rw [<- f.1,<- f.2,<- f'.1,<- f'.2,e]
 . rw [e.1,e.2]
 . rw [e.1,e.2.1,e.2.2]
 . rw [<- f,<- f',e.1,e.2]
theorem Rd.one(h:Rd g i t):∀ {u},Rd g i u->t=u:=by
 refine Rd.ind (P:=fun i t=>∀ {u},Rd g i u->t=u) (fun i t c e f p u h'=>?_) h;obtain ⟨c',e',f',p'⟩:=h'.inv;rw [e] at e';cases e';refine Zqt f f' ?_;have:∀ {ns:List Nat}{ts us:List T},Paired (fun n s=>Rd g n s/\∀ {u},Rd g n u->s=u) ns ts->Paired (Rd g) ns us->ts=us:=by
   intro ns ts us q q';induction q generalizing us with
   | nil=>cases q';rfl
   | cons a q ih=>cases q' with|cons b q'=>rw [a.2 b,ih q']
 exact this p p'
theorem Rd.mono(h:Rd g i t){g':Nat->Option Gc}(m:∀ i c,g i=some c->g' i=some c):Rd g' i t:=Rd.ind (P:=fun i t=>Rd g' i t) (fun i t c e f p=>Rd.mk (m i c e) f (Paired.mapP p fun _ _ z=>z.2)) h
noncomputable def wo(g:Nat->Option Gc)(x:Nat):Nat->Option Gc:=fun i=>if i=x then none else g i
theorem ZiT(h:i≠x):wo g x i=g i:=if_neg h
theorem ZD:∀ i c,wo g x i=some c->g i=some c:=fun i c e=>by
 unfold wo at e;split at e
 . cases e
 . exact e
theorem Zi1{t s:T}(h:s∈t.parts):s.size<t.size:=by
 rw [ZJ t];have:∀ l:List T,s∈l->s.size<=(l.map T.size).sum:=by
   intro l;induction l with
   | nil=>intro h;cases h
   | cons a r ih =>
     intro h;rw [Op,OI];rcases O2.mp h with rfl|h
     . lia
     . have:=ih h;lia
 have:=this _ h
 lia
theorem Paired.imp_mem{F G:α->β->Prop}:∀ {l₁:List α}{l₂:List β},Paired F l₁ l₂->(∀ a b,a∈l₁->b∈l₂->F a b->G a b)->Paired G l₁ l₂
 | _,_,.nil,_=>.nil
 | _,_,.cons r t,f=>.cons (f _ _ (.head _) (.head _) r) (Paired.imp_mem t fun a b ha hb=>f a b (.tail _ ha) (.tail _ hb))
theorem Rd.wo{tz:T}(hx:Rd g x tz)(h:Rd g i t)(hs:t.size<tz.size):Rd (Grf.wo g x) i t:=by
 refine Rd.ind (P:=fun i t=>t.size<tz.size->Rd (Grf.wo g x) i t) (fun i t c e f p hs=>?_) h hs;have ne:i≠x:=fun z=>by
   subst z;have:=(Rd.mk e f (Paired.mapP p fun _ _ z=>z.1)).one hx;rw [this] at hs;exact absurd hs (Nat.lt_irrefl _)
 exact Rd.mk (by rw [ZiT ne];exact e) f (Paired.imp_mem p fun n s _ hm z=>z.2 (Nat.lt_trans (Zi1 hm) hs))
noncomputable def gl(G:List Gc):Nat->Option Gc:=fun i=>G[i]?
noncomputable def rs(ns:List Str)(b:List Str):List Str:=ns.filter fun x=>!decide (x∈b)
noncomputable def fin:List Str->T->Bool
 | _,.num _=>false
 | ns,.name x=>decide (x∈ns)
 | ns,.fn x e=>fin (rs ns [x]) e
 | ns,.rcc f x e=>fin (rs ns [f,x]) e
 | ns,.call a b=>fin ns a || fin ns b
 | ns,.iff a b c=>fin ns a || (fin ns b || fin ns c)
 | ns,.op _ a b=>fin ns a || fin ns b
theorem ZdE(ns:List Str):rs ns []=ns:=by simp [rs]
noncomputable def mnt(ns:List Str):T->Bool
 | .name x=>decide (x∈ns)
 | _=>false
theorem ZlZ(ns:List Str)(t:T):fin ns t=(mnt ns t || t.parts.any (fin (rs ns (bnd t)))):=by
 cases t<;>simp [fin,mnt,T.parts,bnd,ZdE]
theorem ZQ:∀ t:T,fin [] t=false
 | .num _=>rfl
 | .name _=>by simp [fin]
 | .fn x e=>by simp [fin,rs,ZQ e]
 | .rcc f x e=>by simp [fin,rs,ZQ e]
 | .call a b=>by simp [fin,ZQ a,ZQ b]
 | .iff a b c=>by simp [fin,ZQ a,ZQ b,ZQ c]
 | .op _ a b=>by simp [fin,ZQ a,ZQ b]
noncomputable def arN(M:List (Str×T))(ns:List Str):Ar:=(M.filter fun p=>decide (p.1∈ns)).map fun p=>(p.1,some p.2)
theorem ZbB(M:List (Str×T))(ns:List Str)(x:Str):get (arN M ns) x=if x∈ns then get (M.map fun p=>(p.1,some p.2)) x else none:=by
 induction M with
 | nil=>simp [arN,Tm.get]
 | cons p M ih =>
   unfold arN at ih ⊢;rw [List.filter_cons];by_cases hp:p.1∈ns
   . rw [if_pos (by simpa using hp),Op,Op];simp only [Tm.get];by_cases e:p.1=x
     . rw [if_pos e,if_pos e,if_pos (e ▸ hp)]
     . rw [if_neg e,if_neg e];exact ih
   . rw [if_neg (by simpa using hp),ih,Op];simp only [Tm.get];by_cases e:p.1=x
     . rw [if_neg (e ▸ hp),if_neg (e ▸ hp)]
     . rw [if_neg e]
theorem ZI:∀ (t:T) {a b:Ar},(∀ x,get a x=get b x)->sub a t=sub b t
 | .num _,_,_,_=>rfl
 | .name x,a,b,h=>by simp [sub,h x]
 | .fn x e,a,b,h=>by simp only [sub];rw [ZI e (b:=(x,none)::b) fun y=>by simp only [Tm.get];rw [h y]]
 | .rcc f x e,a,b,h=>by simp only [sub];rw [ZI e (b:=(f,none)::(x,none)::b) fun y=>by simp only [Tm.get];rw [h y]]
 | .call s t,a,b,h=>by simp only [sub];rw [ZI s h,ZI t h]
 | .iff s t u,a,b,h=>by simp only [sub];rw [ZI s h,ZI t h,ZI u h]
 | .op w s t,a,b,h=>by simp only [sub];rw [ZI s h,ZI t h]
theorem Zc9(M:List (Str×T))(ns:List Str)(t s:T):sub (inn t (arN M ns)) s=sub (arN M (rs ns (bnd t))) s:=by
 refine ZI s fun x=>?_;have e:∀ (bs:List Str) (a:Ar),get (bs.map (fun y=>(y,none))++a) x=if x∈bs then none else get a x:=by
   intro bs a;induction bs with
   | nil=>simp
   | cons y bs ih =>
     rw [Op,List.cons_append];simp only [Tm.get];by_cases h:y=x
     . simp [h]
     . rw [if_neg h,ih];have h':¬ x=y:=fun z=>h z.symm;simp [h']
 rw [show inn t (arN M ns)=(bnd t).map (fun y=>(y,none))++arN M ns from rfl,e,ZbB,ZbB];by_cases h:x∈bnd t
 . simp [h,rs]
 . simp [h,rs]
theorem Zaw(M:List (Str×T)):∀ (t:T) (ns:List Str),fin ns t=false->sub (arN M ns) t=t
 | .num _,_,_=>rfl
 | .name x,ns,h=>by
   have hx:x ∉ ns:=by simpa [fin] using h
   simp only [sub];rw [ZbB,if_neg hx];rfl
 | .fn x e,ns,h=>by
   show T.fn x (sub (inn (.fn x e) (arN M ns)) e)=_;rw [Zc9];exact congrArg (T.fn x) (Zaw M e (rs ns [x]) h)
 | .rcc f x e,ns,h=>by
   show T.rcc f x (sub (inn (.rcc f x e) (arN M ns)) e)=_;rw [Zc9];exact congrArg (T.rcc f x) (Zaw M e (rs ns [f,x]) h)
 | .call a b,ns,h=>by
   have h:=Bool.or_eq_false_iff.mp h;simp only [sub];rw [Zaw M a ns h.1,Zaw M b ns h.2]
 | .iff a b c,ns,h=>by
   have h:=Bool.or_eq_false_iff.mp h;have h2:=Bool.or_eq_false_iff.mp h.2;simp only [sub];rw [Zaw M a ns h.1,Zaw M b ns h2.1,Zaw M c ns h2.2]
 | .op w a b,ns,h=>by
   have h:=Bool.or_eq_false_iff.mp h;simp only [sub];rw [Zaw M a ns h.1,Zaw M b ns h.2]
theorem ZnR{c:Gc}{t:T}{ar:Ar}{ms:List Nat}(f:Fit c t)(m:ZpY ar t=none)(h:ms.length=c.ps.length):Fit (c.wp ms) (sub ar t):=by
 have one:∀ {l:List Nat},l.length=1->∃ a,l=[a]:=fun h=>List.length_eq_one_iff.mp h;have two:∀ {l:List Nat},l.length=2->∃ a b,l=[a,b]:=fun {l} h=>match l,h with|[a,b],_=>⟨a,b,rfl⟩
 have three:∀ {l:List Nat},l.length=3->∃ a b c,l=[a,b,c]:=fun {l} h=>match l,h with|[a,b,c],_=>⟨a,b,c,rfl⟩
 cases c<;>cases t<;>simp only [Fit] at f
 . cases List.length_eq_zero_iff.mp h;exact f
 . cases List.length_eq_zero_iff.mp h;simp only [sub];rw [show get ar _=none from m];exact f
 . obtain ⟨a,rfl⟩:=one h;exact f
 . obtain ⟨a,rfl⟩:=one h;exact f
 . obtain ⟨a,b,rfl⟩:=two h;exact f
 . obtain ⟨a,b,c,rfl⟩:=three h;exact f
 . obtain ⟨a,b,rfl⟩:=two h;exact f
noncomputable def cc:List Str->T->Nat
 | _,.num _=>0
 | ns,.name x=>if x∈ns then 0 else 1
 | ns,.fn x e=>if fin (rs ns [x]) e then 1+cc (rs ns [x]) e else 0
 | ns,.rcc f x e=>if fin (rs ns [f,x]) e then 1+cc (rs ns [f,x]) e else 0
 | ns,.call a b=>1+(cc ns a+cc ns b)
 | ns,.iff a b c=>1+(cc ns a+(cc ns b+cc ns c))
 | ns,.op _ a b=>1+(cc ns a+cc ns b)
theorem ZoL{ns:List Str}{t:T}(v:Tm.isV t=true->fin ns t=true)(m:mnt ns t=false):cc ns t=1+(t.parts.map (cc (rs ns (bnd t)))).sum:=by
 cases t with
 | num n=>exact absurd (v rfl) (by simp [fin])
 | name x=>simp only [mnt,decide_eq_false_iff_not] at m;simp [cc,T.parts,m]
 | fn x e=>have q:fin (rs ns [x]) e=true:=v rfl;simp [cc,q,T.parts,bnd]
 | rcc f x e=>have q:fin (rs ns [f,x]) e=true:=v rfl;simp [cc,q,T.parts,bnd]
 | _=>simp [cc,T.parts,bnd,ZdE]
theorem ZcQ:∀ (ns:List Str) (t:T),cc ns t<=t.size
 | _,.num _=>Nat.zero_le _
 | ns,.name x=>by have:=ZP (.name x);simp only [cc];split<;>lia
 | ns,.fn x e=>by have:=ZcQ (rs ns [x]) e;have:=zf x e;simp only [cc];split<;>lia
 | ns,.rcc f x e=>by have:=ZcQ (rs ns [f,x]) e;have:=zr f x e;simp only [cc];split<;>lia
 | ns,.call a b=>by have:=ZcQ ns a;have:=ZcQ ns b;have:=zc a b;simp only [cc];lia
 | ns,.iff a b c=>by have:=ZcQ ns a;have:=ZcQ ns b;have:=ZcQ ns c;have:=zi a b c;simp only [cc];lia
 | ns,.op w a b=>by have:=ZcQ ns a;have:=ZcQ ns b;have:=zo w a b;simp only [cc];lia
end Grf
end
section
namespace Grf
open PySem L2 IV Tm
variable {P:Pg}{h:Hd}
structure Trs(P:Pg):Prop extends Gn.Tre P where
 bound_names:P.tb.lookup (O "bound_names")=some Tm.ZcO
 front_of:P.tb.lookup (O "front_of")=some Tm.Ze7
structure Gs(P:Pg):Prop where
 b:Trs P
 pl:P.tb.lookup (O "places")=some Gn.Zdm
 gv:P.G (O "VALUES")=some (.tup [.str (O "num"),.str (O "fn"),.str (O "rec")])
 gb:P.G (O "BEYOND")=some (.int 1000000)
 is_value:P.tb.lookup (O "is_value")=some Tm.Ze5
 parts_first:P.tb.lookup (O "parts_first")=some Tm.ZcM
 chosen:P.tb.lookup (O "chosen")=some Tm.Ze8
 worked:P.tb.lookup (O "worked")=some Tm.Zdl
 graph_begun:P.tb.lookup (O "graph_begun")=some ZcN
 first_open:P.tb.lookup (O "first_open")=some Zdo
 next_cell:P.tb.lookup (O "next_cell")=some ZdY
 beneath:P.tb.lookup (O "beneath")=some ZfY
 is_meant:P.tb.lookup (O "is_meant")=some Ze6
 free_beneath:P.tb.lookup (O "free_beneath")=some Zb3
 n_Copier___init__:P.tb.lookup (mnm (O "Copier") (O "__init__"))=none
 Copier___init__:P.ms.lookup (mnm (O "Copier") (O "__init__"))=some Zaj
 n_Copier_stand_in:P.tb.lookup (mnm (O "Copier") (O "stand_in"))=none
 Copier_stand_in:P.ms.lookup (mnm (O "Copier") (O "stand_in"))=some Zbe
 n_Copier_write_next:P.tb.lookup (mnm (O "Copier") (O "write_next"))=none
 Copier_write_next:P.ms.lookup (mnm (O "Copier") (O "write_next"))=some ZaF
 n_Copier_copied:P.tb.lookup (mnm (O "Copier") (O "copied"))=none
 Copier_copied:P.ms.lookup (mnm (O "Copier") (O "copied"))=some ZbM
 called:P.tb.lookup (O "called")=some Zhj
 gone_on:P.tb.lookup (O "gone_on")=some ZfX
 written:P.tb.lookup (O "written")=some ZfW
 graph_step:P.tb.lookup (O "graph_step")=some Zdn
theorem Zdk (H:Trs P) (n:Nat) (h:Hd) (w:Str) (ds:List D) (e:ZE Gn.Zb2 (.inr w)=none):run P (n+1) (O "front_of") [.tup (.str w::ds)] h=.ok (.tup (.str w::ds)) h:=by
 rw [Zl H.front_of rfl];show Zh (xs2 (P.tbl n) Za3 [some (.tup (.str w::ds))] h)=_;rw [Za3,Zc ((ZZ (Gn.Zcm H.toTre ⟨rfl,rfl⟩ Gn.ZeW e)).trans (Zc (Zs (d:=.tup (.str w::ds)) rfl)))];rfl
theorem ZL (H:Trs P) (n:Nat) (h:Hd) (w:Str) (ds:List D) (a b:Int) (e:ZE Gn.Zb2 (.inr w)=some (.tup [.int a,.int b])):run P (n+1) (O "front_of") [.tup (.str w::ds)] h=.ok (.tup (cutD (.str w::ds) none (some (1+a)))) h:=by
 rw [Zl H.front_of rfl];show Zh (xs2 (P.tbl n) Za3 [some (.tup (.str w::ds))] h)=_;have q:=Gn.Zit H.toTre (U:=P.tbl n) ⟨rfl,rfl⟩ (ds:=ds) (h:=h) e;have r:ev (P.tbl n) (.sl (.var 0) none (some (.bin .Add (.cst (.int 1)) (.ix (.ix (.glo (O "FORMS")) (.ix (.var 0) (.cst (.int 0)))) (.cst (.int 0)))))) [some (.tup (.str w::ds))] h=.ok (.tup (cutD (.str w::ds) none (some (1+a)))) h:=(Gn.Zi4 (a:=.var 0) (x:=.tup (.str w::ds)) rfl rfl (Gn.Zgt q)).trans rfl;rw [Za3,Za ((Zab (Gn.Zcm H.toTre ⟨rfl,rfl⟩ Gn.ZeW e)).trans rfl),Zc (Zs r)];rfl
theorem ZmQ (H:Trs P) (n:Nat) (t:T) (h:Hd):run P (n+1) (O "front_of") [t.d] h=.ok (.tup (fr t)) h:=by
 cases t with
 | num z=>exact Zdk H n h (O "num") _ rfl
 | name x=>exact Zdk H n h (O "name") _ rfl
 | fn x e=>exact ZL H n h (O "fn") _ 1 1 rfl
 | rcc f x e=>exact ZL H n h (O "rec") _ 2 1 rfl
 | call f a=>exact ZL H n h (O "call") _ 0 2 rfl
 | iff c a b=>exact ZL H n h (O "if") _ 0 3 rfl
 | op w a b=>exact ZL H n h w.s _ 0 2 Zc7
theorem Zun (c:Gc):∃ w ds,c.d=.tup (.str w::ds)/\c.isV=decide (w=O "num" \/ w=O "fn" \/ w=O "rec"):=by
 cases c with
 | op w a b=>exact ⟨_,_,rfl,by cases w<;>simp [Gc.isV,Wd.s]⟩
 | _=>exact ⟨_,_,rfl,by simp [Gc.isV]⟩
theorem ZnI:Zcs GD (.tup (x::xs)) (.int 0) h=.ok x h:=by simp
theorem Zmf (H:Gs P) (n:Nat) (c:Gc):run P (n+1) (O "is_value") [c.d] h=.ok (.bl c.isV) h:=by
 obtain ⟨w,ds,e,ev⟩:=Zun c;rw [Zl H.is_value rfl,e,ev];have q:xs2 (P.tbl n) Zfq [some (.tup (.str w::ds))] h=.ok (.rt (.bl (decide (w=O "num" \/ w=O "fn" \/ w=O "rec"))),[some (.tup (.str w::ds))]) h:=Zc (Zs ((Zy ((ZX rfl rfl).trans ZnI) (show IV.ev (P.tbl n) (.glo (O "VALUES")) _ h=.ok _ h from congrArg (fun o=>R.ofO o h) H.gv)).trans ZnJ));exact congrArg Zh q
theorem Zgz (H:Gn.Tre P) (n:Nat) (c:Gc):run P (n+1) (O "parts_of") [c.d] h=.ok (.tup (c.ps.map nI)) h:=by
 cases c with
 | num z=>exact Gn.Zdd H n h (O "num") _ rfl
 | name x=>exact Gn.Zdd H n h (O "name") _ rfl
 | fn x e=>exact Gn.ZK H n h (O "fn") _ 1 1 rfl
 | rcc f x e=>exact Gn.ZK H n h (O "rec") _ 2 1 rfl
 | call f a=>exact Gn.ZK H n h (O "call") _ 0 2 rfl
 | iff c a b=>exact Gn.ZK H n h (O "if") _ 0 3 rfl
 | op w a b=>exact Gn.ZK H n h w.s _ 0 2 Zc7
theorem Zn2 (H:Trs P) (n:Nat) (c:Gc):run P (n+1) (O "front_of") [c.d] h=.ok (.tup c.fr) h:=by
 cases c with
 | num z=>exact Zdk H n h (O "num") _ rfl
 | name x=>exact Zdk H n h (O "name") _ rfl
 | fn x e=>exact ZL H n h (O "fn") _ 1 1 rfl
 | rcc f x e=>exact ZL H n h (O "rec") _ 2 1 rfl
 | call f a=>exact ZL H n h (O "call") _ 0 2 rfl
 | iff c a b=>exact ZL H n h (O "if") _ 0 3 rfl
 | op w a b=>exact ZL H n h w.s _ 0 2 Zc7
theorem Zn3 (H:Trs P) (n:Nat) (c:Gc):run P (n+1) (O "bound_names") [c.d] h=.ok (.tup (c.bd.map .str)) h:=by
 have no:∀ (w:Str) (ds:List D),ZE Gn.Zb2 (.inr w)=none->run P (n+1) (O "bound_names") [.tup (.str w::ds)] h=.ok (.tup []) h:=fun w ds e=>by
   rw [Zl H.bound_names rfl];show Zh (xs2 (P.tbl n) Z1 [some (.tup (.str w::ds))] h)=_;rw [Z1,Zc ((ZZ (Gn.Zcm H.toTre ⟨rfl,rfl⟩ Gn.ZeW e)).trans (Zc (Zs (d:=.tup []) rfl)))];rfl
 have yes:∀ (w:Str) (ds:List D) (a b:Int),ZE Gn.Zb2 (.inr w)=some (.tup [.int a,.int b])->run P (n+1) (O "bound_names") [.tup (.str w::ds)] h=.ok (.tup (cutD (.str w::ds) (some 1) (some (1+a)))) h:=fun w ds a b e=>by
   rw [Zl H.bound_names rfl];show Zh (xs2 (P.tbl n) Z1 [some (.tup (.str w::ds))] h)=_;have q:=Gn.Zit H.toTre (U:=P.tbl n) ⟨rfl,rfl⟩ (ds:=ds) (h:=h) e;have r:ev (P.tbl n) (.sl (.var 0) (some (.cst (.int 1))) (some (.bin .Add (.cst (.int 1)) (.ix (.ix (.glo (O "FORMS")) (.ix (.var 0) (.cst (.int 0)))) (.cst (.int 0)))))) [some (.tup (.str w::ds))] h=.ok (.tup (cutD (.str w::ds) (some 1) (some (1+a)))) h:=(Gn.Zi4 (a:=.var 0) (x:=.tup (.str w::ds)) rfl rfl (Gn.Zgt q)).trans rfl;rw [Z1,Za ((Zab (Gn.Zcm H.toTre ⟨rfl,rfl⟩ Gn.ZeW e)).trans rfl),Zc (Zs r)];rfl
 cases c with
 | num z=>exact no (O "num") _ rfl
 | name x=>exact no (O "name") _ rfl
 | fn x e=>exact yes (O "fn") _ 1 1 rfl
 | rcc f x e=>exact yes (O "rec") _ 2 1 rfl
 | call f a=>exact yes (O "call") _ 0 2 rfl
 | iff c a b=>exact yes (O "if") _ 0 3 rfl
 | op w a b=>exact yes w.s _ 0 2 Zc7
noncomputable def Gc.pf:Gc->List Nat
 | .iff c _ _=>[c]
 | c=>c.ps
theorem Zuq (H:Gs P) (n:Nat) (c:Gc):run P (n+2) (O "parts_first") [c.d] h=.ok (.tup (c.pf.map nI)) h:=by
 rw [Zl H.parts_first rfl];have no:∀ (w:Str) (ds:List D),c.d=.tup (.str w::ds)->w≠O "if" -> c.pf=c.ps->Zh (xs2 (P.tbl (n+1)) Zas [some c.d] h)=.ok (.tup (c.pf.map nI)) h:=fun w ds e ne ep=>by
   have q:xs2 (P.tbl (n+1)) Zas [some c.d] h=.ok (.rt (.tup (c.ps.map nI)),[some c.d]) h:=(Za ((Zab (ZV (ZcZ ((ZX rfl rfl).trans (by rw [e];exact ZnI)) rfl) (decide_eq_false ne))).trans rfl)).trans (Zc (Zs (Zu (Zgz H.b.toTre n c) rfl)));rw [ep];exact congrArg Zh q
 cases c with
 | iff a b e =>
   have q:xs2 (P.tbl (n+1)) Zas [some (Gc.iff a b e).d] h=.ok (.rt (.tup [nI a]),[some (Gc.iff a b e).d]) h:=Zc ((ZZ (ZV (ZcZ (x:=O "if") rfl rfl) (decide_eq_true rfl))).trans (Zc (Zs rfl)));exact congrArg Zh q
 | num z=>exact no _ _ rfl (by simp) rfl
 | name x=>exact no _ _ rfl (by simp) rfl
 | fn x e=>exact no _ _ rfl (by simp) rfl
 | rcc f x e=>exact no _ _ rfl (by simp) rfl
 | call f e=>exact no _ _ rfl (by simp) rfl
 | op w f e=>exact no _ _ rfl (by simp) rfl
end Grf
end
section
namespace Grf
open PySem L2 IV Tm
variable {P:Pg}
noncomputable def fop(G:List Gc):List Nat->Option Nat
 | []=>none
 | n::r=>match G[n]? with
   | some c=>if c.isV then fop G r else some n
   | none=>none
noncomputable def oI:Option Nat->D
 | some n=>nI n
 | none=>.non
noncomputable def cl(G:List Gc):DO:=.lst (G.map Gc.d)
theorem Zs5{G:List Gc}{n:Nat}{c:Gc}(e:G[n]? = some c):atI (G.map Gc.d) (n:Int)=some c.d:=by rw [IV.ZdB,On,e];rfl
theorem ZaZ{U:Tb}{a b:Ex}{G:List Gc}{h:Hd}{n:Nat}{c:Gc}(p:ev U a S h=.ok (.ref k) h)(q:ev U b S h=.ok (nI n) h)(hk:h[k]? = some (cl G))(e:G[n]? = some c):ev U (.ix a b) S h=.ok c.d h:=(ZX p q).trans ((ZbT hk).trans (by rw [Zs5 e];rfl))
theorem Zsm(H:Gs P)(n:Nat){G:List Gc}{h:Hd}(hk:h[k]? = some (cl G)):∀ (ns:List Nat) (o:Option D),(∀ m∈ns,∃ c,G[m]? = some c)->(∃ S q,fop G ns=some q/\Z9 [] (.nm 2) (xs2 (P.tbl (n+2)) Zag) (ns.map nI) [some (.ref k),E,o] h=.ok (.rt (nI q),S) h)\/(fop G ns=none/\∃ o',Z9 [] (.nm 2) (xs2 (P.tbl (n+2)) Zag) (ns.map nI) [some (.ref k),E,o] h=.ok (.nx,[some (.ref k),E,o']) h)
 | [],o,_=>.inr ⟨rfl,o,rfl⟩
 | m::ns,o,hn=>by
   obtain ⟨c,e⟩:=hn m (.head _);have tt:tst (P.tbl (n+2)) Zbq [some (.ref k),E,some (nI m)] h=.ok (!c.isV) h:=by
     show tst (P.tbl (n+2)) (.nt (.ex (.call (O "is_value") (.cons (.ix (.var 0) (.var 2)) .nil)))) _ h=_;rw [ZkF,Zcu (Zu (Zmf H (n+1) c) (Zb (ZaZ rfl rfl hk e) rfl))];rfl
   cases v:c.isV with
   | false =>
     rw [v] at tt;exact .inl ⟨_,m,by simp [fop,e,v],Zqp (ρ1:=[some (.ref k),E,some (nI m)]) rfl (Zc ((ZZ tt).trans (Zc (Zs rfl))))⟩
   | true =>
     rw [v] at tt;have st:=Ziu (ds:=ns.map nI) (g:=.nm 2) (S:=[some (.ref k),E,o]) (ρ1:=[some (.ref k),E,some (nI m)]) rfl ((Za ((Zab tt).trans rfl)).trans rfl:xs2 (P.tbl (n+2)) Zag _ h=_);rcases Zsm H n hk ns (some (nI m)) fun x hx=>hn x (.tail _ hx) with ⟨S,q,e1,e2⟩|⟨e1,o',e2⟩
     . exact .inl ⟨S,q,by simp [fop,e,v,e1],st.trans e2⟩
     . exact .inr ⟨by simp [fop,e,v,e1],o',st.trans e2⟩
theorem ZrF (H:Gs P) (n:Nat) {G:List Gc}{h:Hd} (c:Gc) (hk:h[k]? = some (cl G)) (hn:∀ m∈c.ps,∃ c,G[m]? = some c):run P (n+3) (O "first_open") [.ref k,c.d] h=.ok (oI (fop G c.pf)) h:=by
 rw [Zl H.first_open rfl];have sub:∀ m∈c.pf,m∈c.ps:=by
   intro m hm;cases c with
   | iff a b e=>rw [Ox.mp hm];exact .head _
   | _=>exact hm
 have ei:evi (P.tbl (n+2)) Zb0 [some (.ref k),some c.d,none] h=.ok ⟨[],c.pf.map nI⟩ h:=Zix (Zu (Zuq H n c) rfl);rcases Zsm H n (E:=some c.d) hk c.pf none fun m hm=>hn m (sub m hm) with ⟨S,q,e1,e2⟩|⟨e1,o',e2⟩
 . have w:xs2 (P.tbl (n+2)) ZbE [some (.ref k),some c.d,none] h=.ok (.rt (nI q),S) h:=Zc ((Zgq ei).trans e2);rw [e1];exact congrArg Zh w
 . have w:xs2 (P.tbl (n+2)) ZbE [some (.ref k),some c.d,none] h=.ok (.rt .non,[some (.ref k),some c.d,o']) h:=(Za ((Zgq ei).trans e2)).trans (Zc (Zs rfl));rw [e1];exact congrArg Zh w
theorem Zhh{G:List Gc}:∀ {ns:List Nat},fop G ns=none->(∀ m∈ns,∃ c,G[m]? = some c)->∀ m∈ns,∃ c,G[m]? = some c/\c.isV=true
 | [],_,_,m,hm=>by cases hm
 | n::ns,h,hn,m,hm=>by
   obtain ⟨c,e⟩:=hn n (.head _);unfold fop at h;rw [e] at h;simp only at h;split at h
   . rename_i v;rcases O2.mp hm with rfl|hm
     . exact ⟨c,e,v⟩
     . exact Zhh h (fun x hx=>hn x (.tail _ hx)) m hm
   . cases h
theorem ZcU{F:Nat->T->Prop}:∀ {ns:List Nat}{ts:List T},Paired F ns ts->∀ m∈ns,∃ s∈ts,F m s
 | _,_,.nil,m,hm=>by cases hm
 | _,_,.cons r t,m,hm=>by
   rcases O2.mp hm with rfl|hm
   . exact ⟨_,.head _,r⟩
   . obtain ⟨s,hs,q⟩:=ZcU t m hm;exact ⟨s,.tail _ hs,q⟩
theorem Rd.at(h:Rd (gl G) i t):∃ c,G[i]? = some c/\Fit c t/\Paired (Rd (gl G)) c.ps t.parts/\∀ m∈c.ps,∃ c,G[m]? = some c:=by
 obtain ⟨c,e,f,p⟩:=h.inv;refine ⟨c,e,f,p,fun m hm=>?_⟩;obtain ⟨s,_,q⟩:=ZcU p m hm;obtain ⟨c',e',_⟩:=q.inv;exact ⟨c',e'⟩
noncomputable def vn(k r n:Nat)(o:Option Nat):Ev:=[some (.ref k),some (nI r),some (nI n),some (oI o)]
theorem ZrS{c:Gc}:∀ m∈c.pf,m∈c.ps:=by
 intro m hm;cases c with
 | iff a b e=>rw [Ox.mp hm];exact .head _
 | _=>exact hm
end Grf
end
section
namespace Grf
open PySem L2 IV Tm
variable {P:Pg}
structure Fm(S_:List Nat)(h h':Hd):Prop where
 l:h.length<=h'.length
 o:∀ i,i<h.length->i ∉ S_->h'[i]? = h[i]?
theorem Fm.refl{S_:List Nat}{h:Hd}:Fm S_ h h:=⟨Oq _,fun _ _ _=>rfl⟩
theorem Fm.trans{S_:List Nat}{h h1 h2:Hd}(a:Fm S_ h h1)(b:Fm S_ h1 h2):Fm S_ h h2:=⟨OE a.l b.l,fun i hi hs=>(b.o i (Ot hi a.l) hs).trans (a.o i hi hs)⟩
theorem Fm.app{S_:List Nat}{h g:Hd}:Fm S_ h (h++g):=⟨by simp,fun i hi _=>Oe hi⟩
theorem Fm.set{S_:List Nat}{h:Hd}{i:Nat}{o:DO}(hi:i∈S_):Fm S_ h (h.set i o):=⟨by simp,fun j _ hs=>Oc fun (e:i=j)=>hs (e ▸ hi)⟩
theorem Fm.at{S_:List Nat}{h h':Hd}{i:Nat}{o:DO}(a:Fm S_ h h')(e:h[i]? = some o)(hs:i ∉ S_):h'[i]? = some o:=(a.o i (Zw e) hs).trans e
theorem Fm.sub{S_ S':List Nat}{h h':Hd}(a:Fm S_ h h')(q:∀ i∈S_,i∈S'):Fm S' h h':=⟨a.l,fun i hi hs=>a.o i hi fun z=>hs (q i z)⟩
theorem Fm.cut{S_ S':List Nat}{h h':Hd}(a:Fm S_ h h')(q:∀ i∈S_,i∈S'\/h.length<=i):Fm S' h h':=⟨a.l,fun i hi hs=>a.o i hi fun z=>(q i z).elim hs fun w=>absurd hi (Nat.not_lt.mpr w)⟩
theorem Zac{α:Type}(dd:α->D)(p:α->Bool)(f:α->D){src:List (Nat×List D)}{g:Tg}{tt:Ev->Hd->R Bool}{ee:Ev->Hd->R D}{S:Ev}{h:Hd}(st:Wk.stays src h=true):∀ (xs:List α) (acc:List D),(∀ x∈xs,∃ ρ1,Za1 g (dd x) S=some ρ1/\tt ρ1 h=.ok (p x) h/\(p x=true->ee ρ1 h=.ok (f x) h))->acc.length+xs.length<=100000->ZM src g tt ee (xs.map dd) S acc h=.ok (acc++(xs.filter p).map f) h
 | [],acc,_,_=>by simp [ZM,st]
 | x::xs,acc,hx,hz=>by
   simp only [Os] at hz;obtain ⟨ρ1,b,t,e⟩:=hx x (.head _);have lt:acc.length<sizeLine:=by rw [sizeLine_eq];lia
   rw [Op,ZM,if_pos ⟨st,lt⟩,b];simp only;rw [t];cases q:p x with
   | true =>
     rw [show ((R.ok true h).plain.bind fun b h1=>if b then (ee ρ1 h1).plain.bind fun x h2=>ZM src g tt ee (xs.map dd) S (acc++[x]) h2 else ZM src g tt ee (xs.map dd) S acc h1)=(ee ρ1 h).plain.bind fun x h2=>ZM src g tt ee (xs.map dd) S (acc++[x]) h2 from rfl,e q];exact (Zac dd p f st xs (acc++[f x]) (fun y hy=>hx y (.tail _ hy)) (by simp;lia)).trans (by simp [q])
   | false=>exact (Zac dd p f st xs acc (fun y hy=>hx y (.tail _ hy)) (by lia)).trans (by simp [q])
theorem ZdD{h:Hd}(e:h[j]? = some (.lst xs)):Wk.stays [(j,xs)] h=true:=by simp [Wk.stays,e]
noncomputable abbrev Pr:=Nat×List Str
noncomputable def nD(ns:List Str):D:=.tup (ns.map .str)
noncomputable def pD(p:Pr):D:=.tup [nI p.1,nD p.2]
noncomputable def pk(p:Pr):NK:=((p.1:Int),p.2)
theorem Zi2:∀ ss:List Str,strsOf (ss.map D.str)=some ss
 | []=>rfl
 | s::r=>by rw [Op,strsOf,Zi2 r];rfl
theorem ZpU(p:Pr):nkD (pD p)=some (pk p):=by
 show (strsOf (p.2.map D.str)).map (fun ss=>((p.1:Int),ss))=_;rw [Zi2];rfl
theorem Zge{p q:Pr}(e:pk p=pk q):p=q:=by
 obtain ⟨a,b⟩:=p;obtain ⟨c,d⟩:=q;simp only [pk,Prod.mk.injEq,Int.natCast_inj] at e;rw [e.1,e.2]
noncomputable def bn(c:Gc)(ns:List Str):List Pr:=c.ps.map fun m=>(m,rs ns c.bd)
theorem ZeF(c:Gc):c.ps.length<=3:=by cases c<;>simp [Gc.ps]
theorem ZfP (H:Gs P) (n:Nat) {G:List Gc}{h:Hd}{m:Nat}{c:Gc} (hk:h[k]? = some (cl G)) (e:G[m]? = some c) (ns:List Str) (hn:ns.length<=2):run P (n+2) (O "beneath") [.ref k,nI m,nD ns] h=.ok (.ref (h.length+1)) (h++[.lst ((rs ns c.bd).map .str),.lst ((bn c ns).map pD)]):=by
 rw [Zl H.beneath rfl];have q1:ev (P.tbl (n+1)) (.ix (.var 0) (.var 1)) [some (.ref k),some (nI m),some (nD ns),none,none,none] h=.ok c.d h:=ZaZ rfl rfl hk e;have q2:ev (P.tbl (n+1)) (.call (O "bound_names") (.cons (.var 3) .nil)) [some (.ref k),some (nI m),some (nD ns),some c.d,none,none] h=.ok (.tup (c.bd.map .str)) h:=Zu (Zn3 H.b n c) rfl;have q3:=Zac D.str (fun x=>!decide (x∈c.bd)) D.str (src:=[]) (g:=.nm 0) (tt:=tsto (P.tbl (n+1)) (some (.ex (.cmp .NotIn (.var 0) (.var 1))))) (ee:=ev (P.tbl (n+1)) (.var 0)) (S:=[none,some (.tup (c.bd.map .str))]) (h:=h) rfl ns [] (fun x _=>⟨[some (.str x),some (.tup (c.bd.map .str))],rfl,Zcu ((Zy rfl rfl).trans Zd7),fun _=>rfl⟩) (by simp;lia);have q4:ev (P.tbl (n+1)) (.blt .tup (.cons (.comp [(O "name"),(O "bound")] [none,some 4] (.pl (.var 2)) (.nm 0) (some (.ex (.cmp .NotIn (.var 0) (.var 1)))) (.var 0)) .nil)) [some (.ref k),some (nI m),some (nD ns),some c.d,some (.tup (c.bd.map .str)),none] h=.ok (nD (rs ns c.bd)) (h++[.lst ((rs ns c.bd).map .str)]):=Zfb (Zb (Zfa (Zix rfl) q3) rfl) (Zor Zcg);have q5:=Zac nI (fun _=>true) (fun m=>pD (m,rs ns c.bd)) (src:=[]) (g:=.nm 0) (tt:=tsto (P.tbl (n+1)) none) (ee:=ev (P.tbl (n+1)) (.tupl (.cons (.var 0) (.cons (.var 1) .nil)))) (S:=[none,some (nD (rs ns c.bd))]) (h:=h++[.lst ((rs ns c.bd).map .str)]) rfl c.ps [] (fun x _=>⟨[some (nI x),some (nD (rs ns c.bd))],rfl,rfl,fun _=>ZaA rfl (by simp)⟩) (by have:=ZeF c;simp;lia);have q6:ev (P.tbl (n+1)) (.comp [(O "part"),(O "inner")] [none,some 5] (.pl (.call (O "parts_of") (.cons (.var 3) .nil))) (.nm 0) none (.tupl (.cons (.var 0) (.cons (.var 1) .nil)))) [some (.ref k),some (nI m),some (nD ns),some c.d,some (.tup (c.bd.map .str)),some (nD (rs ns c.bd))] (h++[.lst ((rs ns c.bd).map .str)])=.ok (.ref (h.length+1)) (h++[.lst ((rs ns c.bd).map .str),.lst ((bn c ns).map pD)]):=by
   rw [Zfa (Zix (Zu (Zgz H.b.toTre n c) rfl)) q5];simp [bn,List.filter_eq_self.mpr (fun (_:Nat) _=>rfl:∀ a∈c.ps,(fun _=>true) a=true),Function.comp_def]
 have w:xs2 (P.tbl (n+1)) Zf6 [some (.ref k),some (nI m),some (nD ns),none,none,none] h=.ok (.rt (.ref (h.length+1)),_) _:=(Za (Zj (i:=3) q1)).trans ((Za (Zj (i:=4) q2)).trans ((Za (Zj (i:=5) q4)).trans (Zc (Zs q6))));exact congrArg Zh w
noncomputable def cm(ns:List Str):Gc->Bool
 | .name x=>decide (x∈ns)
 | _=>false
theorem Zfg{c:Gc}{t:T}(f:Fit c t)(ns:List Str):cm ns c=mnt ns t:=by
 cases c<;>cases t<;>simp only [Fit] at f<;>first|rfl|(subst f;rfl)
theorem Zjc (H:Gs P) (n:Nat) (c:Gc) (ns:List Str) (h:Hd):run P (n+1) (O "is_meant") [c.d,nD ns] h=.ok (.bl (cm ns c)) h:=by
 rw [Zl H.is_meant rfl];have no:∀ (w:Str) (ds:List D),c.d=.tup (.str w::ds)->w≠O "name" -> cm ns c=false->Zh (xs2 (P.tbl n) ZbD [some c.d,some (nD ns)] h)=.ok (.bl (cm ns c)) h:=fun w ds e ne ec=>by
   rw [ec,e];have q0:ev (P.tbl n) (.cmp .Eq (.ix (.var 0) (.cst (.int 0))) (.cst (.str (O "name")))) [some (.tup (.str w::ds)),some (nD ns)] h=.ok (.bl false) h:=(Zy ((ZX rfl rfl).trans ZnI) rfl).trans (by rw [Zgk,ZeL];simp [ne]);have q:xs2 (P.tbl n) ZbD [some (.tup (.str w::ds)),some (nD ns)] h=.ok (.rt (.bl false),_) h:=Zc (Zs (by rw [Zgu,Zcq,q0];rfl));exact congrArg Zh q
 cases c with
 | name x =>
   have q0:ev (P.tbl n) (.cmp .Eq (.ix (.var 0) (.cst (.int 0))) (.cst (.str (O "name")))) [some (Gc.name x).d,some (nD ns)] h=.ok (.bl true) h:=(Zy ((ZX rfl rfl).trans ZnI) rfl).trans (by rw [Zgk,ZeL];simp);have q1:ev (P.tbl n) (.cmp .In (.ix (.var 0) (.cst (.int 1))) (.var 1)) [some (Gc.name x).d,some (nD ns)] h=.ok (.bl (decide (x∈ns))) h:=(Zy (x:=.str x) rfl rfl).trans Zbw;have q:xs2 (P.tbl n) ZbD [some (Gc.name x).d,some (nD ns)] h=.ok (.rt (.bl (decide (x∈ns))),_) h:=Zc (Zs (by rw [Zgu,Zcq,q0];exact q1));exact congrArg Zh q
 | op w a b=>exact no _ _ rfl (by cases w<;>simp [Wd.s]) rfl
 | num z=>exact no _ _ rfl (by simp) rfl
 | fn x e=>exact no _ _ rfl (by simp) rfl
 | rcc f x e=>exact no _ _ rfl (by simp) rfl
 | call f e=>exact no _ _ rfl (by simp) rfl
 | iff f e g=>exact no _ _ rfl (by simp) rfl
theorem ZgI(kv:List (NK×D))(k k':NK)(v:D):valN (putN kv k v) k'=if k=k' then some v else valN kv k':=by
 have A:∀ kv:List (NK×D),valN (kv.map fun kv=>if kv.1=k then (kv.1,v) else kv) k'=if k=k' then (if (kv.any fun kv=>decide (kv.1=k))=true then some v else none) else valN kv k':=by
   intro kv;induction kv with
   | nil=>simp [valN]
   | cons p r ih =>
     obtain ⟨a,b⟩:=p;unfold valN at ih ⊢;by_cases e:a=k
     . subst e;by_cases e':a=k'<;>simp_all
     . by_cases e':a=k'
       . subst e';have e2:¬ k=a:=fun z=>e z.symm;simp [e,e2]
       . rw [Op,if_neg e,List.find?_cons,List.find?_cons,List.any_cons];simp only [e',decide_false,decide_eq_false e,Bool.false_or];exact ih
 have B_:∀ kv:List (NK×D),(kv.any fun kv=>decide (kv.1=k))=false->valN (kv++[(k,v)]) k'=if k=k' then some v else valN kv k':=by
   intro kv;induction kv with
   | nil=>intro _;by_cases e:k=k'<;>simp [valN,e]
   | cons p r ih =>
     intro h;obtain ⟨a,b⟩:=p;rw [List.any_cons,Bool.or_eq_false_iff] at h;have ih:=ih h.2;have ne:¬ a=k:=by simpa using h.1
     unfold valN at ih ⊢;by_cases e':a=k'
     . subst e';have e2:¬ k=a:=fun z=>ne z.symm;simp [e2]
     . simp only [List.cons_append,List.find?_cons,e',decide_false];exact ih
 unfold putN;by_cases q:(kv.any fun kv=>decide (kv.1=k))=true
 . rw [if_pos q,A,if_pos q]
 . rw [if_neg q,B_ _ (Bool.eq_false_iff.mpr q)]
theorem Zje(kv:List (NK×D))(k:NK)(v:D):(putN kv k v).length<=kv.length+1:=by
 unfold putN;split<;>simp
noncomputable def inN(kv:List (NK×D))(p:Pr):Bool:=(valN kv (pk p)).isSome
theorem ZeY:inN (putN kv (pk p) v) q=(decide (p=q) || inN kv q):=by
 unfold inN;rw [ZgI];by_cases e:p=q
 . subst e;simp
 . have:¬ pk p=pk q:=fun z=>e (Zge z);simp [this,e]
theorem Zl5{U:Tb}{S:Ev}{h:Hd}{a b:Ex}(x:ev U a S h=.ok (pD p) h)(y:ev U b S h=.ok (.ref j) h)(hj:h[j]? = some (.dnk kv)):ev U (.nin true a b) S h=.ok (.bl (!inN kv p)) h:=by
 show (ev U a S h).bind (fun x h1=>(ev U b S h1).bind fun y h2=>ZhL true x y h2)=_;rw [x,bind_ok,y,bind_ok];unfold ZhL Zkq;simp only [hj,ZpU,if_true];rfl
theorem Ze9{U:Tb}{S:Ev}{h:Hd}{a b:Ex}(x:ev U a S h=.ok (.ref j) h)(y:ev U b S h=.ok (pD p) h)(hj:h[j]? = some (.dnk kv))(hv:valN kv (pk p)=some v):ev U (.nix a b) S h=.ok v h:=by
 show (ev U a S h).bind (fun x h1=>(ev U b S h1).bind fun y h2=>Zmp x y h2)=_;rw [x,bind_ok,y,bind_ok];unfold Zmp Zkq;simp only [hj,ZpU,hv];rfl
theorem ZoD{U:Tb}{S:Ev}{h h1:Hd}{o i e:Ex}(z:ev U e S h=.ok v h1)(x:ev U o S h1=.ok (.ref j) h1)(y:ev U i S h1=.ok (pD p) h1)(hj:h1[j]? = some (.dnk kv))(hl:kv.length<=100000):xs1 U (.npt o i e) S h=.ok (.nx,S) (h1.set j (.dnk (putN kv (pk p) v))):=by
 show (ev U e S h).bind (fun x h1=>(ev U o S h1).bind fun y h2=>(ev U i S h2).bind fun z h3=>(Zmo y z x h3).bind fun _ h4=>R.ok (Fl.nx,S) h4)=_;rw [z,bind_ok,x,bind_ok,y,bind_ok];unfold Zmo;simp only [hj,ZpU];rw [if_pos (by rw [sizeLine_eq];lia)];rfl
theorem ZlE{h:Hd}(e:h[i]? = some (.lst ys))(e':h[j]? = some (.lst zs))(ne:i≠j)(hz:ys.length+zs.length<=100000):ZaY .ext (.ref i) [.ref j] h=.ok .non (h.set i (.lst (ys++zs))):=by
 have:ys.length+zs.length<=sizeLine:=by rw [sizeLine_eq];lia
 simp [ZaY,Zd8,Zp1,e,e',lstOf,ne,this,seqOf]
end Grf
end
section
namespace Grf
open PySem L2 IV Tm
variable {P:Pg}
noncomputable def ZfH(G:List Gc)(kv:List (NK×D)):Prop:=∀ p v,valN kv (pk p)=some v->∀ t,Rd (gl G) p.1 t->v=.bl (fin p.2 t)
noncomputable def Zkz(G:List Gc)(kv:List (NK×D)):Prop:=∀ p,inN kv p=true->∀ c,G[p.1]? = some c->∀ q∈bn c p.2,q.2≠[]->inN kv q=true
structure Sf(G:List Gc)(k fk wk:Nat)(h0 h:Hd)(kv:List (NK×D))(W:List Pr):Prop where
 c:h[k]? = some (cl G)
 f:h[fk]? = some (.dnk kv)
 w:h[wk]? = some (.lst (W.map pD))
 m:Fm [fk,wk] h0 h
 ok:ZfH G kv
 cd:Zkz G kv
 nk:k≠wk
noncomputable def ef(k s fk wk:Nat)(ns:List Str)(a b c:Option D):Ev:=[some (.ref k),some (nI s),some (nD ns),some (.ref fk),some (.ref wk),a,b,c]
noncomputable def lf(P:Pg)(n F:Nat):Ev->Hd->R (Fl×Ev):=ZO (tst (P.tbl (n+3)) Zx) (xs2 (P.tbl (n+3)) ZW) F
noncomputable def wn(c:Gc)(ns:List Str):List Pr:=(bn c ns).filter fun p=>!p.2.isEmpty
theorem Zne{U:Tb}{S:Ev}{h:Hd}{a:Ex}(x:ev U a S h=.ok (pD p) h):ev U (.ix a (.cst (.int 0))) S h=.ok (nI p.1) h:=(ZX x rfl).trans rfl
theorem Znd{U:Tb}{S:Ev}{h:Hd}{a:Ex}(x:ev U a S h=.ok (pD p) h):ev U (.ix a (.cst (.int 1))) S h=.ok (nD p.2) h:=(ZX x rfl).trans rfl
theorem Zqw{U:Tb}{S:Ev}{h:Hd}{a:Ex}{W:List Pr}{p:Pr}(x:ev U a S h=.ok (.ref j) h)(hj:h[j]? = some (.lst ((W++[p]).map pD))):ev U (.ix a (.neg (.cst (.int 1)))) S h=.ok (pD p) h:=by
 rw [List.map_append] at hj;exact (ZX x rfl).trans ((ZbT hj).trans (congrArg (fun o=>R.ofO o h) (Zms (l:=W.map pD) (x:=pD p))))
theorem Zhk{U:Tb}{S:Ev}{h h1:Hd}{e:Ex}(p:ev U e S h=.ok (.ref i) h1)(l:h1[i]? = some (.lst xs)):evi U (.pl e) S h=.ok ⟨[(i,xs)],xs⟩ h1:=by rw [Ziy,p,Zd];simp [Zeq,l]
theorem ZkU(ns b:List Str):(rs ns b).length<=ns.length:=List.length_filter_le _ _
theorem Zo3{U:Tb}{S:Ev}{h:Hd}{a:Ex}(x:ev U a S h=.ok (pD p) h):tst U (.ex (.ix a (.cst (.int 1)))) S h=.ok (!p.2.isEmpty) h:=by
 rw [ZhS,Znd x,Zd];show R.ofO (some (!(p.2.map D.str).isEmpty)) h=_;rw [List.isEmpty_map];rfl
theorem ZoF(H:Gs P)(n:Nat){G:List Gc}{h0 h:Hd}{kv:List (NK×D)}{W:List Pr}{m:Nat}{ns ms:List Str}{c:Gc}(s:Sf G k fk wk h0 h kv (W++[(m,ns)]))(hn:ns.length<=2)(e:G[m]? = some c)(a b d:Option D):∃ i j h',xs1 (P.tbl (n+3)) Za5 (ef k r fk wk ms a b d) h=.ok (.nx,ef k r fk wk ms (some (.ref i)) b d) h'/\h'[i]? = some (.lst ((wn c ns).map pD))/\(∃ h'',xs1 (P.tbl (n+3)) Za4 (ef k r fk wk ms (some (.ref i)) b d) h'=.ok (.nx,ef k r fk wk ms (some (.ref i)) (some (.ref j)) d) h''/\h''[i]? = some (.lst ((wn c ns).map pD))/\h''[j]? = some (.lst (((wn c ns).filter fun p=>!inN kv p).map pD))/\(∃ g,h''=h++g)/\h.length<=i/\h.length<=j):=by
 have rb:=ZfP H (n+1) s.c e ns hn;have lb:(bn c ns).length<=3:=by unfold bn;rw [List.length_map];exact ZeF c
 have top:ev (P.tbl (n+3)) (.ix (.var 4) (.neg (.cst (.int 1)))) (ef k r fk wk ms a b d) h=.ok (pD (m,ns)) h:=Zqw rfl s.w;have e1:ev (P.tbl (n+3)) (.call (O "beneath") (.cons (.var 0) (.cons (.ix (.ix (.var 4) (.neg (.cst (.int 1)))) (.cst (.int 0))) (.cons (.ix (.ix (.var 4) (.neg (.cst (.int 1)))) (.cst (.int 1))) .nil)))) (ef k r fk wk ms a b d) h=_:=Zu rb (Zb rfl (Zb (Zne top) (Zb (Znd top) rfl)));have b1:(h++[DO.lst ((rs ns c.bd).map .str),.lst ((bn c ns).map pD)])[h.length+1]? = some (.lst ((bn c ns).map pD)):=ZqS;have e2:evi (P.tbl (n+3)) (.pl (.call (O "beneath") (.cons (.var 0) (.cons (.ix (.ix (.var 4) (.neg (.cst (.int 1)))) (.cst (.int 0))) (.cons (.ix (.ix (.var 4) (.neg (.cst (.int 1)))) (.cst (.int 1))) .nil))))) (ef k r fk wk ms a b d) h=.ok ⟨[(h.length+1,(bn c ns).map pD)],(bn c ns).map pD⟩ (h++[.lst ((rs ns c.bd).map .str),.lst ((bn c ns).map pD)]):=Zhk e1 b1;have kf:(h++[DO.lst ((rs ns c.bd).map .str),.lst ((bn c ns).map pD)])[fk]? = some (.dnk kv):=keep s.f;have l0:(h++[DO.lst ((rs ns c.bd).map .str),.lst ((bn c ns).map pD)]).length=h.length+2:=by simp
 have hx:∃ g,h++[DO.lst ((rs ns c.bd).map .str),.lst ((bn c ns).map pD)]=h++g:=⟨_,rfl⟩
 generalize h++[DO.lst ((rs ns c.bd).map .str),.lst ((bn c ns).map pD)]=h1 at *;have e3:=Zac pD (fun p=>!p.2.isEmpty) pD (src:=[(h.length+1,(bn c ns).map pD)]) (g:=.nm 0) (tt:=tsto (P.tbl (n+3)) (some (.ex (.ix (.var 0) (.cst (.int 1)))))) (ee:=ev (P.tbl (n+3)) (.var 0)) (S:=[none]) (ZdD b1) (bn c ns) [] (fun x _=>⟨[some (pD x)],rfl,Zo3 rfl,fun _=>rfl⟩) (by simp;lia);have lw:(wn c ns).length<=3:=OE (List.length_filter_le _ _) lb;have k1:(h1++[DO.lst ((wn c ns).map pD)])[h1.length]? = some (.lst ((wn c ns).map pD)):=Zcg;have kf2:(h1++[DO.lst ((wn c ns).map pD)])[fk]? = some (.dnk kv):=keep kf;have e4:=Zac pD (fun p=>!inN kv p) pD (src:=[(h1.length,(wn c ns).map pD)]) (g:=.nm 0) (tt:=tsto (P.tbl (n+3)) (some (.ex (.nin true (.var 0) (.var 1))))) (ee:=ev (P.tbl (n+3)) (.var 0)) (S:=[none,some (.ref fk)]) (ZdD k1) (wn c ns) [] (fun x _=>⟨[some (pD x),some (.ref fk)],rfl,Zcu (Zl5 rfl rfl kf2),fun _=>rfl⟩) (by simp;lia);obtain ⟨g,rfl⟩:=hx;refine ⟨_,_,_,Zj (i:=5) (Zfa e2 e3),k1,_,Zj (i:=6) (Zfa (Zhk rfl k1) e4),keep k1,Zcg,⟨_,by rw [Oz,Oz]⟩,by simp,by simp [l0]⟩
theorem Zie:p∈bn c ns↔p.1∈c.ps/\p.2=rs ns c.bd:=by
 unfold bn;rw [List.mem_map];constructor
 . rintro ⟨q,hq,rfl⟩;exact ⟨hq,rfl⟩
 . intro h;exact ⟨p.1,h.1,by rw [<- h.2]⟩
theorem ZlF:p∈wn c ns↔p.1∈c.ps/\p.2=rs ns c.bd/\p.2≠[]:=by
 unfold wn;rw [List.mem_filter,Zie,and_assoc];simp
theorem Sf.ne(s:Sf G k fk wk h0 h kv W):k≠fk/\fk≠wk:=⟨fun z=>(by have a:=s.c;rw [z,s.f] at a;cases a),fun z=>(by have a:=s.f;rw [z,s.w] at a;cases a)⟩
theorem Zs9{h:Hd}{bs:List Bool}(e:h[i]? = some (.lst (bs.map .bl))):Za9 GD .anb [.ref i] h=.ok (.bl (bs.any id)) h:=by
 have:∀ bs:List Bool,Zd2 (bs.map D.bl)=some bs:=by
   intro bs;induction bs with
   | nil=>rfl
   | cons b r ih=>rw [Op,Zd2,ih];rfl
 show R.ofO (((lstOf (.ref i) h).bind Zd2).map fun bs=>D.bl (bs.any id)) h=_;rw [show lstOf (.ref i) h=some (bs.map D.bl) by simp [lstOf,e],Option.bind_some,this];rfl
noncomputable def fv(kv:List (NK×D))(p:Pr):Bool:=match valN kv (pk p) with
 | some (.bl b)=>b
 | _=>false
theorem ZlV{G:List Gc}{kv:List (NK×D)}(ok:ZfH G kv)(i:inN kv p=true)(rd:Rd (gl G) p.1 t):valN kv (pk p)=some (.bl (fv kv p))/\fv kv p=fin p.2 t:=by
 obtain ⟨v,e⟩:=Option.isSome_iff_exists.mp i;have:=ok p v e t rd;subst this;unfold fv;rw [e];exact ⟨rfl,rfl⟩
theorem ZqT{G:List Gc}{kv:List (NK×D)}(ok:ZfH G kv)(ns:List Str):∀ {ps:List Nat}{ts:List T},Paired (Rd (gl G)) ps ts->(∀ p∈(ps.map fun m=>(m,ns)).filter fun p=>!p.2.isEmpty,inN kv p=true)->(((ps.map fun m=>(m,ns)).filter fun p=>!p.2.isEmpty).map (fv kv)).any id=ts.any (fin ns):=by
 intro ps ts q hi;induction q with
 | nil=>rfl
 | @cons m t ps ts a q ih =>
   rw [Op,List.filter_cons] at hi ⊢;cases ns with
   | nil =>
     have e:=ih fun p hp=>hi p (by simpa using hp);rw [List.any_cons,ZQ,Bool.false_or,<- e];rfl
   | cons x r =>
     have yes:(!(m,x::r).2.isEmpty)=true:=rfl;rw [if_pos yes] at hi ⊢;have e:=ih fun p hp=>hi p (.tail _ hp);have i:=hi (m,x::r) (.head _);rw [Op,List.any_cons,List.any_cons,e,(ZlV ok i a).2];rfl
theorem ZoG(H:Gs P)(n:Nat){G:List Gc}{h0 h:Hd}{kv:List (NK×D)}{W:List Pr}{m:Nat}{ns ms:List Str}{c:Gc}{t:T}(s:Sf G k fk wk h0 h kv (W++[(m,ns)]))(hn:ns.length<=2)(e:G[m]? = some c)(f:Fit c t)(pp:Paired (Rd (gl G)) c.ps t.parts)(all:∀ p∈wn c ns,inN kv p=true)(hl:kv.length<=100000)(a b d:Option D):∃ h' a' b' d',xs2 (P.tbl (n+3)) ZW (ef k r fk wk ms a b d) h=.ok (.nx,ef k r fk wk ms a' b' d') h'/\Sf G k fk wk h0 h' (putN kv (pk (m,ns)) (.bl (fin ns t))) W:=by
 obtain ⟨i,j,h',x1,_,h2,x2,ki,kj,⟨g,rfl⟩,li,lj⟩:=ZoF H n (r:=r) (ms:=ms) s hn e a b d;have no:((wn c ns).filter fun p=>!inN kv p)=[]:=List.filter_eq_nil_iff.mpr fun p hp=>by simp [all p hp]
 rw [no] at kj;have kw:(h++g)[wk]? = some (.lst (W.map pD++[pD (m,ns)])):=by rw [keep s.w];simp
 have kc:(h++g)[k]? = some (cl G):=keep s.c;have kf:(h++g)[fk]? = some (.dnk kv):=keep s.f;have fm:Fm [fk,wk] h0 (h++g):=s.m.trans .app;obtain ⟨n1,n2⟩:=s.ne;have lw:=Zw s.w;have lf:=Zw s.f;generalize h++g=h2 at *;have te:tst (P.tbl (n+3)) Zaa (ef k r fk wk ms (some (.ref i)) (some (.ref j)) d) h2=.ok false h2:=ZiX (i:=j) rfl kj;have x3:xs1 (P.tbl (n+3)) Zan (ef k r fk wk ms (some (.ref i)) (some (.ref j)) d) h2=.ok (.nx,ef k r fk wk ms (some (.ref i)) (some (.ref j)) (some (pD (m,ns)))) (h2.set wk (.lst (W.map pD))):=Zj (i:=7) (Zko (i:=wk) rfl kw rfl (ZeO kw));have kw3:(h2.set wk (.lst (W.map pD)))[wk]? = some (.lst (W.map pD)):=by rw [Ol (Zw kw)]
 have kc3:(h2.set wk (.lst (W.map pD)))[k]? = some (cl G):=by rw [Oc (fun z=>s.nk z.symm)];exact kc
 have kf3:(h2.set wk (.lst (W.map pD)))[fk]? = some (.dnk kv):=by rw [Oc (fun z=>n2 z.symm)];exact kf
 have ki3:(h2.set wk (.lst (W.map pD)))[i]? = some (.lst ((wn c ns).map pD)):=by rw [Oc (by lia)];exact ki
 have fm3:Fm [fk,wk] h0 (h2.set wk (.lst (W.map pD))):=fm.trans (.set (by simp));generalize h2.set wk (.lst (W.map pD))=h3 at *;have e1:ev (P.tbl (n+3)) (.call (O "is_meant") (.cons (.ix (.var 0) (.ix (.var 7) (.cst (.int 0)))) (.cons (.ix (.var 7) (.cst (.int 1))) .nil))) (ef k r fk wk ms (some (.ref i)) (some (.ref j)) (some (pD (m,ns)))) h3=.ok (.bl (cm ns c)) h3:=Zu (Zjc H (n+2) c ns h3) (Zb (ZaZ (k:=k) (n:=m) rfl (Zne (p:=(m,ns)) rfl) kc3 e) (Zb (Znd (p:=(m,ns)) rfl) rfl));have vals:∀ p∈wn c ns,valN kv (pk p)=some (.bl (fv kv p)):=fun p hp=>by
   obtain ⟨s',_,rd⟩:=ZcU pp p.1 (ZlF.mp hp).1;exact (ZlV s.ok (all _ hp) rd).1
 have lw3:(wn c ns).length<=3:=OE (List.length_filter_le _ _) (by unfold bn;rw [List.length_map];exact ZeF c);have e2:=Zac pD (fun _=>true) (fun p=>D.bl (fv kv p)) (src:=[(i,(wn c ns).map pD)]) (g:=.nm 0) (tt:=tsto (P.tbl (n+3)) none) (ee:=ev (P.tbl (n+3)) (.nix (.var 1) (.var 0))) (S:=[none,some (.ref fk)]) (ZdD ki3) (wn c ns) [] (fun x hx=>⟨[some (pD x),some (.ref fk)],rfl,rfl,fun _=>Ze9 (j:=fk) (p:=x) rfl rfl kf3 (vals x hx)⟩) (by simp;lia);have e2':ev (P.tbl (n+3)) (.comp [(O "part"),(O "free")] [none,some 3] (.pl (.var 5)) (.nm 0) none (.nix (.var 1) (.var 0))) (ef k r fk wk ms (some (.ref i)) (some (.ref j)) (some (pD (m,ns)))) h3=.ok (.ref h3.length) (h3++[.lst (((wn c ns).map (fv kv)).map .bl)]):=by
   rw [Zfa (Zhk (i:=i) rfl ki3) e2,List.filter_eq_self.mpr (fun _ _=>rfl),List.map_map];rfl
 have e3:ev (P.tbl (n+3)) (.blt .anb (.cons (.comp [(O "part"),(O "free")] [none,some 3] (.pl (.var 5)) (.nm 0) none (.nix (.var 1) (.var 0))) .nil)) (ef k r fk wk ms (some (.ref i)) (some (.ref j)) (some (pD (m,ns)))) h3=.ok (.bl (t.parts.any (fin (rs ns c.bd)))) (h3++[.lst (((wn c ns).map (fv kv)).map .bl)]):=by
   rw [Zfb (Zb e2' rfl) (Zs9 Zcg)];rw [show ((wn c ns).map (fv kv)).any id=t.parts.any (fin (rs ns c.bd)) from ZqT s.ok (rs ns c.bd) pp all]
 have ff:fin ns t=(cm ns c || t.parts.any (fin (rs ns c.bd))):=by rw [ZlZ,Zfg f,(ZbC f).2.1]
 have e4:∃ g,ev (P.tbl (n+3)) (.ors (.cons (.call (O "is_meant") (.cons (.ix (.var 0) (.ix (.var 7) (.cst (.int 0)))) (.cons (.ix (.var 7) (.cst (.int 1))) .nil))) (.cons (.blt .anb (.cons (.comp [(O "part"),(O "free")] [none,some 3] (.pl (.var 5)) (.nm 0) none (.nix (.var 1) (.var 0))) .nil)) .nil))) (ef k r fk wk ms (some (.ref i)) (some (.ref j)) (some (pD (m,ns)))) h3=.ok (.bl (fin ns t)) (h3++g):=by
   rw [Zqy,Zl7,e1,Zd,ff];cases cm ns c with
   | true=>exact ⟨[],by rw [List.append_nil];rfl⟩
   | false=>exact ⟨_,e3⟩
 obtain ⟨g',e4⟩:=e4;have x4:=ZoD (o:=.var 3) (i:=.var 7) (p:=(m,ns)) e4 rfl rfl (keep kf3) hl;refine ⟨_,_,_,_,(Za x1).trans ((Za x2).trans ((Za ((Zab te).trans ((Za x3).trans ((Za x4).trans rfl)))).trans rfl)),?_⟩;have kc4:(h3++g')[k]? = some (cl G):=keep kc3;have kw4:(h3++g')[wk]? = some (.lst (W.map pD)):=keep kw3;have kf4:(h3++g')[fk]? = some (.dnk kv):=keep kf3;refine ⟨by rw [Oc (fun z=>n1 z.symm)];exact kc4,by rw [Ol (Zw kf4)],by rw [Oc n2];exact kw4,(fm3.trans .app).trans (.set (by simp)),?_,?_,s.nk⟩
 . intro p v hv t' rd';rw [ZgI] at hv;by_cases z:pk (m,ns)=pk p
   . rw [if_pos z] at hv;cases hv;have z:=Zge z;subst z;rw [(Rd.mk e f pp).one rd']
   . rw [if_neg z] at hv;exact s.ok p v hv t' rd'
 . intro p hp c' e' q hq hq2;rw [ZeY] at hp ⊢;rw [Bool.or_eq_true];refine .inr ?_;rcases Bool.or_eq_true _ _ ▸ hp with z|z
   . have z:=of_decide_eq_true z;subst z;rw [e] at e';cases e';exact all q (ZlF.mpr ⟨(Zie.mp hq).1,(Zie.mp hq).2,hq2⟩)
   . exact s.cd p z c' e' q hq hq2
end Grf
end
section
namespace Grf
open PySem L2 IV Tm
variable {P:Pg}
noncomputable def smz(VS:List (Pr×T)):Nat:=(VS.map fun x=>x.2.size).sum
theorem Zbm(x:Pr×T)(VS:List (Pr×T)):smz (x::VS)=x.2.size+smz VS:=by simp [smz]
theorem Zeh(VS:List (Pr×T)):smz VS.reverse=smz VS:=by unfold smz;rw [List.map_reverse,List.sum_reverse]
theorem Zf9:∀ VS:List (Pr×T),VS.length<=smz VS
 | []=>Oq _
 | x::VS=>by have:=Zf9 VS;have:=ZP x.2;rw [Zbm,Os];lia
noncomputable def ccs(VS:List (Pr×T)):Nat:=(VS.map fun x=>cc x.1.2 x.2).sum
theorem Zfh(x:Pr×T)(VS:List (Pr×T)):ccs (x::VS)=cc x.1.2 x.2+ccs VS:=by simp [ccs]
theorem ZhP{g:Nat->Option Gc}(ns:List Str)(φ:Pr->Bool):∀ {ps:List Nat}{ts:List T},Paired (Rd g) ps ts->∃ VS:List (Pr×T),VS.map (·.1)=(ps.map fun m=>(m,ns)).filter φ/\(∀ x∈VS,Rd g x.1.1 x.2/\x.1.2=ns)/\smz VS<=(ts.map T.size).sum/\ccs VS<=(ts.map (cc ns)).sum
 | _,_,.nil=>⟨[],rfl,fun _ h=>(by cases h),Oq _,Oq _⟩
 | _,_,.cons (a:=m) (b:=t) r q=>by
   obtain ⟨VS,e,hx,hz,hc⟩:=ZhP ns φ q;rw [Op,Op,List.filter_cons,OI,Op,OI];cases φ (m,ns) with
   | true=>exact ⟨((m,ns),t)::VS,by rw [Op,e];rfl,fun x h=>(O2.mp h).elim (fun z=>z ▸ ⟨r,rfl⟩) (hx x),by rw [Zbm];lia,by rw [Zfh];show cc ns t+ccs VS<=_;lia⟩
   | false=>exact ⟨VS,e,hx,by lia,by lia⟩
theorem Zqu(H:Gs P)(n:Nat){G:List Gc}{h0 h:Hd}{kv:List (NK×D)}{W:List Pr}{m:Nat}{ns ms:List Str}{c:Gc}(s:Sf G k fk wk h0 h kv (W++[(m,ns)]))(hn:ns.length<=2)(e:G[m]? = some c)(some':((wn c ns).filter fun p=>!inN kv p)≠[])(hl:W.length<=30000)(a b d:Option D):∃ h' a' b' d',xs2 (P.tbl (n+3)) ZW (ef k r fk wk ms a b d) h=.ok (.nx,ef k r fk wk ms a' b' d') h'/\Sf G k fk wk h0 h' kv (W++[(m,ns)]++(wn c ns).filter fun p=>!inN kv p):=by
 obtain ⟨i,j,h',x1,_,h2,x2,ki,kj,⟨g,rfl⟩,li,lj⟩:=ZoF H n (r:=r) (ms:=ms) s hn e a b d;have lw3:((wn c ns).filter fun p=>!inN kv p).length<=3:=OE (List.length_filter_le _ _) (OE (List.length_filter_le _ _) (by unfold bn;rw [List.length_map];exact ZeF c));generalize ((wn c ns).filter fun p=>!inN kv p)=U at *;have kw:(h++g)[wk]? = some (.lst ((W++[(m,ns)]).map pD)):=keep s.w;have kc:(h++g)[k]? = some (cl G):=keep s.c;have kf:(h++g)[fk]? = some (.dnk kv):=keep s.f;have fm:Fm [fk,wk] h0 (h++g):=s.m.trans .app;obtain ⟨n1,n2⟩:=s.ne;have lw:=Zw s.w;generalize h++g=h2 at *;have te:tst (P.tbl (n+3)) Zaa (ef k r fk wk ms (some (.ref i)) (some (.ref j)) d) h2=.ok true h2:=ZV (ZiX (i:=j) rfl kj) (by cases U with|nil=>exact absurd rfl some'|cons=>rfl);have x3:xs1 (P.tbl (n+3)) Zam (ef k r fk wk ms (some (.ref i)) (some (.ref j)) d) h2=.ok (.nx,ef k r fk wk ms (some (.ref i)) (some (.ref j)) d) _:=Zhm (Zko (i:=wk) rfl kw rfl (ZlE kw kj (by lia) (by simp;lia)));refine ⟨_,_,_,_,(Za x1).trans ((Za x2).trans ((Za ((ZZ te).trans ((Za x3).trans rfl))).trans rfl)),?_⟩;exact ⟨by rw [Oc (fun z=>s.nk z.symm)];exact kc,by rw [Oc (fun z=>n2 z.symm)];exact kf,by rw [Ol (Zw kw),List.map_append (l₁:=W++[(m,ns)])],fm.trans (.set (by simp)),s.ok,s.cd,s.nk⟩
theorem Zl2(n:Nat){G:List Gc}{h0 h:Hd}{kv:List (NK×D)}{W:List Pr}(s:Sf G k fk wk h0 h kv W)(a b d:Option D):tst (P.tbl (n+3)) Zx (ef k r fk wk ms a b d) h=.ok (!W.isEmpty) h:=ZV (ZiX (i:=wk) rfl s.w) (by rw [List.isEmpty_map])
noncomputable def Gf(P:Pg)(n:Nat)(G:List Gc)(k fk wk:Nat)(h0:Hd)(r:Nat)(ms:List Str)(z:Nat)(W U:List Pr)(h:Hd)(kv:List (NK×D))(a b d:Option D):Prop:=∃ q h' kv' a' b' d',q<=2 * z/\(∀ F,lf P n (F+q) (ef k r fk wk ms a b d) h=lf P n F (ef k r fk wk ms a' b' d') h')/\Sf G k fk wk h0 h' kv' W/\kv'.length<=kv.length+q/\(∀ p,inN kv p=true->inN kv' p=true)/\∀ p∈U,inN kv' p=true
theorem Zsn(H:Gs P)(n:Nat){G:List Gc}{h0:Hd}{r:Nat}{ms:List Str}:∀ (z:Nat) (t:T) (m:Nat) (ns:List Str) (W:List Pr) (h:Hd) (kv:List (NK×D)) (a b d:Option D),t.size<=z->Rd (gl G) m t->ns.length<=2->Sf G k fk wk h0 h kv (W++[(m,ns)])->W.length+t.size<=30000->kv.length+2 * t.size<=100000->Gf P n G k fk wk h0 r ms t.size W [(m,ns)] h kv a b d
 | 0,t,m,ns,W,h,kv,a,b,d,hz,_,_,_,_,_=>by have:=ZP t;lia
 | z+1,t,m,ns,W,h,kv,a,b,d,hz,rd,hn,s,hW,hk=>by
   have L:∀ (VS:List (Pr×T)) (W:List Pr) (h:Hd) (kv:List (NK×D)) (a b d:Option D),(∀ x∈VS,Rd (gl G) x.1.1 x.2/\x.1.2.length<=2)->smz VS<=z->Sf G k fk wk h0 h kv (W++(VS.map (·.1)).reverse)->W.length+smz VS<=30000->kv.length+2 * smz VS<=100000->Gf P n G k fk wk h0 r ms (smz VS) W (VS.map (·.1)) h kv a b d:=by
     intro VS;induction VS with
     | nil=>intro W h kv a b d _ _ s _ _;exact ⟨0,h,kv,a,b,d,Nat.zero_le _,fun F=>rfl,by simpa using s,Oq _,fun _ x=>x,fun _ h=>by cases h⟩
     | cons x VS ih =>
       intro W h kv a b d hx hz s hW hk;rw [Zbm] at hz hW hk;have lv:=Zf9 VS;obtain ⟨r1,r2⟩:=hx x (.head _);obtain ⟨q1,h1,kv1,a1,b1,d1,l1,e1,s1,v1,m1,i1⟩:=Zsn H n z x.2 x.1.1 x.1.2 (W++(VS.map (·.1)).reverse) h kv a b d (by lia) r1 r2 (by simpa using s) (by simp;lia) (by lia);obtain ⟨q2,h2,kv2,a2,b2,d2,l2,e2,s2,v2,m2,i2⟩:=ih W h1 kv1 a1 b1 d1 (fun y hy=>hx y (.tail _ hy)) (by lia) s1 (by lia) (by lia);refine ⟨q2+q1,h2,kv2,a2,b2,d2,by rw [Zbm];lia,fun F=>?_,s2,by lia,fun p hp=>m2 p (m1 p hp),fun p hp=>?_⟩
       . rw [<- Nat.add_assoc,e1,e2]
       . rw [Op] at hp;rcases O2.mp hp with rfl|hp
         . exact m2 _ (i1 _ (.head _))
         . exact i2 p hp
   obtain ⟨c,e,f,pp,_⟩:=rd.at;have sz:=ZJ t;have ts:tst (P.tbl (n+3)) Zx (ef k r fk wk ms a b d) h=.ok true h:=ZV (Zl2 n s a b d) (by simp);by_cases all:∀ p∈wn c ns,inN kv p=true
   . obtain ⟨h1,a1,b1,d1,e1,s1⟩:=ZoG H n (r:=r) (ms:=ms) s hn e f pp all (by lia) a b d;exact ⟨1,h1,_,a1,b1,d1,by lia,fun F=>Zch ts e1,s1,Zje _ _ _,fun p hp=>by rw [ZeY,hp,Bool.or_true],fun p hp=>by rw [Ox.mp hp,ZeY];simp⟩
   . have ne:((wn c ns).filter fun p=>!inN kv p)≠[]:=fun z=>all fun p hp=>by simpa using List.filter_eq_nil_iff.mp z p hp
     obtain ⟨h1,a1,b1,d1,e1,s1⟩:=Zqu H n (r:=r) (ms:=ms) s hn e ne (by lia) a b d;obtain ⟨VS,eV,hV,zV,_⟩:=ZhP (g:=gl G) (rs ns c.bd) (fun p=>(!inN kv p)&&!p.2.isEmpty) pp;have eU:((wn c ns).filter fun p=>!inN kv p)=VS.map (·.1):=by rw [eV];unfold wn bn;rw [List.filter_filter]
     rw [eU] at s1;have rl:=ZkU ns c.bd;obtain ⟨q2,h2,kv2,a2,b2,d2,l2,e2,s2,v2,m2,i2⟩:=L VS.reverse (W++[(m,ns)]) h1 kv a1 b1 d1 (fun x hx=>⟨(hV x (List.mem_reverse.mp hx)).1,by rw [(hV x (List.mem_reverse.mp hx)).2];lia⟩) (by rw [Zeh];lia) (by rw [List.map_reverse,List.reverse_reverse];exact s1) (by rw [Zeh];simp;lia) (by rw [Zeh];lia);have all2:∀ p∈wn c ns,inN kv2 p=true:=fun p hp=>by
       cases w:inN kv p with
       | true=>exact m2 p w
       | false=>exact i2 p (by rw [List.map_reverse,List.mem_reverse,<- eU];exact List.mem_filter.mpr ⟨hp,by rw [w];rfl⟩)
     rw [Zeh] at l2;have ts2:tst (P.tbl (n+3)) Zx (ef k r fk wk ms a2 b2 d2) h2=.ok true h2:=ZV (Zl2 n s2 a2 b2 d2) (by simp);obtain ⟨h3,a3,b3,d3,e3,s3⟩:=ZoG H n (r:=r) (ms:=ms) s2 hn e f pp all2 (by lia) a2 b2 d2;refine ⟨1+q2+1,h3,_,a3,b3,d3,by lia,fun F=>?_,s3,OE (Zje _ _ _) (by lia),fun p hp=>by rw [ZeY,m2 p hp,Bool.or_true],fun p hp=>by rw [Ox.mp hp,ZeY];simp⟩;have w1:lf P n (F+1+q2+1) (ef k r fk wk ms a b d) h=lf P n (F+1+q2) (ef k r fk wk ms a1 b1 d1) h1:=Zch ts e1;have w3:lf P n (F+1) (ef k r fk wk ms a2 b2 d2) h2=lf P n F (ef k r fk wk ms a3 b3 d3) h3:=Zch ts2 e3;rw [show F+(1+q2+1)=F+1+q2+1 by lia,w1,e2,w3]
theorem Zpi (H:Gs P) (n:Nat) {G:List Gc}{h:Hd}{m:Nat}{ns:List Str}{t:T} (hk:h[k]? = some (cl G)) (rd:Rd (gl G) m t) (hz:t.size<=20000) (hn:ns.length<=2):∃ h' fk kv,run P (n+4) (O "free_beneath") [.ref k,nI m,nD ns] h=.ok (.ref fk) h'/\h'[fk]? = some (.dnk kv)/\h.length<=fk/\Fm [] h h'/\ZfH G kv/\Zkz G kv/\inN kv (m,ns)=true:=by
 have big:=H.b.big;have lk:=Zw hk;have s0:Sf G k h.length (h.length+1) h (h++[DO.dnk [],.lst [pD (m,ns)]]) [] ([]++[(m,ns)]):=⟨keep hk,Zcg,ZqS,.app,fun p v e=>(by cases e),fun p e=>(by cases e),by lia⟩
 obtain ⟨q,h1,kv,a,b,d,l1,e1,s1,_,_,i1⟩:=Zsn H n (r:=m) (ms:=ns) t.size t m ns [] _ [] none none none (Oq _) rd hn s0 (by simp;lia) (by simp;lia);have te:tst (P.tbl (n+3)) Zx (ef k m h.length (h.length+1) ns a b d) h1=.ok false h1:=Zl2 n s1 a b d;obtain ⟨F,hF⟩:∃ F,P.L=F+1+q:=⟨P.L - 1 - q,by lia⟩
 have w:lf P n P.L (ef k m h.length (h.length+1) ns none none none) (h++[DO.dnk [],.lst [pD (m,ns)]])=.ok (.nx,ef k m h.length (h.length+1) ns a b d) h1:=by
   rw [hF,e1];exact Zef te
 refine ⟨h1,h.length,kv,?_,s1.f,Oq _,s1.m.cut (fun i hi=>.inr (by simp at hi;lia)),s1.ok,s1.cd,i1 _ (.head _)⟩;rw [Zl H.free_beneath rfl];have x1:xs1 (P.tbl (n+3)) Zbt [some (.ref k),some (nI m),some (nD ns),none,none,none,none,none] h=.ok (.nx,[some (.ref k),some (nI m),some (nD ns),some (.ref h.length),none,none,none,none]) (h++[.dnk []]):=Zj (i:=3) rfl;have x2:xs1 (P.tbl (n+3)) Zbs [some (.ref k),some (nI m),some (nD ns),some (.ref h.length),none,none,none,none] (h++[.dnk []])=.ok (.nx,ef k m h.length (h.length+1) ns none none none) (h++[.dnk [],.lst [pD (m,ns)]]):=by
   have q:ev (P.tbl (n+3)) (.lstl (.cons (.tupl (.cons (.var 1) (.cons (.var 2) .nil))) .nil)) [some (.ref k),some (nI m),some (nD ns),some (.ref h.length),none,none,none,none] (h++[.dnk []])=.ok (.ref (h.length+1)) (h++[.dnk [],.lst [pD (m,ns)]]):=by
     rw [ZsN (xs:=[pD (m,ns)]) (Zb (ZaA (xs:=[nI m,nD ns]) rfl (by simp)) rfl) (by simp)];simp
   exact Zj (i:=4) q
 have wv:xs2 (P.tbl (n+3)) Zcf [some (.ref k),some (nI m),some (nD ns),none,none,none,none,none] h=.ok (.rt (.ref h.length),_) h1:=(Za x1).trans ((Za x2).trans ((Za (s:=Zbr) (Zee.trans w)).trans (Zc (Zs rfl))));exact congrArg Zh wv
end Grf
end
section
namespace Grf
open PySem L2 IV Tm
variable {P:Pg}
structure Adr where
 o:Nat
 k:Nat
 m:Nat
 f:Nat
 n:Nat
 w:Nat
noncomputable def cpD (A:Adr):DO:=.ins (O "Copier") [(O "cells",.ref A.k),(O "meant",.ref A.m),(O "free",.ref A.f),(O "known",.ref A.n),(O "waiting",.ref A.w)]
noncomputable def knF:Nat->List Pr->List (NK×D)
 | _,[]=>[]
 | i,p::r=>(pk p,nI i)::knF (i+1) r
theorem Zjx:∀ (K:List Pr) (i:Nat) (p:Pr),knF i (K++[p])=knF i K++[(pk p,nI (i+K.length))]
 | [],i,p=>rfl
 | q::K,i,p=>by rw [List.cons_append,knF,Zjx K,knF,List.cons_append,Os,show i+1+K.length=i+(K.length+1) by lia]
theorem Zjw:∀ (K:List Pr) (i:Nat),(knF i K).length=K.length
 | [],i=>rfl
 | q::K,i=>by rw [knF,Os,Zjw K,Os]
theorem ZeT:∀ (K:List Pr) (i:Nat) {p:Pr},p∈K->∃ j,K[j]? = some p/\valN (knF i K) (pk p)=some (nI (i+j))
 | [],i,p,h=>by cases h
 | q::K,i,p,h=>by
   unfold valN;rw [knF,List.find?_cons];by_cases e:q=p
   . subst e;exact ⟨0,rfl,by simp⟩
   . obtain ⟨j,e1,e2⟩:=ZeT K (i+1) ((O2.mp h).resolve_left fun z=>e z.symm);refine ⟨j+1,e1,?_⟩;rw [decide_eq_false fun z=>e (Zge z)];unfold valN at e2;exact e2.trans (by rw [show i+1+j=i+(j+1) by lia])
theorem Zim:∀ (K:List Pr) (i:Nat) {p:Pr},p ∉ K->((knF i K).any fun kv=>decide (kv.1=pk p))=false
 | [],i,p,h=>rfl
 | q::K,i,p,h=>by
   rw [knF,List.any_cons,Zim K (i+1) fun z=>h (.tail _ z),decide_eq_false fun z=>h (by rw [Zge z];exact .head _)];rfl
theorem ZnE(K:List Pr)(i:Nat){p:Pr}(h:p ∉ K):putN (knF i K) (pk p) (nI (i+K.length))=knF i (K++[p]):=by
 unfold putN;rw [Zim K i h,if_neg (by simp),Zjx]
theorem ZsA(K:List Pr)(i:Nat)(p:Pr):inN (knF i K) p=decide (p∈K):=by
 by_cases h:p∈K
 . obtain ⟨j,_,e⟩:=ZeT K i h;unfold inN;rw [e,decide_eq_true h];rfl
 . rw [decide_eq_false h];unfold inN valN;have:=Zim K i h;rw [Option.isSome_map];rw [List.any_eq_false] at this;rw [List.find?_eq_none.mpr this];rfl
structure Sc(A:Adr)(G:List Gc)(kv:List (NK×D))(md:List (Key×D))(h0 h:Hd)(K:List Pr)(N:List Gc)(W:List (Pr×T)):Prop where
 o:h[A.o]? = some (cpD A)
 c:h[A.k]? = some (cl (G++N))
 m:h[A.m]? = some (.dic md)
 f:h[A.f]? = some (.dnk kv)
 n:h[A.n]? = some (.dnk (knF G.length K))
 w:h[A.w]? = some (.lst (W.map fun x=>pD x.1))
 fm:Fm [A.k,A.n,A.w] h0 h
 kw:A.k≠A.w
 fn:A.f≠A.n
noncomputable def Std(G:List Gc)(md:List (Key×D))(K:List Pr)(p:Pr)(num:Nat):Prop:=∃ t c,Rd (gl G) p.1 t/\G[p.1]? = some c/\((c.isV=true/\fin p.2 t=false/\num=p.1)\/(∃ x,c=.name x/\x∈p.2/\ZE md (.inr x)=some (nI num))\/(cm p.2 c=false/\∃ j,K[j]? = some p/\num=G.length+j))
theorem Zau{K L:List α}{j:Nat}(e:K[j]? = some p):(K++L)[j]? = some p:=by rw [Oe (Ob.mp e).1];exact e
theorem Std.mono(s:Std G md K p num)(L:List Pr):Std G md (K++L) p num:=by
 obtain ⟨t,c,a,b,d⟩:=s;refine ⟨t,c,a,b,d.imp id (Or.imp id fun z=>⟨z.1,?_⟩)⟩;obtain ⟨_,j,e,f⟩:=z;exact ⟨j,Zau e,f⟩
structure Gd(G:List Gc)(kv:List (NK×D))(nm:List Str)(p:Pr)(t:T):Prop where
 r:Rd (gl G) p.1 t
 i:inN kv p=true
 e:p.2≠[]
 l:p.2.length<=2
 s:∀ x∈p.2,x∈nm
structure Pu(G:List Gc)(kv:List (NK×D))(md:List (Key×D))(nm:List Str)(K:List Pr)(N:List Gc)(W:List (Pr×T))(X:List Pr):Prop where
 l:N.length=K.length
 nd:K.Nodup
 g:∀ p∈K,∃ t c,Gd G kv nm p t/\G[p.1]? = some c/\(c.isV=true->fin p.2 t=true)/\cm p.2 c=false
 w:∀ x∈W,x.1∈K/\Rd (gl G) x.1.1 x.2
 d:∀ (j:Nat) (p:Pr),K[j]? = some p->p ∉ W.map (·.1)->p ∉ X->∃ c nums,G[p.1]? = some c/\N[j]? = some (c.wp nums)/\Paired (Std G md K) (bn c p.2) nums
noncomputable def dz(W:List (Pr×T)):Nat:=(W.map fun x=>cc x.1.2 x.2 - 1).sum
theorem Zma(W:List (Pr×T))(x:Pr×T):dz (W++[x])=dz W+(cc x.1.2 x.2 - 1):=by simp [dz]
theorem Zi3(W:List (Pr×T))(x:Pr×T):smz (W++[x])=smz W+x.2.size:=by simp [smz]
structure Mt(G:List Gc)(md:List (Key×D))(M:List (Str×T))(nm:List Str):Prop where
 v:∀ x∈nm,∃ a v,ZE md (.inr x)=some (nI a)/\get (M.map fun p=>(p.1,some p.2)) x=some v/\Rd (gl G) a v
section
variable {U:Tb}{S:Ev}{h:Hd}{A:Adr}
theorem Zkw (e:h[A.o]? = some (cpD A)) (q:ev U a S h=.ok (.ref A.o) h):ev U (.att [(O "Copier")] a (O "cells")) S h=.ok (.ref A.k) h:=by rw [Zfc,q,Zd];simp [Ze1,Zai,e,cpD,List.lookup]
theorem Zs4 (e:h[A.o]? = some (cpD A)) (q:ev U a S h=.ok (.ref A.o) h):ev U (.att [(O "Copier")] a (O "meant")) S h=.ok (.ref A.m) h:=by rw [Zfc,q,Zd];simp [Ze1,Zai,e,cpD,List.lookup]
theorem ZuB (e:h[A.o]? = some (cpD A)) (q:ev U a S h=.ok (.ref A.o) h):ev U (.att [(O "Copier")] a (O "free")) S h=.ok (.ref A.f) h:=by rw [Zfc,q,Zd];simp [Ze1,Zai,e,cpD,List.lookup]
theorem Zmr (e:h[A.o]? = some (cpD A)) (q:ev U a S h=.ok (.ref A.o) h):ev U (.att [(O "Copier")] a (O "known")) S h=.ok (.ref A.n) h:=by rw [Zfc,q,Zd];simp [Ze1,Zai,e,cpD,List.lookup]
theorem ZqR (e:h[A.o]? = some (cpD A)) (q:ev U a S h=.ok (.ref A.o) h):ev U (.att [(O "Copier")] a (O "waiting")) S h=.ok (.ref A.w) h:=by rw [Zfc,q,Zd];simp [Ze1,Zai,e,cpD,List.lookup]
theorem Zlr{h:Hd}(e:h[i]? = some (.dic md)):Zcs GD (.ref i) (.str z) h=R.ofO (ZE md (.inr z)) h:=by simp [Zcs,dicOf,e]
end
theorem Sc.ne(s:Sc A G kv md h0 h K N W):A.o≠A.k/\A.o≠A.n/\A.o≠A.w/\A.m≠A.k/\A.m≠A.n/\A.m≠A.w/\A.f≠A.k/\A.f≠A.w/\A.n≠A.k/\A.n≠A.w:=by
 obtain ⟨o,c,m,f,n,w,_,_,_⟩:=s;have k:∀ {i j:Nat}{x y:DO},h[i]? = some x->h[j]? = some y->x≠y->i≠j:=fun a b c z=>c (by rw [z,b] at a;exact (Option.some.inj a).symm);exact ⟨k o c (by simp [cpD,cl]),k o n (by simp [cpD]),k o w (by simp [cpD]),k m c (by simp [cl]),k m n (by simp),k m w (by simp),k f c (by simp [cl]),k f w (by simp),k n c (by simp [cl]),k n w (by simp)⟩
theorem Zja (H:Gs P) (n:Nat) {A:Adr}{G:List Gc}{kv:List (NK×D)}{md:List (Key×D)}{nm:List Str}{M:List (Str×T)}{h0 h:Hd}{K X:List Pr}{N:List Gc}{W:List (Pr×T)}{p:Pr}{t:T} (s:Sc A G kv md h0 h K N W) (u:Pu G kv md nm K N W X) (gd:Gd G kv nm p t) (mt:Mt G md M nm) (ok:ZfH G kv) (lz:G.length+N.length<=90000) (wz:W.length<=30000):∃ num h' K' N' W',run P (n+2) (mnm (O "Copier") (O "stand_in")) [.ref A.o,nI p.1,nD p.2] h=.ok (nI num) h'/\Sc A G kv md h0 h' K' N' W'/\Pu G kv md nm K' N' W' X/\Std G md K' p num/\(∃ L,K'=K++L)/\K'.length+dz W'<=K.length+dz W+cc p.2 t/\smz W'<=smz W+t.size:=by
 rw [Zgb H.n_Copier_stand_in H.Copier_stand_in rfl];obtain ⟨c,e,f,pp,_⟩:=gd.r.at;have e':(G++N)[p.1]? = some c:=Zau e;have x1:xs1 (P.tbl (n+1)) ZaK [some (.ref A.o),some (nI p.1),some (nD p.2),none] h=.ok (.nx,[some (.ref A.o),some (nI p.1),some (nD p.2),some c.d]) h:=Zj (i:=3) (ZaZ (Zkw s.o rfl) rfl s.c e');have ct:∀ h',h'[A.o]? = some (cpD A)->h'[A.f]? = some (.dnk kv)->tst (P.tbl (n+1)) ZaI [some (.ref A.o),some (nI p.1),some (nD p.2),some c.d] h'=.ok (c.isV&&!fin p.2 t) h':=fun h' ho hf=>by
   have t1:tst (P.tbl (n+1)) (.ex (.call (O "is_value") (.cons (.var 3) .nil))) [some (.ref A.o),some (nI p.1),some (nD p.2),some c.d] h'=.ok c.isV h':=Zcu (Zu (Zmf H n c) rfl);cases v:c.isV with
   | false=>rw [v] at t1;exact ZoS t1
   | true =>
     rw [v] at t1;refine ZoR t1 ?_;obtain ⟨q1,q2⟩:=ZlV ok gd.i gd.r;rw [ZkF,Zcu (Ze9 (ZuB ho rfl) (ZaA (xs:=[nI p.1,nD p.2]) rfl (by simp)) hf q1),Zd,q2];rfl
 have cv:=ct h s.o s.f;have ce:tst (P.tbl (n+1)) ZaH [some (.ref A.o),some (nI p.1),some (nD p.2),some c.d] h=.ok (cm p.2 c) h:=Zcu (Zu (Zjc H n c p.2 h) rfl);have tz:=ZP t;cases v:(c.isV&&!fin p.2 t) with
 | true =>
   rw [v] at cv;have w:xs2 (P.tbl (n+1)) ZA [some (.ref A.o),some (nI p.1),some (nD p.2),none] h=.ok (.rt (nI p.1),_) h:=(Za x1).trans (Zc ((ZZ cv).trans (Zc (Zs rfl))));simp only [Oa,Bool.not_eq_true'] at v;exact ⟨p.1,h,K,N,W,congrArg Zh w,s,u,⟨t,c,gd.r,e,.inl ⟨v.1,v.2,rfl⟩⟩,⟨[],by simp⟩,by lia,by lia⟩
 | false =>
   rw [v] at cv;have x2:=(Zab (a:=ZaE) (b:=.nil) cv).trans rfl;cases z:cm p.2 c with
   | true =>
     rw [z] at ce;obtain ⟨x,hc,hx⟩:∃ x,c=.name x/\x∈p.2:=by
       cases c<;>simp only [cm,OG] at z;exact ⟨_,rfl,of_decide_eq_true z⟩
     subst hc;obtain ⟨a,val,ea,_,_⟩:=mt.v x (gd.s x hx);have q:ev (P.tbl (n+1)) (.ix (.att [(O "Copier")] (.var 0) (O "meant")) (.ix (.var 3) (.cst (.int 1)))) [some (.ref A.o),some (nI p.1),some (nD p.2),some (Gc.name x).d] h=.ok (nI a) h:=(ZX (Zs4 s.o rfl) (y:=.str x) rfl).trans ((Zlr s.m).trans (by rw [ea];rfl));have w:xs2 (P.tbl (n+1)) ZA [some (.ref A.o),some (nI p.1),some (nD p.2),none] h=.ok (.rt (nI a),_) h:=(Za x1).trans ((Za x2).trans (Zc ((ZZ ce).trans (Zc (Zs q)))));exact ⟨a,h,K,N,W,congrArg Zh w,s,u,⟨t,_,gd.r,e,.inr (.inl ⟨x,rfl,hx,ea⟩)⟩,⟨[],by simp⟩,by lia,by lia⟩
   | false =>
     rw [z] at ce;have x3:=(Zab (a:=ZaD) (b:=.nil) ce).trans rfl;have tp:∀ h',ev (P.tbl (n+1)) (.tupl (.cons (.var 1) (.cons (.var 2) .nil))) [some (.ref A.o),some (nI p.1),some (nD p.2),some c.d] h'=.ok (pD p) h':=fun h'=>ZaA (xs:=[nI p.1,nD p.2]) rfl (by simp);have cn:tst (P.tbl (n+1)) ZaG [some (.ref A.o),some (nI p.1),some (nD p.2),some c.d] h=.ok (!decide (p∈K)) h:=Zcu ((Zl5 (tp h) (Zmr s.o rfl) s.n).trans (by rw [ZsA]));by_cases hp:p∈K
     . rw [decide_eq_true hp] at cn;obtain ⟨j,ej,ev'⟩:=ZeT K G.length hp;have x4:=(Zab (a:=ZaC) (b:=.nil) cn).trans rfl;have w:xs2 (P.tbl (n+1)) ZA [some (.ref A.o),some (nI p.1),some (nD p.2),none] h=.ok (.rt (nI (G.length+j)),_) h:=(Za x1).trans ((Za x2).trans ((Za x3).trans ((Za x4).trans (Zc (Zs (Ze9 (Zmr s.o rfl) (tp h) s.n ev'))))));exact ⟨_,h,K,N,W,congrArg Zh w,s,u,⟨t,c,gd.r,e,.inr (.inr ⟨z,j,ej,rfl⟩)⟩,⟨[],by simp⟩,by lia,by lia⟩
     . rw [decide_eq_false hp] at cn;obtain ⟨n1,n2,n3,n4,n5,n6,n7,n8,n9,n10⟩:=s.ne;have kw:=s.kw;have lK:K.length=N.length:=u.l.symm;have q1:ev (P.tbl (n+1)) (.blt .len (.cons (.att [(O "Copier")] (.var 0) (O "cells")) .nil)) [some (.ref A.o),some (nI p.1),some (nD p.2),some c.d] h=.ok (nI (G.length+K.length)) h:=Zfb (Zb (Zkw s.o rfl) rfl) ((ZlJ s.c).trans (by rw [lK];simp [nI]));have y1:=ZoD (o:=.att [(O "Copier")] (.var 0) (O "known")) q1 (Zmr s.o rfl) (tp h) s.n (by rw [Zjw];lia);rw [ZnE K G.length hp] at y1;have o1:(h.set A.n (.dnk (knF G.length (K++[p]))))[A.o]? = some (cpD A):=by rw [Oc n2.symm];exact s.o
       have c1:(h.set A.n (.dnk (knF G.length (K++[p]))))[A.k]? = some (cl (G++N)):=by rw [Oc n9];exact s.c
       have m1:(h.set A.n (.dnk (knF G.length (K++[p]))))[A.m]? = some (.dic md):=by rw [Oc n5.symm];exact s.m
       have f1:(h.set A.n (.dnk (knF G.length (K++[p]))))[A.f]? = some (.dnk kv):=by rw [Oc s.fn.symm];exact s.f
       have k1:(h.set A.n (.dnk (knF G.length (K++[p]))))[A.n]? = some (.dnk (knF G.length (K++[p]))):=by rw [Ol (Zw s.n)]
       have w1:(h.set A.n (.dnk (knF G.length (K++[p]))))[A.w]? = some (.lst (W.map fun x=>pD x.1)):=by rw [Oc n10];exact s.w
       have fm1:Fm [A.k,A.n,A.w] h0 (h.set A.n (.dnk (knF G.length (K++[p])))):=s.fm.trans (.set (by simp));generalize h.set A.n (.dnk (knF G.length (K++[p])))=h1 at *;have y2:xs1 (P.tbl (n+1)) Zal [some (.ref A.o),some (nI p.1),some (nD p.2),some c.d] h1=.ok (.nx,[some (.ref A.o),some (nI p.1),some (nD p.2),some c.d]) (h1.set A.k (cl (G++(N++[c])))):=by
         rw [show cl (G++(N++[c]))=.lst ((G++N).map Gc.d++[c.d]) by simp [cl]];exact Zhm (Zko (Zkw o1 rfl) c1 rfl (ZbV c1 (by rw [sizeLine_eq];simp;lia)))
       have o2:(h1.set A.k (cl (G++(N++[c]))))[A.o]? = some (cpD A):=by rw [Oc n1.symm];exact o1
       have c2:(h1.set A.k (cl (G++(N++[c]))))[A.k]? = some (cl (G++(N++[c]))):=by rw [Ol (Zw c1)]
       have m2:(h1.set A.k (cl (G++(N++[c]))))[A.m]? = some (.dic md):=by rw [Oc n4.symm];exact m1
       have f2:(h1.set A.k (cl (G++(N++[c]))))[A.f]? = some (.dnk kv):=by rw [Oc n7.symm];exact f1
       have k2:(h1.set A.k (cl (G++(N++[c]))))[A.n]? = some (.dnk (knF G.length (K++[p]))):=by rw [Oc n9.symm];exact k1
       have w2:(h1.set A.k (cl (G++(N++[c]))))[A.w]? = some (.lst (W.map fun x=>pD x.1)):=by rw [Oc kw];exact w1
       have fm2:Fm [A.k,A.n,A.w] h0 (h1.set A.k (cl (G++(N++[c])))):=fm1.trans (.set (by simp));generalize h1.set A.k (cl (G++(N++[c])))=h2 at *;have y3:xs1 (P.tbl (n+1)) Zak [some (.ref A.o),some (nI p.1),some (nD p.2),some c.d] h2=.ok (.nx,[some (.ref A.o),some (nI p.1),some (nD p.2),some c.d]) (h2.set A.w (.lst ((W++[(p,t)]).map fun x=>pD x.1))):=by
         rw [List.map_append];exact Zhm (Zko (ZqR o2 rfl) w2 (Zb (tp h2) rfl) (ZbV w2 (by rw [sizeLine_eq];simp;lia)))
       have s3:Sc A G kv md h0 (h2.set A.w (.lst ((W++[(p,t)]).map fun x=>pD x.1))) (K++[p]) (N++[c]) (W++[(p,t)]):=⟨by rw [Oc n3.symm];exact o2,by rw [Oc kw.symm];exact c2,by rw [Oc n6.symm];exact m2,by rw [Oc n8.symm];exact f2,by rw [Oc n10.symm];exact k2,by rw [Ol (Zw w2)],fm2.trans (.set (by simp)),kw,s.fn⟩
       have ej:(K++[p])[K.length]? = some p:=by simp
       obtain ⟨j,ej',ev'⟩:=ZeT (K++[p]) G.length (p:=p) (by simp);have nd':(K++[p]).Nodup:=List.nodup_append.mpr ⟨u.nd,by simp,fun a ha b hb=>by rw [Ox.mp hb];exact fun z=>hp (z ▸ ha)⟩;have w:xs2 (P.tbl (n+1)) ZA [some (.ref A.o),some (nI p.1),some (nD p.2),none] h=.ok (.rt (nI (G.length+j)),_) _:=(Za x1).trans ((Za x2).trans ((Za x3).trans ((Za ((ZZ cn).trans ((Za y1).trans ((Za y2).trans ((Za y3).trans rfl))))).trans (Zc (Zs (Ze9 (Zmr s3.o rfl) (tp _) s3.n ev'))))));refine ⟨_,_,_,_,_,congrArg Zh w,s3,?_,⟨t,c,gd.r,e,.inr (.inr ⟨z,j,ej',rfl⟩)⟩,⟨[p],rfl⟩,by have c1:=ZoL (fun hv=>by rw [<- (ZbC f).2.2.1] at hv;rw [hv,Bool.true_and] at v;simpa using v) ((Zfg f p.2).symm.trans z);rw [Zma];simp;lia,by rw [Zi3];exact Oq _⟩;refine ⟨by simp [u.l],nd',fun q hq=>?_,fun x hx=>?_,fun j q hj hw hX=>?_⟩
       . rcases OD.mp hq with hq|hq
         . exact u.g q hq
         . rw [Ox.mp hq];exact ⟨t,c,gd,e,fun hv=>by rw [hv,Bool.true_and] at v;simpa using v,z⟩
       . rcases OD.mp hx with hx|hx
         . exact ⟨List.mem_append_left _ (u.w x hx).1,(u.w x hx).2⟩
         . rw [Ox.mp hx];exact ⟨by simp,gd.r⟩
       . rw [List.map_append,OD,not_or] at hw;have hj':K[j]? = some q:=by
           rcases Nat.lt_or_ge j K.length with l|l
           . rwa [Oe l] at hj
           . rw [Om l] at hj;have hm:q∈[p]:=O1 hj;exact absurd (by simpa using hm) (by simpa using hw.2)
         obtain ⟨c',nums,a1,a2,a3⟩:=u.d j q hj' hw.1 hX;exact ⟨c',nums,a1,Zau a2,Paired.mapP a3 fun _ _ z=>z.mono [p]⟩
end Grf
end
section
namespace Grf
open PySem L2 IV Tm
variable {P:Pg}
noncomputable def mst:Ex:=(.mcl (O "Copier") (O "stand_in") (.var 2) (.cons (.var 0) (.cons (.var 1) .nil)))
theorem Sc.re(s:Sc A G kv md h0 h K N W):Sc A G kv md h h K N W:={s with fm:=.refl}
theorem ZjM(H:Gs P)(n:Nat){A:Adr}{G:List Gc}{kv:List (NK×D)}{md:List (Key×D)}{nm:List Str}{M:List (Str×T)}{h0:Hd}{X:List Pr}(mt:Mt G md M nm)(ok:ZfH G kv){bl:Nat}{L:List D}(hb:h0[bl]? = some (.lst L))(nb:bl ∉ [A.k,A.n,A.w]):∀ (qs:List (Pr×T)) (acc:List D) (h:Hd) (K:List Pr) (N:List Gc) (W:List (Pr×T)),Sc A G kv md h0 h K N W->Pu G kv md nm K N W X->(∀ x∈qs,Gd G kv nm x.1 x.2)->acc.length+qs.length<=1000->G.length+(K.length+dz W+ccs qs)<=90000->smz W+smz qs<=30000->∃ nums h' K' N' W',ZM [(bl,L)] (.two 0 1) (tsto (P.tbl (n+2)) none) (ev (P.tbl (n+2)) mst) (qs.map fun x=>pD x.1) [none,none,some (.ref A.o)] acc h=.ok (acc++nums.map nI) h'/\Sc A G kv md h0 h' K' N' W'/\Pu G kv md nm K' N' W' X/\Paired (Std G md K') (qs.map (·.1)) nums/\(∃ L,K'=K++L)/\K'.length+dz W'<=K.length+dz W+ccs qs/\smz W'<=smz W+smz qs
 | [],acc,h,K,N,W,s,u,_,_,_,_=>⟨[],h,K,N,W,by simp [ZM,ZdD (s.fm.at hb nb)],s,u,.nil,⟨[],by simp⟩,by lia,by lia⟩
 | x::qs,acc,h,K,N,W,s,u,hq,hz,hg,hw=>by
   rw [Zfh] at hg;rw [Zbm] at hw;rw [Os] at hz;have lw:=Zf9 W;have lN:=u.l;obtain ⟨num,h1,K1,N1,W1,e1,s1,u1,d1,⟨L1,z1⟩,b1,c1⟩:=Zja H n s u (hq x (.head _)) mt ok (by lia) (by lia);obtain ⟨nums,h2,K2,N2,W2,e2,s2,u2,d2,⟨L2,z2⟩,b2,c2⟩:=ZjM H n mt ok hb nb qs (acc++[nI num]) h1 K1 N1 W1 s1 u1 (fun y hy=>hq y (.tail _ hy)) (by simp;lia) (by lia) (by lia);refine ⟨num::nums,h2,K2,N2,W2,?_,s2,u2,.cons (by rw [z2];exact d1.mono L2) d2,⟨L1++L2,by rw [z2,z1,Oz]⟩,by rw [Zfh];lia,by rw [Zbm];lia⟩;have lt:acc.length<sizeLine:=by rw [sizeLine_eq];lia
   have q:ev (P.tbl (n+2)) mst [some (nI x.1.1),some (nD x.1.2),some (.ref A.o)] h=.ok (nI num) h1:=ZjB (i:=A.o) rfl s.o rfl rfl e1;rw [Op,ZM,if_pos ⟨ZdD (s.fm.at hb nb),lt⟩];show ((ev (P.tbl (n+2)) mst [some (nI x.1.1),some (nD x.1.2),some (.ref A.o)] h).plain.bind fun y h2=>ZM [(bl,L)] (.two 0 1) (tsto (P.tbl (n+2)) none) (ev (P.tbl (n+2)) mst) (qs.map fun x=>pD x.1) [none,none,some (.ref A.o)] (acc++[y]) h2)=_;rw [q];exact e2.trans (by simp)
theorem Paired.len{F:α->β->Prop}:∀ {l₁:List α}{l₂:List β},Paired F l₁ l₂->l₁.length=l₂.length
 | _,_,.nil=>rfl
 | _,_,.cons _ q=>by rw [Os,Os,Paired.len q]
theorem Zk7{h:Hd}{G:List Gc}{c:Gc}{i:Nat}(e:h[k]? = some (cl G))(hi:i<G.length):ZeE (.ref k) (nI i) c.d h=.ok () (h.set k (cl (G.set i c))):=by
 have:ixN (G.map Gc.d).length (i:Int)=some i:=by
   unfold ixN;rw [if_pos (by lia),if_pos (by simp;lia)];simp
 unfold ZeE;simp only [e,cl,nI];simp only [this,List.map_set]
theorem ZoA{U:Tb}{S:Ev}{h h1 h2 h3 h4:Hd}{o i e:Ex}(p:ev U e S h=.ok x h1)(q:ev U o S h1=.ok y h2)(r:ev U i S h2=.ok z h3)(s:ZeE y z x h3=.ok () h4):xs1 U (.put o i e) S h=.ok (.nx,S) h4:=by rw [Zmx,p,Zd,q,Zd,r,Zd,s];rfl
theorem Zql{c:Gc}(h:c.isV=false):c.bd=[]:=by cases c<;>first|rfl|cases h
theorem Zqo(c:Gc):c.fr.length<=3:=by cases c<;>simp [Gc.fr]
theorem ZmN (H:Gs P) (n:Nat) {A:Adr}{G:List Gc}{kv:List (NK×D)}{md:List (Key×D)}{nm:List Str}{M:List (Str×T)}{h0 h:Hd}{K:List Pr}{N:List Gc}{W:List (Pr×T)}{p:Pr}{t:T} (s:Sc A G kv md h0 h K N (W++[(p,t)])) (u:Pu G kv md nm K N (W++[(p,t)]) []) (mt:Mt G md M nm) (ok:ZfH G kv) (cd:Zkz G kv) (hg:G.length+(K.length+dz (W++[(p,t)]))<=90000) (hw:smz (W++[(p,t)])<=30000):∃ h' K' N' W',run P (n+3) (mnm (O "Copier") (O "write_next")) [.ref A.o] h=.ok .non h'/\Sc A G kv md h0 h' K' N' W'/\Pu G kv md nm K' N' W' []/\(∃ L,K'=K++L)/\K'.length+dz W'<=K.length+dz (W++[(p,t)])/\smz W'+1<=smz (W++[(p,t)]):=by
 rw [Zgb H.n_Copier_write_next H.Copier_write_next rfl];obtain ⟨hpK,rdp⟩:=u.w (p,t) (by simp);obtain ⟨t',c,gd,e,hv,hc⟩:=u.g p hpK;have tt:=rdp.one gd.r;simp only at tt;subst tt;obtain ⟨c',e',f,pp,_⟩:=gd.r.at;rw [e] at e';cases e';obtain ⟨n1,n2,n3,n4,n5,n6,n7,n8,n9,n10⟩:=s.ne;have kw:=s.kw;have ws:h[A.w]? = some (.lst ((W.map fun x=>pD x.1)++[pD p])):=by rw [s.w];simp
 have x1:xs1 (P.tbl (n+2)) Zaq [some (.ref A.o),none,none] h=.ok (.nx,[some (.ref A.o),some (pD p),none]) (h.set A.w (.lst (W.map fun x=>pD x.1))):=Zj (i:=1) (Zko (ZqR s.o rfl) ws rfl (ZeO ws));have s1:Sc A G kv md h0 (h.set A.w (.lst (W.map fun x=>pD x.1))) K N W:=⟨by rw [Oc n3.symm];exact s.o,by rw [Oc kw.symm];exact s.c,by rw [Oc n6.symm];exact s.m,by rw [Oc n8.symm];exact s.f,by rw [Oc n10.symm];exact s.n,by rw [Ol (Zw s.w)],s.fm.trans (.set (by simp)),kw,s.fn⟩
 have u1:Pu G kv md nm K N W [p]:=⟨u.l,u.nd,u.g,fun x hx=>u.w x (List.mem_append_left _ hx),fun j q hj hq hX=>u.d j q hj (by rw [List.map_append,OD,not_or];exact ⟨hq,by simpa using hX⟩) (by simp)⟩
 generalize h.set A.w (.lst (W.map fun x=>pD x.1))=h1 at *;have e2:(G++N)[p.1]? = some c:=Zau e;have rb:=ZfP H n s1.c e2 p.2 gd.l;have q1:ev (P.tbl (n+2)) (.call (O "beneath") (.cons (.att [(O "Copier")] (.var 0) (O "cells")) (.cons (.ix (.var 1) (.cst (.int 0))) (.cons (.ix (.var 1) (.cst (.int 1))) .nil)))) [some (.ref A.o),some (pD p),none] h1=_:=Zu rb (Zb (Zkw s1.o rfl) (Zb (Zne (p:=p) rfl) (Zb (Znd (p:=p) rfl) rfl)));have b2:(h1++[DO.lst ((rs p.2 c.bd).map .str),.lst ((bn c p.2).map pD)])[h1.length+1]? = some (.lst ((bn c p.2).map pD)):=ZqS;have f2:Fm [A.k,A.n,A.w] h1 (h1++[DO.lst ((rs p.2 c.bd).map .str),.lst ((bn c p.2).map pD)]):=.app;have s2:Sc A G kv md h0 (h1++[DO.lst ((rs p.2 c.bd).map .str),.lst ((bn c p.2).map pD)]) K N W:=⟨keep s1.o,keep s1.c,keep s1.m,keep s1.f,keep s1.n,keep s1.w,s1.fm.trans .app,kw,s.fn⟩
 have nb:h1.length+1 ∉ [A.k,A.n,A.w]:=by
   have:=Zw s1.c;have:=Zw s1.n;have:=Zw s1.w;simp
   lia
 generalize h1++[DO.lst ((rs p.2 c.bd).map .str),.lst ((bn c p.2).map pD)]=h2 at *;have ei:=Zhk q1 b2;obtain ⟨VS,eV,hV,zV,yV⟩:=ZhP (g:=gl G) (rs p.2 c.bd) (fun _=>true) pp;have eV':VS.map (·.1)=bn c p.2:=eV.trans (List.filter_eq_self.mpr fun _ _=>rfl);have rne:∀ x∈VS,rs p.2 c.bd≠[]:=fun x hx=>by
   cases v:c.isV with
   | false=>rw [Zql v,ZdE];exact gd.e
   | true =>
     have:=hv v;rw [ZlZ,<- Zfg f,hc,Bool.false_or,<- (ZbC f).2.1] at this;intro z;rw [z] at this;obtain ⟨y,_,hy⟩:=List.any_eq_true.mp this;rw [ZQ] at hy;cases hy
 have rl:=ZkU p.2 c.bd;have gl2:=gd.l;have gV:∀ x∈VS,Gd G kv nm x.1 x.2:=fun x hx=>by
   obtain ⟨a,b⟩:=hV x hx;have mem:x.1∈bn c p.2:=by rw [<- eV'];exact List.mem_map_of_mem hx
   have ne:x.1.2≠[]:=by rw [b];exact rne x hx
   exact ⟨a,cd p gd.i c e x.1 mem ne,ne,by rw [b];lia,fun y hy=>gd.s y (by rw [b] at hy;exact (List.mem_filter.mp hy).1)⟩
 have sz:=ZJ t;have cz:=ZoL (ns:=p.2) (t:=t) (fun hv'=>hv (by rw [(ZbC f).2.2.1];exact hv')) ((Zfg f p.2).symm.trans hc);rw [<- (ZbC f).2.1] at cz;have lc:=ZeF c;have lV:VS.length<=3:=by rw [<- List.length_map (f:=(·.1)),eV'];unfold bn;rw [List.length_map];exact lc
 rw [Zma] at hg ⊢;rw [Zi3] at hw ⊢;simp only at hg hw ⊢;obtain ⟨nums,h3,K3,N3,W3,e3,s3,u3,d3,⟨L3,z3⟩,b3,c3⟩:=ZjM H n mt ok b2 nb VS [] h2 K N W s2.re u1 gV (by simp;lia) (by lia) (by lia);rw [show VS.map (fun x=>pD x.1)=(bn c p.2).map pD by rw [<- eV',List.map_map];rfl] at e3;have x2:xs1 (P.tbl (n+2)) Zap [some (.ref A.o),some (pD p),none] h1=.ok (.nx,[some (.ref A.o),some (pD p),some (.ref h3.length)]) (h3++[.lst (nums.map nI)]):=Zj (i:=2) (Zfa ei e3);have k4:(h3++[DO.lst (nums.map nI)])[h3.length]? = some (.lst (nums.map nI)):=Zcg;have s4:Sc A G kv md h0 (h3++[DO.lst (nums.map nI)]) K3 N3 W3:=⟨keep s3.o,keep s3.c,keep s3.m,keep s3.f,keep s3.n,keep s3.w,(s2.fm.trans s3.fm).trans .app,kw,s.fn⟩
 generalize h3++[DO.lst (nums.map nI)]=h4 at *;have ln:nums.length=c.ps.length:=by rw [<- Paired.len d3,eV'];unfold bn;rw [List.length_map]
 have e4:(G++N3)[p.1]? = some c:=Zau e;obtain ⟨w1,w2⟩:=Zoq (c:=c) ln;have pK3:p∈K3:=by rw [z3];exact List.mem_append_left _ hpK
 obtain ⟨j,ej,ev'⟩:=ZeT K3 G.length pK3;have lj:j<N3.length:=by rw [u3.l];exact (Ob.mp ej).1
 have q3:ev (P.tbl (n+2)) (.bin .Add (.call (O "front_of") (.cons (.ix (.att [(O "Copier")] (.var 0) (O "cells")) (.ix (.var 1) (.cst (.int 0)))) .nil)) (.blt .tup (.cons (.var 2) .nil))) [some (.ref A.o),some (pD p),some (.ref h3.length)] h4=.ok (c.wp nums).d h4:=by
   have a1:ev (P.tbl (n+2)) (.call (O "front_of") (.cons (.ix (.att [(O "Copier")] (.var 0) (O "cells")) (.ix (.var 1) (.cst (.int 0)))) .nil)) [some (.ref A.o),some (pD p),some (.ref h3.length)] h4=.ok (.tup c.fr) h4:=Zu (Zn2 H.b (n+1) c) (Zb (ZaZ (Zkw s4.o rfl) (Zne (p:=p) rfl) s4.c e4) rfl);have a2:ev (P.tbl (n+2)) (.blt .tup (.cons (.var 2) .nil)) [some (.ref A.o),some (pD p),some (.ref h3.length)] h4=.ok (.tup (nums.map nI)) h4:=Zfb (Zb rfl rfl) (Zor k4);have fl:=Zqo c;rw [Zo a1 a2,Zjk (by rw [sizeLine_eq];simp;lia)];unfold Gc.d;rw [w1,w2]
 have x3:xs1 (P.tbl (n+2)) Zao [some (.ref A.o),some (pD p),some (.ref h3.length)] h4=.ok (.nx,[some (.ref A.o),some (pD p),some (.ref h3.length)]) (h4.set A.k (cl (G++N3.set j (c.wp nums)))):=by
   rw [show G++N3.set j (c.wp nums)=(G++N3).set (G.length+j) (c.wp nums) by rw [List.set_append_right _ _ (by lia)];congr 2;lia];exact ZoA q3 (Zkw s4.o rfl) (Ze9 (p:=p) (Zmr s4.o rfl) rfl s4.n ev') (Zk7 s4.c (by simp;lia))
 have w:xs2 (P.tbl (n+2)) ZaJ [some (.ref A.o),none,none] h=.ok (.nx,_) (h4.set A.k (cl (G++N3.set j (c.wp nums)))):=(Za x1).trans ((Za x2).trans ((Za x3).trans rfl));refine ⟨_,K3,N3.set j (c.wp nums),W3,congrArg Zh w,⟨by rw [Oc n1.symm];exact s4.o,by rw [Ol (Zw s4.c)],by rw [Oc n4.symm];exact s4.m,by rw [Oc n7.symm];exact s4.f,by rw [Oc n9.symm];exact s4.n,by rw [Oc kw];exact s4.w,s4.fm.trans (.set (by simp)),kw,s.fn⟩,⟨by rw [List.length_set];exact u3.l,u3.nd,u3.g,u3.w,fun j' q hj' hq _=>?_⟩,⟨L3,z3⟩,by lia,by lia⟩;by_cases z:q=p
 . subst z;have jj:j'=j:=(List.getElem?_inj (Ob.mp hj').1 u3.nd).mp (hj'.trans ej.symm);subst jj;exact ⟨c,nums,e,by rw [Ol lj],by rw [<- eV'];exact d3⟩
 . obtain ⟨c',nums',a1,a2,a3⟩:=u3.d j' q hj' hq (by simpa using z);refine ⟨c',nums',a1,?_,a3⟩;rw [Oc fun zz=>z ?_]
   . exact a2
   . rw [<- zz,ej] at hj';exact (Option.some.inj hj').symm
end Grf
end
section
namespace Grf
open PySem L2 IV Tm
variable {P:Pg}
theorem Zhb(H:Gs P)(n:Nat){A:Adr}{G:List Gc}{kv:List (NK×D)}{md:List (Key×D)}{nm:List Str}{M:List (Str×T)}{h0:Hd}{S:Ev}(mt:Mt G md M nm)(ok:ZfH G kv)(cd:Zkz G kv)(hρ:ev (P.tbl (n+3)) (.var 0) S=fun h=>.ok (.ref A.o) h):∀ (F:Nat) (h:Hd) (K:List Pr) (N:List Gc) (W:List (Pr×T)),Sc A G kv md h0 h K N W->Pu G kv md nm K N W []->G.length+(K.length+dz W)<=90000->smz W<=30000->smz W<F->∃ h' K' N',ZO (tst (P.tbl (n+3)) ZN) (xs2 (P.tbl (n+3)) Zbd) F S h=.ok (.nx,S) h'/\Sc A G kv md h0 h' K' N' []/\Pu G kv md nm K' N' [] []/\(∃ L,K'=K++L)/\K'.length<=K.length+dz W
 | 0,h,K,N,W,_,_,_,_,hF=>by lia
 | F+1,h,K,N,W,s,u,hg,hw,hF=>by
   have te:tst (P.tbl (n+3)) ZN S h=.ok (!(W.map fun x=>pD x.1).isEmpty) h:=ZiX (i:=A.w) (ZqR s.o (congrFun hρ h)) s.w;rcases List.eq_nil_or_concat W with rfl|⟨W,x,rfl⟩
   . exact ⟨h,K,N,Zef te,s,u,⟨[],by simp⟩,by lia⟩
   . obtain ⟨p,t⟩:=x;rw [List.concat_eq_append] at *;have te':tst (P.tbl (n+3)) ZN S h=.ok true h:=ZV te (by simp);obtain ⟨h1,K1,N1,W1,e1,s1,u1,⟨L1,z1⟩,b1,c1⟩:=ZmN H n s u mt ok cd hg hw;obtain ⟨h2,K2,N2,e2,s2,u2,⟨L2,z2⟩,b2⟩:=Zhb H n mt ok cd hρ F h1 K1 N1 W1 s1 u1 (by lia) (by lia) (by lia);have q:xs1 (P.tbl (n+3)) ZaL S h=.ok (.nx,S) h1:=Zhm (ZjB (i:=A.o) (congrFun hρ h) s.o rfl rfl e1);exact ⟨h2,K2,N2,(Zch te' ((Za q).trans rfl)).trans e2,s2,u2,⟨L1++L2,by rw [z2,z1,Oz]⟩,by lia⟩
theorem Zq4{R:Nat->T->Prop}{S_:Pr->Nat->Prop}{Q:Nat->T->Prop}{fp:Nat->Pr}:∀ {ps:List Nat}{ts:List T}{nums:List Nat},Paired R ps ts->Paired S_ (ps.map fp) nums->(∀ m t num,m∈ps->t∈ts->R m t->S_ (fp m) num->Q num t)->Paired Q nums ts
 | _,_,_,.nil,.nil,_=>.nil
 | _,_,_,.cons r q,.cons s p,k=>.cons (k _ _ _ (.head _) (.head _) r s) (Zq4 q p fun m t num hm ht=>k m t num (.tail _ hm) (.tail _ ht))
theorem ZeI{Q:Nat->T->Prop}{f:T->T}:∀ {ns:List Nat}{ts:List T},Paired (fun n t=>Q n (f t)) ns ts->Paired Q ns (ts.map f)
 | _,_,.nil=>.nil
 | _,_,.cons r q=>.cons r (ZeI q)
theorem ZeN(e:nI a=nI b):a=b:=by
 simp only [nI,D.int.injEq] at e
 lia
theorem ZkV{G:List Gc}{kv:List (NK×D)}{md:List (Key×D)}{nm:List Str}{M:List (Str×T)}{K:List Pr}{N:List Gc}{y:Nat}(hy:y<G.length)(mt:Mt G md M nm)(mw:∀ x∈nm,∀ a v,ZE md (.inr x)=some (nI a)->get (M.map fun p=>(p.1,some p.2)) x=some v->Rd (wo (gl G) y) a v)(u:Pu G kv md nm K N [] []):∀ (z:Nat) (t:T) (p:Pr) (num:Nat),t.size<=z->Rd (wo (gl G) y) p.1 t->Std G md K p num->(∀ x∈p.2,x∈nm)->Rd (wo (gl (G++N)) y) num (sub (arN M p.2) t)
 | 0,t,p,num,hz,_,_,_=>by have:=ZP t;lia
 | z+1,t,p,num,hz,rd,st,hs=>by
   obtain ⟨t',c,rd',e,q⟩:=st;have:=(rd.mono ZD).one rd';subst this;have mono:∀ i c,wo (gl G) y i=some c->wo (gl (G++N)) y i=some c:=fun i c h=>by
     unfold wo at h ⊢;split at h
     . cases h
     . rename_i ne;rw [if_neg ne];exact Zau h
   obtain ⟨c',e',f,pp⟩:=rd.inv;have cc:c=c':=Option.some.inj (e.symm.trans (ZD _ _ e'));subst cc;rcases q with ⟨_,q,rfl⟩|⟨x,rfl,hx,ev'⟩|⟨hc,j,ej,rfl⟩
   . rw [Zaw M t p.2 q];exact rd.mono mono
   . obtain ⟨a,v,e1,e2,e3⟩:=mt.v x (hs x hx);have e4:=mw x (hs x hx) a v e1 e2;rw [ev'] at e1;have:=ZeN (Option.some.inj e1);subst this;cases t<;>simp only [Fit] at f;subst f;rw [show sub (arN M p.2) (.name x)=v by simp only [sub];rw [ZbB,if_pos hx,e2];rfl];exact e4.mono mono
   . obtain ⟨c',nums,a1,a2,a3⟩:=u.d j p ej (by simp) (by simp);rw [e] at a1;cases a1;have ln:nums.length=c.ps.length:=by rw [<- Paired.len a3];unfold bn;rw [List.length_map]
     have hm:ZpY (arN M p.2) t=none:=by
       cases t with
       | name x =>
         show get (arN M p.2) x=none;rw [ZbB,if_neg];intro hx;rw [Zfg f] at hc;simp only [mnt,decide_eq_false_iff_not] at hc;exact hc hx
       | _=>rfl
     obtain ⟨w1,w2⟩:=Zoq (c:=c) ln;refine Rd.mk (c:=c.wp nums) ?_ (ZnR f hm ln) ?_
     . rw [ZiT (by lia)];show (G++N)[G.length+j]? = _;rw [Om (by lia),show G.length+j - G.length=j by lia];exact a2
     . rw [w2,(ZjW t _ hm).1];refine ZeI (Zq4 pp a3 fun m s n' hm' hs' r q=>?_);have lt:=Zi1 hs';have:=ZkV hy mt mw u z s (m,rs p.2 c.bd) n' (by lia) r q (fun x hx=>hs x (List.mem_filter.mp hx).1);rw [Zc9,<- (ZbC f).2.1];exact this
end Grf
end
section
namespace Grf
open PySem L2 IV Tm
inductive Q where
 | num (i:Nat) (n:Int)|name (i:Nat) (x:Str)|fn (i:Nat) (x:Str) (e:Q)|rcc (i:Nat) (f x:Str) (e:Q)|call (i:Nat) (a b:Q)|iff (i:Nat) (a b c:Q)|op (i:Nat) (w:Wd) (a b:Q)
namespace Q
noncomputable def no:Q->Nat
 | .num i _|.name i _|.fn i _ _|.rcc i _ _ _|.call i _ _|.iff i _ _ _|.op i _ _ _=>i
noncomputable def er:Q->T
 | .num _ n=>.num n
 | .name _ x=>.name x
 | .fn _ x e=>.fn x e.er
 | .rcc _ f x e=>.rcc f x e.er
 | .call _ a b=>.call a.er b.er
 | .iff _ a b c=>.iff a.er b.er c.er
 | .op _ w a b=>.op w a.er b.er
noncomputable def ok(g:Nat->Option Gc):Q->Prop
 | .num i n=>g i=some (.num n)
 | .name i x=>g i=some (.name x)
 | .fn i x e=>g i=some (.fn x e.no)/\e.ok g
 | .rcc i f x e=>g i=some (.rcc f x e.no)/\e.ok g
 | .call i a b=>g i=some (.call a.no b.no)/\a.ok g/\b.ok g
 | .iff i a b c=>g i=some (.iff a.no b.no c.no)/\a.ok g/\b.ok g/\c.ok g
 | .op i w a b=>g i=some (.op w a.no b.no)/\a.ok g/\b.ok g
noncomputable def isV:Q->Bool
 | .num _ _|.fn _ _ _|.rcc _ _ _ _=>true
 | _=>false
theorem Zaz(q:Q):Tm.isV q.er=q.isV:=by cases q<;>rfl
noncomputable def opn:Q->List Nat
 | .num _ _|.fn _ _ _|.rcc _ _ _ _=>[]
 | .name i _=>[i]
 | .call i a b=>i::(a.opn++b.opn)
 | .iff i a b c=>i::(a.opn++(b.opn++c.opn))
 | .op i _ a b=>i::(a.opn++b.opn)
noncomputable def all:Q->List Nat
 | .num i _|.name i _=>[i]
 | .fn i _ e|.rcc i _ _ e=>i::e.all
 | .call i a b=>i::(a.all++b.all)
 | .iff i a b c=>i::(a.all++(b.all++c.all))
 | .op i _ a b=>i::(a.all++b.all)
noncomputable def deep:Q->List Nat
 | .num _ _|.name _ _=>[]
 | .fn _ _ e|.rcc _ _ _ e=>e.all
 | .call _ a b|.op _ _ a b=>a.deep++b.deep
 | .iff _ a b c=>a.deep++(b.deep++c.deep)
noncomputable def One(q:Q):Prop:=q.opn.Nodup/\∀ n∈q.opn,n ∉ q.deep
noncomputable def Uns:Q->Prop
 | .num _ _|.name _ _=>True
 | .fn _ _ e|.rcc _ _ _ e=>e.One/\e.Uns
 | .call _ a b|.op _ _ a b=>a.Uns/\b.Uns
 | .iff _ a b c=>a.Uns/\b.Uns/\c.Uns
theorem rd{g:Nat->Option Gc}:∀ {q:Q},q.ok g->Rd g q.no q.er
 | .num i n,h=>.num h
 | .name i x,h=>.name h
 | .fn i x e,h=>.fn h.1 (rd h.2)
 | .rcc i f x e,h=>.rcc h.1 (rd h.2)
 | .call i a b,h=>.call h.1 (rd h.2.1) (rd h.2.2)
 | .iff i a b c,h=>.iff h.1 (rd h.2.1) (rd h.2.2.1) (rd h.2.2.2)
 | .op i w a b,h=>.op h.1 (rd h.2.1) (rd h.2.2)
theorem mono{g g':Nat->Option Gc}:∀ {q:Q},(∀ i∈q.all,∀ c,g i=some c->g' i=some c)->q.ok g->q.ok g'
 | .num i n,m,h=>m i (by simp [all]) _ h
 | .name i x,m,h=>m i (by simp [all]) _ h
 | .fn i x e,m,h=>⟨m i (by simp [all]) _ h.1,mono (fun j hj=>m j (by simp [all,hj])) h.2⟩
 | .rcc i f x e,m,h=>⟨m i (by simp [all]) _ h.1,mono (fun j hj=>m j (by simp [all,hj])) h.2⟩
 | .call i a b,m,h=>⟨m i (by simp [all]) _ h.1,mono (fun j hj=>m j (by simp [all,hj])) h.2.1,mono (fun j hj=>m j (by simp [all,hj])) h.2.2⟩
 | .iff i a b c,m,h=>⟨m i (by simp [all]) _ h.1,mono (fun j hj=>m j (by simp [all,hj])) h.2.1,mono (fun j hj=>m j (by simp [all,hj])) h.2.2.1,mono (fun j hj=>m j (by simp [all,hj])) h.2.2.2⟩
 | .op i w a b,m,h=>⟨m i (by simp [all]) _ h.1,mono (fun j hj=>m j (by simp [all,hj])) h.2.1,mono (fun j hj=>m j (by simp [all,hj])) h.2.2⟩
theorem three{g:Nat->Option Gc}:∀ {q:Q},q.ok g->∀ n∈q.all,n∈q.opn\/n∈q.deep\/∃ c,g n=some c/\c.isV=true
 | .num i z,h,n,hn=>by have e:=Ox.mp hn;subst e;exact .inr (.inr ⟨_,h,rfl⟩)
 | .name i x,h,n,hn=>.inl hn
 | .fn i x e,h,n,hn=>by
   rcases O2.mp hn with rfl|hn
   . exact .inr (.inr ⟨_,h.1,rfl⟩)
   . exact .inr (.inl hn)
 | .rcc i f x e,h,n,hn=>by
   rcases O2.mp hn with rfl|hn
   . exact .inr (.inr ⟨_,h.1,rfl⟩)
   . exact .inr (.inl hn)
 | .call i a b,h,n,hn=>by
   simp only [all,O2,OD] at hn;simp only [opn,deep,O2,OD];rcases hn with rfl|hn|hn
   . exact .inl (.inl rfl)
   . rcases three h.2.1 n hn with q|q|q
     . exact .inl (.inr (.inl q))
     . exact .inr (.inl (.inl q))
     . exact .inr (.inr q)
   . rcases three h.2.2 n hn with q|q|q
     . exact .inl (.inr (.inr q))
     . exact .inr (.inl (.inr q))
     . exact .inr (.inr q)
 | .iff i a b c,h,n,hn=>by
   simp only [all,O2,OD] at hn;simp only [opn,deep,O2,OD];rcases hn with rfl|hn|hn|hn
   . exact .inl (.inl rfl)
   . rcases three h.2.1 n hn with q|q|q
     . exact .inl (.inr (.inl q))
     . exact .inr (.inl (.inl q))
     . exact .inr (.inr q)
   . rcases three h.2.2.1 n hn with q|q|q
     . exact .inl (.inr (.inr (.inl q)))
     . exact .inr (.inl (.inr (.inl q)))
     . exact .inr (.inr q)
   . rcases three h.2.2.2 n hn with q|q|q
     . exact .inl (.inr (.inr (.inr q)))
     . exact .inr (.inl (.inr (.inr q)))
     . exact .inr (.inr q)
 | .op i w a b,h,n,hn=>by
   simp only [all,O2,OD] at hn;simp only [opn,deep,O2,OD];rcases hn with rfl|hn|hn
   . exact .inl (.inl rfl)
   . rcases three h.2.1 n hn with q|q|q
     . exact .inl (.inr (.inl q))
     . exact .inr (.inl (.inl q))
     . exact .inr (.inr q)
   . rcases three h.2.2 n hn with q|q|q
     . exact .inl (.inr (.inr q))
     . exact .inr (.inl (.inr q))
     . exact .inr (.inr q)
theorem ZaW{g:Nat->Option Gc}:∀ {q:Q},q.ok g->∀ n∈q.opn,∃ c,g n=some c/\c.isV=false
 | .num i z,h,n,hn=>by cases hn
 | .name i x,h,n,hn=>by have e:=Ox.mp hn;subst e;exact ⟨_,h,rfl⟩
 | .fn i x e,h,n,hn=>by cases hn
 | .rcc i f x e,h,n,hn=>by cases hn
 | .call i a b,h,n,hn=>by
   simp only [opn,O2,OD] at hn;rcases hn with rfl|hn|hn
   . exact ⟨_,h.1,rfl⟩
   . exact ZaW h.2.1 n hn
   . exact ZaW h.2.2 n hn
 | .iff i a b c,h,n,hn=>by
   simp only [opn,O2,OD] at hn;rcases hn with rfl|hn|hn|hn
   . exact ⟨_,h.1,rfl⟩
   . exact ZaW h.2.1 n hn
   . exact ZaW h.2.2.1 n hn
   . exact ZaW h.2.2.2 n hn
 | .op i w a b,h,n,hn=>by
   simp only [opn,O2,OD] at hn;rcases hn with rfl|hn|hn
   . exact ⟨_,h.1,rfl⟩
   . exact ZaW h.2.1 n hn
   . exact ZaW h.2.2 n hn
theorem Zk:∀ {q:Q},∀ n∈q.opn,n∈q.all
 | .num i z,n,hn=>by cases hn
 | .name i x,n,hn=>hn
 | .fn i x e,n,hn=>by cases hn
 | .rcc i f x e,n,hn=>by cases hn
 | .call i a b,n,hn=>by
   simp only [opn,all,O2,OD] at hn ⊢;exact hn.imp id (Or.imp (Zk n) (Zk n))
 | .iff i a b c,n,hn=>by
   simp only [opn,all,O2,OD] at hn ⊢;exact hn.imp id (Or.imp (Zk n) (Or.imp (Zk n) (Zk n)))
 | .op i w a b,n,hn=>by
   simp only [opn,all,O2,OD] at hn ⊢;exact hn.imp id (Or.imp (Zk n) (Zk n))
theorem Zi:∀ {q:Q},∀ n∈q.deep,n∈q.all
 | .num i z,n,hn=>by cases hn
 | .name i x,n,hn=>by cases hn
 | .fn i x e,n,hn=>.tail _ hn
 | .rcc i f x e,n,hn=>.tail _ hn
 | .call i a b,n,hn=>by
   simp only [deep,all,O2,OD] at hn ⊢;exact .inr (hn.imp (Zi n) (Zi n))
 | .iff i a b c,n,hn=>by
   simp only [deep,all,O2,OD] at hn ⊢;exact .inr (hn.imp (Zi n) (Or.imp (Zi n) (Zi n)))
 | .op i w a b,n,hn=>by
   simp only [deep,all,O2,OD] at hn ⊢;exact .inr (hn.imp (Zi n) (Zi n))
end Q
end Grf
end
section
namespace Grf
open PySem L2 IV Tm
namespace Q
noncomputable def bt:Q->Q
 | .call i a b=>if a.isV then (if b.isV then .call i a b else bt b) else bt a
 | .op i w a b=>if a.isV then (if b.isV then .op i w a b else bt b) else bt a
 | .iff i a b c=>if a.isV then .iff i a b c else bt a
 | q=>q
noncomputable def rp(u:Q):Q->Q
 | .call i a b=>if a.isV then (if b.isV then u else .call i a (rp u b)) else .call i (rp u a) b
 | .op i w a b=>if a.isV then (if b.isV then u else .op i w a (rp u b)) else .op i w (rp u a) b
 | .iff i a b c=>if a.isV then u else .iff i (rp u a) b c
 | _=>u
theorem Zfe:∀ q:Q,q.bt.er=bot q.er
 | .num _ _=>rfl
 | .name _ _=>rfl
 | .fn _ _ _=>rfl
 | .rcc _ _ _ _=>rfl
 | .call i a b=>by
   simp only [bt,er,bot,Zaz];split
   . split
     . rfl
     . exact Zfe b
   . exact Zfe a
 | .op i w a b=>by
   simp only [bt,er,bot,Zaz];split
   . split
     . rfl
     . exact Zfe b
   . exact Zfe a
 | .iff i a b c=>by
   simp only [bt,er,bot,Zaz];split
   . rfl
   . exact Zfe a
theorem Zfd(u:Q):∀ q:Q,(rp u q).er=Za8 (pth q.er) u.er
 | .num _ _=>rfl
 | .name _ _=>rfl
 | .fn _ _ _=>rfl
 | .rcc _ _ _ _=>rfl
 | .call i a b=>by
   simp only [rp,er,pth,Zaz];cases a.isV
   . simp only [OG,if_false,er,Za8,Zfd u a];rfl
   . cases b.isV
     . simp only [OG,if_false,if_true,er,Za8,Zfd u b];rfl
     . simp only [if_true];rfl
 | .op i w a b=>by
   simp only [rp,er,pth,Zaz];cases a.isV
   . simp only [OG,if_false,er,Za8,Zfd u a];rfl
   . cases b.isV
     . simp only [OG,if_false,if_true,er,Za8,Zfd u b];rfl
     . simp only [if_true];rfl
 | .iff i a b c=>by
   simp only [rp,er,pth,Zaz];cases a.isV
   . simp only [OG,if_false,er,Za8,Zfd u a];rfl
   . simp only [if_true];rfl
noncomputable def cto:Q->List Nat
 | .call i a b=>if a.isV then (if b.isV then [] else i::(a.opn++cto b)) else i::(cto a++b.opn)
 | .op i _ a b=>if a.isV then (if b.isV then [] else i::(a.opn++cto b)) else i::(cto a++b.opn)
 | .iff i a b c=>if a.isV then [] else i::(cto a++(b.opn++c.opn))
 | _=>[]
noncomputable def ctd:Q->List Nat
 | .call _ a b=>if a.isV then (if b.isV then [] else a.deep++ctd b) else ctd a++b.deep
 | .op _ _ a b=>if a.isV then (if b.isV then [] else a.deep++ctd b) else ctd a++b.deep
 | .iff _ a b c=>if a.isV then [] else ctd a++(b.deep++c.deep)
 | _=>[]
theorem swp(a b c:List Nat):((a++b)++c).Perm ((a++c)++b):=by
 rw [Oz,Oz];exact List.Perm.append_left a List.perm_append_comm
theorem ZbS:∀ q:Q,q.opn.Perm (q.cto++q.bt.opn)
 | .num _ _=>.refl _
 | .name _ _=>.refl _
 | .fn _ _ _=>.refl _
 | .rcc _ _ _ _=>.refl _
 | .call i a b=>by
   simp only [opn,cto,bt];split
   . split
     . exact .refl _
     . rw [List.cons_append,Oz];exact ((ZbS b).append_left _).cons _
   . exact (((ZbS a).append_right _).trans (swp _ _ _)).cons _
 | .op i w a b=>by
   simp only [opn,cto,bt];split
   . split
     . exact .refl _
     . rw [List.cons_append,Oz];exact ((ZbS b).append_left _).cons _
   . exact (((ZbS a).append_right _).trans (swp _ _ _)).cons _
 | .iff i a b c=>by
   simp only [opn,cto,bt];split
   . exact .refl _
   . exact (((ZbS a).append_right _).trans (swp _ _ _)).cons _
theorem Zb4:∀ q:Q,q.deep.Perm (q.ctd++q.bt.deep)
 | .num _ _=>.refl _
 | .name _ _=>.refl _
 | .fn _ _ _=>.refl _
 | .rcc _ _ _ _=>.refl _
 | .call i a b=>by
   simp only [deep,ctd,bt];split
   . split
     . exact .refl _
     . rw [Oz];exact (Zb4 b).append_left _
   . exact ((Zb4 a).append_right _).trans (swp _ _ _)
 | .op i w a b=>by
   simp only [deep,ctd,bt];split
   . split
     . exact .refl _
     . rw [Oz];exact (Zb4 b).append_left _
   . exact ((Zb4 a).append_right _).trans (swp _ _ _)
 | .iff i a b c=>by
   simp only [deep,ctd,bt];split
   . exact .refl _
   . exact ((Zb4 a).append_right _).trans (swp _ _ _)
theorem ZeK(u:Q):∀ q:Q,(rp u q).opn.Perm (q.cto++u.opn)
 | .num _ _=>.refl _
 | .name _ _=>.refl _
 | .fn _ _ _=>.refl _
 | .rcc _ _ _ _=>.refl _
 | .call i a b=>by
   simp only [cto,rp];cases a.isV
   . exact (((ZeK u a).append_right _).trans (swp _ _ _)).cons _
   . cases b.isV
     . simp only [if_true,OG,if_false];rw [List.cons_append,Oz];exact ((ZeK u b).append_left _).cons _
     . exact .refl _
 | .op i w a b=>by
   simp only [cto,rp];cases a.isV
   . exact (((ZeK u a).append_right _).trans (swp _ _ _)).cons _
   . cases b.isV
     . simp only [if_true,OG,if_false];rw [List.cons_append,Oz];exact ((ZeK u b).append_left _).cons _
     . exact .refl _
 | .iff i a b c=>by
   simp only [cto,rp];cases a.isV
   . exact (((ZeK u a).append_right _).trans (swp _ _ _)).cons _
   . exact .refl _
theorem ZdL(u:Q):∀ q:Q,(rp u q).deep.Perm (q.ctd++u.deep)
 | .num _ _=>.refl _
 | .name _ _=>.refl _
 | .fn _ _ _=>.refl _
 | .rcc _ _ _ _=>.refl _
 | .call i a b=>by
   simp only [ctd,rp];cases a.isV
   . exact ((ZdL u a).append_right _).trans (swp _ _ _)
   . cases b.isV
     . simp only [if_true,OG,if_false];rw [Oz];exact (ZdL u b).append_left _
     . exact .refl _
 | .op i w a b=>by
   simp only [ctd,rp];cases a.isV
   . exact ((ZdL u a).append_right _).trans (swp _ _ _)
   . cases b.isV
     . simp only [if_true,OG,if_false];rw [Oz];exact (ZdL u b).append_left _
     . exact .refl _
 | .iff i a b c=>by
   simp only [ctd,rp];cases a.isV
   . exact ((ZdL u a).append_right _).trans (swp _ _ _)
   . exact .refl _
theorem ZfJ{u:Q}(hu:u.Uns):∀ q:Q,q.Uns->(rp u q).Uns
 | .num _ _,_=>hu
 | .name _ _,_=>hu
 | .fn _ _ _,_=>hu
 | .rcc _ _ _ _,_=>hu
 | .call i a b,h=>by
   simp only [rp];split
   . split
     . exact hu
     . exact ⟨h.1,ZfJ hu b h.2⟩
   . exact ⟨ZfJ hu a h.1,h.2⟩
 | .op i w a b,h=>by
   simp only [rp];split
   . split
     . exact hu
     . exact ⟨h.1,ZfJ hu b h.2⟩
   . exact ⟨ZfJ hu a h.1,h.2⟩
 | .iff i a b c,h=>by
   simp only [rp];split
   . exact hu
   . exact ⟨ZfJ hu a h.1,h.2⟩
theorem ZfK:∀ q:Q,q.Uns->q.bt.Uns
 | .num _ _,h=>h
 | .name _ _,h=>h
 | .fn _ _ _,h=>h
 | .rcc _ _ _ _,h=>h
 | .call i a b,h=>by
   simp only [bt];split
   . split
     . exact h
     . exact ZfK b h.2
   . exact ZfK a h.1
 | .op i w a b,h=>by
   simp only [bt];split
   . split
     . exact h
     . exact ZfK b h.2
   . exact ZfK a h.1
 | .iff i a b c,h=>by
   simp only [bt];split
   . exact h
   . exact ZfK a h.1
theorem ZV{g:Nat->Option Gc}:∀ q:Q,q.ok g->q.bt.ok g
 | .num _ _,h=>h
 | .name _ _,h=>h
 | .fn _ _ _,h=>h
 | .rcc _ _ _ _,h=>h
 | .call i a b,h=>by
   simp only [bt];split
   . split
     . exact h
     . exact ZV b h.2.2
   . exact ZV a h.2.1
 | .op i w a b,h=>by
   simp only [bt];split
   . split
     . exact h
     . exact ZV b h.2.2
   . exact ZV a h.2.1
 | .iff i a b c,h=>by
   simp only [bt];split
   . exact h
   . exact ZV a h.2.1
theorem ZdP:∀ q:Q,q.isV=false->q.bt.no∈q.bt.opn
 | .num _ _,h=>by cases h
 | .name i x,h=>.head _
 | .fn _ _ _,h=>by cases h
 | .rcc _ _ _ _,h=>by cases h
 | .call i a b,h=>by
   simp only [bt];cases ea:a.isV
   . exact ZdP a ea
   . cases eb:b.isV
     . exact ZdP b eb
     . exact .head _
 | .op i w a b,h=>by
   simp only [bt];cases ea:a.isV
   . exact ZdP a ea
   . cases eb:b.isV
     . exact ZdP b eb
     . exact .head _
 | .iff i a b c,h=>by
   simp only [bt];cases ea:a.isV
   . exact ZdP a ea
   . exact .head _
theorem Zfl(q:Q)(h:q.isV=false):q.bt.no∈q.opn:=(ZbS q).mem_iff.mpr (Ov _ (ZdP q h))
theorem ZcW{g g':Nat->Option Gc}{y:Nat}(ne:∀ i,i≠y->g' i=g i)(nv:∃ c,g y=some c/\c.isV=false){q:Q}(h:q.ok g)(ho:y ∉ q.opn)(hd:y ∉ q.deep):q.ok g':=by
 refine mono (fun i hi c e=>?_) h;rw [ne i ?_]
 . exact e
 . rintro rfl;rcases three h i hi with z|z|⟨c',e',v'⟩
   . exact ho z
   . exact hd z
   . obtain ⟨c'',e'',v''⟩:=nv;rw [e'] at e'';cases e'';rw [v'] at v'';cases v''
theorem ZfR{g g':Nat->Option Gc}{u:Q}{y:Nat}(ne:∀ i,i≠y->g' i=g i)(nv:∃ c,g y=some c/\c.isV=false)(hu:u.ok g')(uy:u.no=y):∀ q:Q,q.ok g->q.isV=false->q.bt.no=y->q.opn.Nodup->y ∉ q.deep->(rp u q).ok g'/\(rp u q).no=q.no
 | .num _ _,_,v,_,_,_=>by cases v
 | .name i x,h,v,e,_,_=>⟨hu,uy.trans e.symm⟩
 | .fn _ _ _,_,v,_,_,_=>by cases v
 | .rcc _ _ _ _,_,v,_,_,_=>by cases v
 | .call i a b,h,v,e,nd,hd=>by
   simp only [opn,List.nodup_cons,List.nodup_append,OD,not_or] at nd;simp only [deep,OD,not_or] at hd;simp only [bt] at e;simp only [rp];cases ea:a.isV
   . rw [ea] at e;simp only [OG,if_false] at e ⊢;have ya:y∈a.opn:=e ▸ Zfl a ea;obtain ⟨k1,k2⟩:=ZfR ne nv hu uy a h.2.1 ea e nd.2.1 hd.1;exact ⟨⟨by rw [k2,ne i fun z=>nd.1.1 (z ▸ ya)];exact h.1,k1,ZcW ne nv h.2.2 (fun z=>nd.2.2.2 y ya y z rfl) hd.2⟩,rfl⟩
   . cases eb:b.isV
     . rw [ea,eb] at e;simp only [OG,if_false,if_true] at e ⊢;have yb:y∈b.opn:=e ▸ Zfl b eb;obtain ⟨k1,k2⟩:=ZfR ne nv hu uy b h.2.2 eb e nd.2.2.1 hd.2;exact ⟨⟨by rw [k2,ne i fun z=>nd.1.2 (z ▸ yb)];exact h.1,ZcW ne nv h.2.1 (fun z=>nd.2.2.2 y z y yb rfl) hd.1,k1⟩,rfl⟩
     . rw [ea,eb] at e;exact ⟨hu,uy.trans e.symm⟩
 | .op i w a b,h,v,e,nd,hd=>by
   simp only [opn,List.nodup_cons,List.nodup_append,OD,not_or] at nd;simp only [deep,OD,not_or] at hd;simp only [bt] at e;simp only [rp];cases ea:a.isV
   . rw [ea] at e;simp only [OG,if_false] at e ⊢;have ya:y∈a.opn:=e ▸ Zfl a ea;obtain ⟨k1,k2⟩:=ZfR ne nv hu uy a h.2.1 ea e nd.2.1 hd.1;exact ⟨⟨by rw [k2,ne i fun z=>nd.1.1 (z ▸ ya)];exact h.1,k1,ZcW ne nv h.2.2 (fun z=>nd.2.2.2 y ya y z rfl) hd.2⟩,rfl⟩
   . cases eb:b.isV
     . rw [ea,eb] at e;simp only [OG,if_false,if_true] at e ⊢;have yb:y∈b.opn:=e ▸ Zfl b eb;obtain ⟨k1,k2⟩:=ZfR ne nv hu uy b h.2.2 eb e nd.2.2.1 hd.2;exact ⟨⟨by rw [k2,ne i fun z=>nd.1.2 (z ▸ yb)];exact h.1,ZcW ne nv h.2.1 (fun z=>nd.2.2.2 y z y yb rfl) hd.1,k1⟩,rfl⟩
     . rw [ea,eb] at e;exact ⟨hu,uy.trans e.symm⟩
 | .iff i a b c,h,v,e,nd,hd=>by
   simp only [opn,List.nodup_cons,List.nodup_append,OD,not_or] at nd;simp only [deep,OD,not_or] at hd;simp only [bt] at e;simp only [rp];cases ea:a.isV
   . rw [ea] at e;simp only [OG,if_false] at e ⊢;have ya:y∈a.opn:=e ▸ Zfl a ea;obtain ⟨k1,k2⟩:=ZfR ne nv hu uy a h.2.1 ea e nd.2.1 hd.1;exact ⟨⟨by rw [k2,ne i fun z=>nd.1.1 (z ▸ ya)];exact h.1,k1,ZcW ne nv h.2.2.1 (fun z=>nd.2.2.2 y ya y (.inl z) rfl) hd.2.1,ZcW ne nv h.2.2.2 (fun z=>nd.2.2.2 y ya y (.inr z) rfl) hd.2.2⟩,rfl⟩
   . rw [ea] at e;exact ⟨hu,uy.trans e.symm⟩
structure Fits(g:Nat->Option Gc)(L:Nat)(r u:Q):Prop where
 one:u.One
 uns:u.Uns
 o:∀ n∈u.opn,n∈r.opn\/L<=n
 d:∀ n∈u.deep,n∈r.deep\/L<=n\/∃ c,g n=some c/\c.isV=true
theorem ZpP{g:Nat->Option Gc}{L:Nat}{q u:Q}(hg:∀ n c,g n=some c->n<L)(h:q.ok g)(one:q.One)(f:Fits g L q.bt u):(rp u q).One:=by
 have nd:=(ZbS q).nodup_iff.mp one.1;obtain ⟨n1,n2,n3⟩:=List.nodup_append.mp nd;have inq:∀ n∈q.cto,n∈q.opn:=fun n hn=>(ZbS q).mem_iff.mpr (List.mem_append_left _ hn);have inb:∀ n∈q.bt.opn,n∈q.opn:=fun n hn=>(ZbS q).mem_iff.mpr (Ov _ hn);have ind:∀ n∈q.ctd,n∈q.deep:=fun n hn=>(Zb4 q).mem_iff.mpr (List.mem_append_left _ hn);have inbd:∀ n∈q.bt.deep,n∈q.deep:=fun n hn=>(Zb4 q).mem_iff.mpr (Ov _ hn);have small:∀ n∈q.opn,n<L:=fun n hn=>let ⟨c,e,_⟩:=ZaW h n hn;hg n c e;have dsm:∀ (q:Q),q.ok g->∀ n∈q.all,n<L:=by
   intro q;induction q with
   | num i z=>intro h n hn;rw [Ox.mp hn];exact hg _ _ h
   | name i z=>intro h n hn;rw [Ox.mp hn];exact hg _ _ h
   | fn i x e ih =>
     intro h n hn;rcases O2.mp hn with rfl|hn
     . exact hg _ _ h.1
     . exact ih h.2 n hn
   | rcc i f x e ih =>
     intro h n hn;rcases O2.mp hn with rfl|hn
     . exact hg _ _ h.1
     . exact ih h.2 n hn
   | call i a b ia ib =>
     intro h n hn;simp only [all,O2,OD] at hn;rcases hn with rfl|hn|hn
     . exact hg _ _ h.1
     . exact ia h.2.1 n hn
     . exact ib h.2.2 n hn
   | iff i a b c ia ib ic =>
     intro h n hn;simp only [all,O2,OD] at hn;rcases hn with rfl|hn|hn|hn
     . exact hg _ _ h.1
     . exact ia h.2.1 n hn
     . exact ib h.2.2.1 n hn
     . exact ic h.2.2.2 n hn
   | op i w a b ia ib =>
     intro h n hn;simp only [all,O2,OD] at hn;rcases hn with rfl|hn|hn
     . exact hg _ _ h.1
     . exact ia h.2.1 n hn
     . exact ib h.2.2 n hn
 have dL:∀ n∈q.deep,n<L:=fun n hn=>dsm q h n (Zi n hn);refine ⟨(ZeK u q).nodup_iff.mpr (List.nodup_append.mpr ⟨n1,f.one.1,fun a ha b hb=>?_⟩),fun n hn hd=>?_⟩
 . rintro rfl;rcases f.o a hb with z|z
   . exact n3 a ha a z rfl
   . have:=small a (inq a ha);lia
 . have hn:=OD.mp ((ZeK u q).mem_iff.mp hn);have hd:=OD.mp ((ZdL u q).mem_iff.mp hd);rcases hn with hn|hn
   . rcases hd with hd|hd
     . exact one.2 n (inq n hn) (ind n hd)
     . rcases f.d n hd with z|z|⟨c,e,v⟩
       . exact one.2 n (inq n hn) (inbd n z)
       . have:=small n (inq n hn);lia
       . obtain ⟨c',e',v'⟩:=ZaW h n (inq n hn);rw [e] at e';cases e';rw [v] at v';cases v'
   . rcases hd with hd|hd
     . rcases f.o n hn with z|z
       . exact one.2 n (inb n z) (ind n hd)
       . have:=dL n (ind n hd);lia
     . exact f.one.2 n hn hd
end Q
end Grf
end
section
namespace Grf
open PySem L2 IV Tm
theorem Paired.app{F:α->β->Prop}:∀ {l₁:List α}{l₂:List β}{m₁:List α}{m₂:List β},Paired F l₁ l₂->Paired F m₁ m₂->Paired F (l₁++m₁) (l₂++m₂)
 | _,_,_,_,.nil,q=>q
 | _,_,_,_,.cons r p,q=>.cons r (Paired.app p q)
theorem Paired.mem_r{F:α->β->Prop}:∀ {l₁:List α}{l₂:List β},Paired F l₁ l₂->∀ b∈l₂,∃ a∈l₁,F a b
 | _,_,.nil,b,h=>by cases h
 | _,_,.cons r p,b,h=>by
   rcases O2.mp h with rfl|h
   . exact ⟨_,.head _,r⟩
   . obtain ⟨a,ha,q⟩:=Paired.mem_r p b h;exact ⟨a,.tail _ ha,q⟩
theorem Paired.nodup{F:α->β->Prop}(inj:∀ a a' b,F a b->F a' b->a=a'):∀ {l₁:List α}{l₂:List β},Paired F l₁ l₂->l₁.Nodup->l₂.Nodup
 | _,_,.nil,_=>.nil
 | _,_,.cons r p,h=>by
   rw [List.nodup_cons] at h ⊢;refine ⟨fun z=>?_,Paired.nodup inj p h.2⟩;obtain ⟨a',ha,q⟩:=Paired.mem_r p _ z;exact h.1 (inj _ _ _ r q ▸ ha)
theorem pq2{R:α->β->Prop}(p:Paired R [a,b] [s,t]):R a s/\R b t:=by
 cases p with|cons x p=>cases p with|cons y p=>exact ⟨x,y⟩
theorem pq3{R:α->β->Prop}(p:Paired R [a,b,c] [s,t,u]):R a s/\R b t/\R c u:=by
 cases p with|cons x p=>cases p with|cons y p=>cases p with|cons z p=>exact ⟨x,y,z⟩
noncomputable def Kn(K:List Pr)(L:Nat)(p:Pr)(n:Nat):Prop:=∃ j,K[j]? = some p/\n=L+j
theorem Kn.inj(a:Kn K L p n)(b:Kn K L p' n):p=p':=by
 obtain ⟨j,e,z⟩:=a;obtain ⟨j',e',z'⟩:=b;have:j=j':=by lia
 subst this;rw [e] at e';exact Option.some.inj e'
structure Cp(g':Nat->Option Gc)(K:List Pr)(L:Nat)(S_:Nat->Prop)(ns:List Str)(t':T)(num:Nat)(b q':Q):Prop where
 ok:q'.ok g'
 no:q'.no=num
 er:q'.er=t'
 o:∃ l,l.Sublist b.opn/\Paired (fun i n=>Kn K L (i,ns) n) l q'.opn
 d:∀ n∈q'.deep,(∃ i ns',Kn K L (i,ns') n/\i∈b.deep)\/n∈b.all\/S_ n
 a:∀ n∈q'.all,(∃ i ns',Kn K L (i,ns') n/\i∈b.all)\/n∈b.all\/S_ n
 u:q'.Uns
theorem Cp.one(c:Cp g' K L S_ ns t' num b q')(h:b.One)(small:∀ n,n∈b.all\/S_ n->n<L):q'.One:=by
 obtain ⟨l,hl,p⟩:=c.o;refine ⟨Paired.nodup (fun a a' n x y=>congrArg Prod.fst (x.inj y)) p (hl.nodup h.1),fun n hn hd=>?_⟩;obtain ⟨i,hi,k⟩:=Paired.mem_r p n hn;have hi:=hl.subset hi;rcases c.d n hd with ⟨i',ns',k',hi'⟩|z
 . have:=congrArg Prod.fst (k.inj k');simp only at this;subst this;exact h.2 i hi hi'
 . have:=small n z;obtain ⟨j,_,e⟩:=k
   lia
noncomputable def MQ(g:Nat->Option Gc)(S_:Nat->Prop)(md:List (Key×D))(M:List (Str×T))(nm:List Str):Prop:=∀ x∈nm,∃ v:Q,v.ok g/\v.isV=true/\ZE md (.inr x)=some (nI v.no)/\get (M.map fun p=>(p.1,some p.2)) x=some v.er/\(∀ n∈v.all,S_ n)/\v.Uns
theorem cpy{G:List Gc}{kv:List (NK×D)}{md:List (Key×D)}{nm:List Str}{M:List (Str×T)}{K:List Pr}{N:List Gc}{y:Nat}{S_:Nat->Prop}(hy:y<G.length)(mq:MQ (wo (gl G) y) S_ md M nm)(u:Pu G kv md nm K N [] []):∀ (b:Q) (ns:List Str) (num:Nat),b.ok (wo (gl G) y)->b.Uns->(∀ n,n∈b.all\/S_ n->n<G.length)->Std G md K (b.no,ns) num->(∀ x∈ns,x∈nm)->∃ q',Cp (wo (gl (G++N)) y) K G.length S_ ns (sub (arN M ns) b.er) num b q':=by
 have mono:∀ i c,wo (gl G) y i=some c->wo (gl (G++N)) y i=some c:=fun i c h=>by
   unfold wo at h ⊢;split at h
   . cases h
   . rename_i ne;rw [if_neg ne];exact Zau h
 have ease:∀ (b:Q) (ns:List Str) (num:Nat),b.ok (wo (gl G) y)->b.Uns->Std G md K (b.no,ns) num->(∀ x∈ns,x∈nm)->(∃ q',Cp (wo (gl (G++N)) y) K G.length S_ ns (sub (arN M ns) b.er) num b q')\/∃ c nums,gl G b.no=some c/\wo (gl (G++N)) y num=some (c.wp nums)/\Kn K G.length (b.no,ns) num/\Paired (Std G md K) (bn c ns) nums/\cm ns c=false/\(c.isV=true->fin ns b.er=true):=fun b ns num ok un st hs=>by
   obtain ⟨t,c,rd,e,q⟩:=st;have rb:=(Q.rd ok).mono ZD;have tt:=rb.one rd;simp only at e q tt;rcases q with ⟨hv,q,rfl⟩|⟨x,rfl,hx,ev'⟩|⟨hc,j,ej,rfl⟩
   . left;rw [<- tt] at q;refine ⟨b,Q.mono (fun i _ c e=>mono i c e) ok,rfl,(Zaw M b.er ns q).symm,⟨[],List.nil_sublist _,?_⟩,fun n hn=>.inr (.inl (Q.Zi n hn)),fun n hn=>.inr (.inl hn),un⟩;have:b.opn=[]:=by
       obtain ⟨c',e',f',_⟩:=rb.at;rw [e] at e';cases e';have v:=(ZbC f').2.2.1;rw [hv,Q.Zaz] at v;cases b<;>first|rfl|cases v
     rw [this];exact .nil
   . left;obtain ⟨v,vo,vv,ve,vg,vs,vu⟩:=mq x (hs x hx);rw [ev'] at ve;have:=ZeN (Option.some.inj ve);have eb:b.er=.name x:=by
       obtain ⟨c',e',f',_⟩:=rb.at;rw [e] at e';cases e';generalize b.er=z at f';cases z<;>simp only [Fit] at f';rw [f']
     refine ⟨v,Q.mono (fun i _ c e=>mono i c e) vo,this.symm,?_,⟨[],List.nil_sublist _,?_⟩,fun n hn=>.inr (.inr (vs n (Q.Zi n hn))),fun n hn=>.inr (.inr (vs n hn)),vu⟩
     . rw [eb];simp only [sub];rw [ZbB,if_pos hx,vg];rfl
     . have:v.opn=[]:=by cases v<;>first|rfl|cases vv
       rw [this];exact .nil
   . right;obtain ⟨c',nums,a1,a2,a3⟩:=u.d j (b.no,ns) ej (by simp) (by simp);simp only at a1 a3;rw [e] at a1;cases a1;obtain ⟨t',c',gd,e',hv,_⟩:=u.g (b.no,ns) (O1 ej);simp only at e' hv;rw [e] at e';cases e';refine ⟨c,nums,e,?_,⟨j,ej,rfl⟩,a3,hc,fun z=>?_⟩
     . rw [ZiT (by lia)];show (G++N)[G.length+j]? = _;rw [Om (by lia),show G.length+j - G.length=j by lia];exact a2
     . rw [rb.one gd.r];exact hv z
 have len:∀ {c:Gc}{ns:List Str}{nums:List Nat},Paired (Std G md K) (bn c ns) nums->nums.length=c.ps.length:=fun p=>by rw [<- Paired.len p];unfold bn;rw [List.length_map]
 intro b;induction b with
 | num i z =>
   intro ns num ok un _ st hs;rcases ease _ ns num ok un st hs with q|⟨c,nums,e,e',k,p,_,hv⟩
   . exact q
   . have ec:c=.num z:=Option.some.inj (e.symm.trans (ZD _ _ ok));subst ec;exact absurd (hv rfl) (by simp [Q.er,fin])
 | name i x =>
   intro ns num ok un _ st hs;rcases ease _ ns num ok un st hs with q|⟨c,nums,e,e',k,p,hc,hv⟩
   . exact q
   . have ec:c=.name x:=Option.some.inj (e.symm.trans (ZD _ _ ok));subst ec;cases List.length_eq_zero_iff.mp (len p);have hx:x ∉ ns:=by simpa [cm] using hc
     exact ⟨.name num x,e',rfl,by simp only [Q.er,sub];rw [ZbB,if_neg hx];rfl,⟨[i],List.Sublist.refl _,.cons k .nil⟩,fun n hn=>(by cases hn),fun n hn=>.inl ⟨i,ns,Ox.mp hn ▸ k,.head _⟩,trivial⟩
 | fn i x e ih =>
   intro ns num ok un sm st hs;rcases ease _ ns num ok un st hs with q|⟨c,nums,e0,e',k,p,hc,hv⟩
   . exact q
   . have ec:c=.fn x e.no:=Option.some.inj (e0.symm.trans (ZD _ _ ok.1));subst ec;obtain ⟨n1,rfl⟩:=List.length_eq_one_iff.mp (len p);cases p with|cons s1 _=>?_
     have sm':∀ n,n∈e.all\/S_ n->n<G.length:=fun n hn=>sm n (hn.imp (fun z=>.tail _ z) id);obtain ⟨q1,c1⟩:=ih (rs ns [x]) n1 ok.2 un.2 sm' s1 (fun y hy=>hs y (List.mem_filter.mp hy).1);refine ⟨.fn num x q1,⟨by rw [c1.no];exact e',c1.ok⟩,rfl,?_,⟨[],List.nil_sublist _,.nil⟩,fun n hn=>?_,fun n hn=>?_,⟨c1.one un.1 sm',c1.u⟩⟩
     . show T.fn x q1.er=T.fn x (sub (inn (.fn x e.er) (arN M ns)) e.er);rw [c1.er,Zc9];rfl
     . rcases c1.a n hn with ⟨i',ns',k',z⟩|z|z
       . exact .inl ⟨i',ns',k',z⟩
       . exact .inr (.inl (.tail _ z))
       . exact .inr (.inr z)
     . rcases O2.mp hn with rfl|hn
       . exact .inl ⟨i,ns,k,.head _⟩
       . rcases c1.a n hn with ⟨i',ns',k',z⟩|z|z
         . exact .inl ⟨i',ns',k',.tail _ z⟩
         . exact .inr (.inl (.tail _ z))
         . exact .inr (.inr z)
 | rcc i f x e ih =>
   intro ns num ok un sm st hs;rcases ease _ ns num ok un st hs with q|⟨c,nums,e0,e',k,p,hc,hv⟩
   . exact q
   . have ec:c=.rcc f x e.no:=Option.some.inj (e0.symm.trans (ZD _ _ ok.1));subst ec;obtain ⟨n1,rfl⟩:=List.length_eq_one_iff.mp (len p);cases p with|cons s1 _=>?_
     have sm':∀ n,n∈e.all\/S_ n->n<G.length:=fun n hn=>sm n (hn.imp (fun z=>.tail _ z) id);obtain ⟨q1,c1⟩:=ih (rs ns [f,x]) n1 ok.2 un.2 sm' s1 (fun y hy=>hs y (List.mem_filter.mp hy).1);refine ⟨.rcc num f x q1,⟨by rw [c1.no];exact e',c1.ok⟩,rfl,?_,⟨[],List.nil_sublist _,.nil⟩,fun n hn=>?_,fun n hn=>?_,⟨c1.one un.1 sm',c1.u⟩⟩
     . show T.rcc f x q1.er=T.rcc f x (sub (inn (.rcc f x e.er) (arN M ns)) e.er);rw [c1.er,Zc9];rfl
     . rcases c1.a n hn with ⟨i',ns',k',z⟩|z|z
       . exact .inl ⟨i',ns',k',z⟩
       . exact .inr (.inl (.tail _ z))
       . exact .inr (.inr z)
     . rcases O2.mp hn with rfl|hn
       . exact .inl ⟨i,ns,k,.head _⟩
       . rcases c1.a n hn with ⟨i',ns',k',z⟩|z|z
         . exact .inl ⟨i',ns',k',.tail _ z⟩
         . exact .inr (.inl (.tail _ z))
         . exact .inr (.inr z)
 | call i a b ia ib =>
   intro ns num ok un sm st hs;rcases ease _ ns num ok un st hs with q|⟨c,nums,e0,e',k,p,hc,hv⟩
   . exact q
   . have ec:c=.call a.no b.no:=Option.some.inj (e0.symm.trans (ZD _ _ ok.1));subst ec;obtain ⟨n1,n2,rfl⟩:∃ a b,nums=[a,b]:=match nums,len p with|[a,b],_=>⟨a,b,rfl⟩
     simp only [bn,Gc.ps,Gc.bd,ZdE,Op,Oy] at p;obtain ⟨s1,s2⟩:=pq2 p;obtain ⟨q1,c1⟩:=ia ns n1 ok.2.1 un.1 (fun n hn=>sm n (hn.imp (fun z=>by simp [Q.all,z]) id)) s1 hs;obtain ⟨q2,c2⟩:=ib ns n2 ok.2.2 un.2 (fun n hn=>sm n (hn.imp (fun z=>by simp [Q.all,z]) id)) s2 hs;obtain ⟨l1,o1,p1⟩:=c1.o;obtain ⟨l2,o2,p2⟩:=c2.o;refine ⟨.call num q1 q2,⟨by rw [c1.no,c2.no];exact e',c1.ok,c2.ok⟩,rfl,by simp only [Q.er,sub];rw [c1.er,c2.er],⟨i::(l1++l2),(o1.append o2).cons_cons _,.cons k (Paired.app p1 p2)⟩,fun n hn=>?_,fun n hn=>?_,⟨c1.u,c2.u⟩⟩
     . simp only [Q.deep,Q.all,O2,OD] at hn ⊢;rcases hn with hn|hn
       . rcases c1.d n hn with ⟨i',ns',k',z⟩|z|z
         . exact .inl ⟨i',ns',k',.inl z⟩
         . exact .inr (.inl (.inr (.inl z)))
         . exact .inr (.inr z)
       . rcases c2.d n hn with ⟨i',ns',k',z⟩|z|z
         . exact .inl ⟨i',ns',k',.inr z⟩
         . exact .inr (.inl (.inr (.inr z)))
         . exact .inr (.inr z)
     . simp only [Q.all,O2,OD] at hn ⊢;rcases hn with rfl|hn|hn
       . exact .inl ⟨i,ns,k,.inl rfl⟩
       . rcases c1.a n hn with ⟨i',ns',k',z⟩|z|z
         . exact .inl ⟨i',ns',k',.inr (.inl z)⟩
         . exact .inr (.inl (.inr (.inl z)))
         . exact .inr (.inr z)
       . rcases c2.a n hn with ⟨i',ns',k',z⟩|z|z
         . exact .inl ⟨i',ns',k',.inr (.inr z)⟩
         . exact .inr (.inl (.inr (.inr z)))
         . exact .inr (.inr z)
 | op i w a b ia ib =>
   intro ns num ok un sm st hs;rcases ease _ ns num ok un st hs with q|⟨c,nums,e0,e',k,p,hc,hv⟩
   . exact q
   . have ec:c=.op w a.no b.no:=Option.some.inj (e0.symm.trans (ZD _ _ ok.1));subst ec;obtain ⟨n1,n2,rfl⟩:∃ a b,nums=[a,b]:=match nums,len p with|[a,b],_=>⟨a,b,rfl⟩
     simp only [bn,Gc.ps,Gc.bd,ZdE,Op,Oy] at p;obtain ⟨s1,s2⟩:=pq2 p;obtain ⟨q1,c1⟩:=ia ns n1 ok.2.1 un.1 (fun n hn=>sm n (hn.imp (fun z=>by simp [Q.all,z]) id)) s1 hs;obtain ⟨q2,c2⟩:=ib ns n2 ok.2.2 un.2 (fun n hn=>sm n (hn.imp (fun z=>by simp [Q.all,z]) id)) s2 hs;obtain ⟨l1,o1,p1⟩:=c1.o;obtain ⟨l2,o2,p2⟩:=c2.o;refine ⟨.op num w q1 q2,⟨by rw [c1.no,c2.no];exact e',c1.ok,c2.ok⟩,rfl,by simp only [Q.er,sub];rw [c1.er,c2.er],⟨i::(l1++l2),(o1.append o2).cons_cons _,.cons k (Paired.app p1 p2)⟩,fun n hn=>?_,fun n hn=>?_,⟨c1.u,c2.u⟩⟩
     . simp only [Q.deep,Q.all,O2,OD] at hn ⊢;rcases hn with hn|hn
       . rcases c1.d n hn with ⟨i',ns',k',z⟩|z|z
         . exact .inl ⟨i',ns',k',.inl z⟩
         . exact .inr (.inl (.inr (.inl z)))
         . exact .inr (.inr z)
       . rcases c2.d n hn with ⟨i',ns',k',z⟩|z|z
         . exact .inl ⟨i',ns',k',.inr z⟩
         . exact .inr (.inl (.inr (.inr z)))
         . exact .inr (.inr z)
     . simp only [Q.all,O2,OD] at hn ⊢;rcases hn with rfl|hn|hn
       . exact .inl ⟨i,ns,k,.inl rfl⟩
       . rcases c1.a n hn with ⟨i',ns',k',z⟩|z|z
         . exact .inl ⟨i',ns',k',.inr (.inl z)⟩
         . exact .inr (.inl (.inr (.inl z)))
         . exact .inr (.inr z)
       . rcases c2.a n hn with ⟨i',ns',k',z⟩|z|z
         . exact .inl ⟨i',ns',k',.inr (.inr z)⟩
         . exact .inr (.inl (.inr (.inr z)))
         . exact .inr (.inr z)
 | iff i a b d ia ib id' =>
   intro ns num ok un sm st hs;rcases ease _ ns num ok un st hs with q|⟨c,nums,e0,e',k,p,hc,hv⟩
   . exact q
   . have ec:c=.iff a.no b.no d.no:=Option.some.inj (e0.symm.trans (ZD _ _ ok.1));subst ec;obtain ⟨n1,n2,n3,rfl⟩:∃ a b c,nums=[a,b,c]:=match nums,len p with|[a,b,c],_=>⟨a,b,c,rfl⟩
     simp only [bn,Gc.ps,Gc.bd,ZdE,Op,Oy] at p;obtain ⟨s1,s2,s3⟩:=pq3 p;obtain ⟨q1,c1⟩:=ia ns n1 ok.2.1 un.1 (fun n hn=>sm n (hn.imp (fun z=>by simp [Q.all,z]) id)) s1 hs;obtain ⟨q2,c2⟩:=ib ns n2 ok.2.2.1 un.2.1 (fun n hn=>sm n (hn.imp (fun z=>by simp [Q.all,z]) id)) s2 hs;obtain ⟨q3,c3⟩:=id' ns n3 ok.2.2.2 un.2.2 (fun n hn=>sm n (hn.imp (fun z=>by simp [Q.all,z]) id)) s3 hs;obtain ⟨l1,o1,p1⟩:=c1.o;obtain ⟨l2,o2,p2⟩:=c2.o;obtain ⟨l3,o3,p3⟩:=c3.o;refine ⟨.iff num q1 q2 q3,⟨by rw [c1.no,c2.no,c3.no];exact e',c1.ok,c2.ok,c3.ok⟩,rfl,by simp only [Q.er,sub];rw [c1.er,c2.er,c3.er],⟨i::(l1++(l2++l3)),(o1.append (o2.append o3)).cons_cons _,.cons k (Paired.app p1 (Paired.app p2 p3))⟩,fun n hn=>?_,fun n hn=>?_,⟨c1.u,c2.u,c3.u⟩⟩
     . simp only [Q.deep,Q.all,O2,OD] at hn ⊢;rcases hn with hn|hn|hn
       . rcases c1.d n hn with ⟨i',ns',k',z⟩|z|z
         . exact .inl ⟨i',ns',k',.inl z⟩
         . exact .inr (.inl (.inr (.inl z)))
         . exact .inr (.inr z)
       . rcases c2.d n hn with ⟨i',ns',k',z⟩|z|z
         . exact .inl ⟨i',ns',k',.inr (.inl z)⟩
         . exact .inr (.inl (.inr (.inr (.inl z))))
         . exact .inr (.inr z)
       . rcases c3.d n hn with ⟨i',ns',k',z⟩|z|z
         . exact .inl ⟨i',ns',k',.inr (.inr z)⟩
         . exact .inr (.inl (.inr (.inr (.inr z))))
         . exact .inr (.inr z)
     . simp only [Q.all,O2,OD] at hn ⊢;rcases hn with rfl|hn|hn|hn
       . exact .inl ⟨i,ns,k,.inl rfl⟩
       . rcases c1.a n hn with ⟨i',ns',k',z⟩|z|z
         . exact .inl ⟨i',ns',k',.inr (.inl z)⟩
         . exact .inr (.inl (.inr (.inl z)))
         . exact .inr (.inr z)
       . rcases c2.a n hn with ⟨i',ns',k',z⟩|z|z
         . exact .inl ⟨i',ns',k',.inr (.inr (.inl z))⟩
         . exact .inr (.inl (.inr (.inr (.inl z))))
         . exact .inr (.inr z)
       . rcases c3.a n hn with ⟨i',ns',k',z⟩|z|z
         . exact .inl ⟨i',ns',k',.inr (.inr (.inr z))⟩
         . exact .inr (.inl (.inr (.inr (.inr z))))
         . exact .inr (.inr z)
end Grf
end
section
namespace Grf
open PySem L2 IV Tm
variable {P:Pg}
theorem Zos{h:Hd}(e:h[i]? = some (.dic md))(k:Zah md=some nm)(o:nm.all PyData.strOk=true):Za9 GD .tdk [.ref i] h=.ok (nD nm) h:=by
 show Zmn GD [.ref i] h=_;unfold Zmn dicOf;simp only [e,Option.bind_some,k,if_pos o];rfl
noncomputable def Z8 (fs:List (Str×D)):DO:=.ins (O "Copier") fs
theorem Zez {U:Tb}{S:Ev}{h h1:Hd}{a e:Ex}{o:Nat}{fs:List (Str×D)}{f:Str}{d:D} (p:ev U e S h=.ok d h1) (q:ev U a S h1=.ok (.ref o) h1) (k:h1[o]? = some (Z8 fs)) (l:fs.length<1000):xs1 U (.seta [(O "Copier")] a f e) S h=.ok (.nx,S) (h1.set o (Z8 (Zgc f d fs))):=by
 rw [ZkA,p,Zd,q,Zd];simp [ZhZ,k,Z8,l]
theorem ZeA{h:Hd}{o:Nat}{x y:DO}(e:h[o]? = some x):(h.set o y)[o]? = some y:=by rw [Ol (Zw e)]
theorem Zck{h:Hd}{o i:Nat}{x y:DO}(e:h[i]? = some x)(ne:i≠o):(h.set o y)[i]? = some x:=by rw [Oc ne.symm];exact e
theorem ZrD (H:Gs P) (n:Nat) {G:List Gc}{h:Hd}{k mk m:Nat}{md:List (Key×D)}{nm:List Str}{t:T} (hk:h[k]? = some (cl G)) (hm:h[mk]? = some (.dic md)) (ks:Zah md=some nm) (so:nm.all PyData.strOk=true) (hn:nm.length<=2) (rd:Rd (gl G) m t) (hz:t.size<=20000):∃ A h' kv,ZlB (run P (n+5)) (O "Copier") [.ref k,nI m,.ref mk] h=.ok (.ref A.o) h'/\A.k=k/\A.m=mk/\h.length<=A.n/\h.length<=A.w/\Sc A G kv md h' h' [] [] []/\ZfH G kv/\Zkz G kv/\inN kv (m,nm)=true/\Fm [] h h':=by
 have lk:=Zw hk;have lm:=Zw hm;unfold ZlB;rw [Zgb H.n_Copier___init__ H.Copier___init__ rfl];have nk:∀ {i o},h[i]? = some o->i≠h.length:=fun e z=>by have:=Zw e;lia
 have k1:(h++[Z8 []])[h.length]? = some (Z8 []):=Zcg;have x1:xs1 (P.tbl (n+4)) ZaQ [some (.ref h.length),some (.ref k),some (nI m),some (.ref mk)] (h++[Z8 []])=.ok (.nx,[some (.ref h.length),some (.ref k),some (nI m),some (.ref mk)]) ((h++[Z8 []]).set h.length (Z8 [(O "cells",.ref k)])):=Zez rfl rfl k1 (by simp);have f1:Fm [h.length] h ((h++[Z8 []]).set h.length (Z8 [(O "cells",.ref k)])):=Fm.app.trans (.set (by simp));have k2:=ZeA (y:=Z8 [(O "cells",.ref k)]) k1;generalize (h++[Z8 []]).set h.length (Z8 [(O "cells",.ref k)])=h1 at *;have x2:xs1 (P.tbl (n+4)) ZaP [some (.ref h.length),some (.ref k),some (nI m),some (.ref mk)] h1=.ok (.nx,[some (.ref h.length),some (.ref k),some (nI m),some (.ref mk)]) (h1.set h.length (Z8 [(O "cells",.ref k),(O "meant",.ref mk)])):=(Zez rfl rfl k2 (by simp)).trans (by simp [Zgc]);have f2:Fm [h.length] h (h1.set h.length (Z8 [(O "cells",.ref k),(O "meant",.ref mk)])):=f1.trans (.set (by simp));have k3:=ZeA (y:=Z8 [(O "cells",.ref k),(O "meant",.ref mk)]) k2;generalize h1.set h.length (Z8 [(O "cells",.ref k),(O "meant",.ref mk)])=h2 at *;have hk2:=f2.at hk (by simpa using nk hk);have hm2:=f2.at hm (by simpa using nk hm);obtain ⟨h3,fk,kv,e3,kf3,lf,fm3,ok,cd,inn⟩:=Zpi H n hk2 rd hz hn;have q3:ev (P.tbl (n+4)) (.call (O "free_beneath") (.cons (.var 1) (.cons (.var 2) (.cons (.blt .tdk (.cons (.var 3) .nil)) .nil)))) [some (.ref h.length),some (.ref k),some (nI m),some (.ref mk)] h2=.ok (.ref fk) h3:=Zu e3 (Zb rfl (Zb rfl (Zb (Zfb (Zb rfl rfl) (Zos hm2 ks so)) rfl)));have k3':=fm3.at k3 (by simp);have x3:xs1 (P.tbl (n+4)) ZaO [some (.ref h.length),some (.ref k),some (nI m),some (.ref mk)] h2=.ok (.nx,[some (.ref h.length),some (.ref k),some (nI m),some (.ref mk)]) (h3.set h.length (Z8 [(O "cells",.ref k),(O "meant",.ref mk),(O "free",.ref fk)])):=(Zez q3 rfl k3' (by simp)).trans (by simp [Zgc]);have f4:Fm [h.length] h (h3.set h.length (Z8 [(O "cells",.ref k),(O "meant",.ref mk),(O "free",.ref fk)])):=(f2.trans (fm3.sub (by simp))).trans (.set (by simp));have nf:fk≠h.length:=by have:=Zw k3;lia
 have kf4:=Zck (y:=Z8 [(O "cells",.ref k),(O "meant",.ref mk),(O "free",.ref fk)]) kf3 nf;have k4:=ZeA (y:=Z8 [(O "cells",.ref k),(O "meant",.ref mk),(O "free",.ref fk)]) k3';generalize h3.set h.length (Z8 [(O "cells",.ref k),(O "meant",.ref mk),(O "free",.ref fk)])=h4 at *;have q4:ev (P.tbl (n+4)) .ndl [some (.ref h.length),some (.ref k),some (nI m),some (.ref mk)] h4=.ok (.ref h4.length) (h4++[.dnk []]):=rfl;have k4':(h4++[DO.dnk []])[h.length]? = some _:=keep k4;have kn4:(h4++[DO.dnk []])[h4.length]? = some (.dnk []):=Zcg;have kf4':(h4++[DO.dnk []])[fk]? = some (.dnk kv):=keep kf4;have x4:xs1 (P.tbl (n+4)) ZaN [some (.ref h.length),some (.ref k),some (nI m),some (.ref mk)] h4=.ok (.nx,[some (.ref h.length),some (.ref k),some (nI m),some (.ref mk)]) ((h4++[DO.dnk []]).set h.length (Z8 [(O "cells",.ref k),(O "meant",.ref mk),(O "free",.ref fk),(O "known",.ref h4.length)])):=(Zez q4 rfl k4' (by simp)).trans (by simp [Zgc]);have l4:=Zw k4;have lf4:=Zw kf4;have f5:Fm [h.length] h ((h4++[DO.dnk []]).set h.length (Z8 [(O "cells",.ref k),(O "meant",.ref mk),(O "free",.ref fk),(O "known",.ref h4.length)])):=(f4.trans .app).trans (.set (by simp));have kn5:=Zck (y:=Z8 [(O "cells",.ref k),(O "meant",.ref mk),(O "free",.ref fk),(O "known",.ref h4.length)]) kn4 (show h4.length≠h.length by lia);have kf5:=Zck (y:=Z8 [(O "cells",.ref k),(O "meant",.ref mk),(O "free",.ref fk),(O "known",.ref h4.length)]) kf4' nf;have k5:=ZeA (y:=Z8 [(O "cells",.ref k),(O "meant",.ref mk),(O "free",.ref fk),(O "known",.ref h4.length)]) k4';have l5:((h4++[DO.dnk []]).set h.length (Z8 [(O "cells",.ref k),(O "meant",.ref mk),(O "free",.ref fk),(O "known",.ref h4.length)])).length=h4.length+1:=by simp
 generalize (h4++[DO.dnk []]).set h.length (Z8 [(O "cells",.ref k),(O "meant",.ref mk),(O "free",.ref fk),(O "known",.ref h4.length)])=h5 at *;have q5:ev (P.tbl (n+4)) (.lstl .nil) [some (.ref h.length),some (.ref k),some (nI m),some (.ref mk)] h5=.ok (.ref h5.length) (h5++[.lst []]):=ZsN rfl (by simp);have x5:xs1 (P.tbl (n+4)) ZaM [some (.ref h.length),some (.ref k),some (nI m),some (.ref mk)] h5=.ok (.nx,[some (.ref h.length),some (.ref k),some (nI m),some (.ref mk)]) ((h5++[DO.lst []]).set h.length (cpD ⟨h.length,k,mk,fk,h4.length,h5.length⟩)):=(Zez q5 rfl (keep k5) (by simp)).trans (by simp [Zgc,cpD,Z8]);have kw5:(h5++[DO.lst []])[h5.length]? = some (.lst []):=Zcg;have w:xs2 (P.tbl (n+4)) Zbh [some (.ref h.length),some (.ref k),some (nI m),some (.ref mk)] (h++[Z8 []])=.ok (.nx,_) _:=(Za x1).trans ((Za x2).trans ((Za x3).trans ((Za x4).trans ((Za x5).trans rfl))));have f6:Fm [h.length] h ((h5++[DO.lst []]).set h.length (cpD ⟨h.length,k,mk,fk,h4.length,h5.length⟩)):=(f5.trans .app).trans (.set (by simp));refine ⟨⟨h.length,k,mk,fk,h4.length,h5.length⟩,(h5++[DO.lst []]).set h.length (cpD ⟨h.length,k,mk,fk,h4.length,h5.length⟩),kv,?_,rfl,rfl,by show h.length<=h4.length;lia,by show h.length<=h5.length;lia,⟨ZeA (keep k5),by rw [List.append_nil];exact f6.at hk (by simpa using nk hk),f6.at hm (by simpa using nk hm),Zck (keep kf5) nf,Zck (keep kn5) (by show h4.length≠h.length;lia),Zck kw5 (by show h5.length≠h.length;lia),.refl,by show k≠h5.length;lia,by show fk≠h4.length;lia⟩,ok,cd,inn,f6.cut fun i hi=>.inr (by simp at hi;lia)⟩;have:=congrArg (fun r=>(Zh r).bind fun d h2=>match d with|.non=>R.ok (D.ref h.length) h2|_=>R.bad) w;exact this
end Grf
end
section
namespace Grf
open PySem L2 IV Tm
variable {P:Pg}
theorem Pu.none:Pu G kv md nm [] [] [] []:=⟨rfl,.nil,fun _ h=>(by cases h),fun _ h=>(by cases h),fun j p h=>(by cases h)⟩
theorem ZrH (H:Gs P) (n:Nat) {A:Adr}{G:List Gc}{kv:List (NK×D)}{md:List (Key×D)}{nm:List Str}{M:List (Str×T)}{h:Hd}{m y:Nat}{t:T} (s:Sc A G kv md h h [] [] []) (ks:Zah md=some nm) (so:nm.all PyData.strOk=true) (hn:nm.length<=2) (ne:nm≠[]) (hy:y<G.length) (rd:Rd (wo (gl G) y) m t) (hz:t.size<=20000) (mt:Mt G md M nm) (mw:∀ x∈nm,∀ a v,ZE md (.inr x)=some (nI a)->get (M.map fun p=>(p.1,some p.2)) x=some v->Rd (wo (gl G) y) a v) (ok:ZfH G kv) (cd:Zkz G kv) (i:inN kv (m,nm)=true) (lG:G.length<=60000):∃ N num h',run P (n+4) (mnm (O "Copier") (O "copied")) [.ref A.o,nI m] h=.ok (nI num) h'/\h'[A.k]? = some (cl (G++N))/\Rd (wo (gl (G++N)) y) num (sub (arN M nm) t)/\N.length<=cc nm t/\Fm [A.k,A.n,A.w] h h'/\∃ K,Pu G kv md nm K N [] []/\Std G md K (m,nm) num:=by
 have big:=H.b.big;have cl':=ZcQ nm t;obtain ⟨num,h1,K1,N1,W1,e1,s1,u1,d1,_,b1,c1⟩:=Zja H (n+1) (p:=(m,nm)) (X:=[]) s Pu.none ⟨rd.mono ZD,i,ne,hn,fun _ h=>h⟩ mt ok (by simp;lia) (by simp);simp only [List.length_nil,Nat.zero_add,show dz []=0 from rfl,show smz []=0 from rfl] at b1 c1;obtain ⟨h2,K2,N2,e2,s2,u2,⟨L,z2⟩,b2⟩:=Zhb H n (S:=[some (.ref A.o),some (nI m),some (nI num)]) mt ok cd rfl P.L h1 K1 N1 W1 s1 u1 (by lia) (by lia) (by lia);refine ⟨N2,num,h2,?_,s2.c,ZkV hy mt mw u2 t.size t (m,nm) num (Oq _) rd (by rw [z2];exact d1.mono L) fun _ h=>h,by rw [u2.l];lia,s2.fm,K2,u2,by rw [z2];exact d1.mono L⟩;rw [Zgb H.n_Copier_copied H.Copier_copied rfl];have q:ev (P.tbl (n+3)) (.mcl (O "Copier") (O "stand_in") (.var 0) (.cons (.var 1) (.cons (.blt .tdk (.cons (.att [(O "Copier")] (.var 0) (O "meant")) .nil)) .nil))) [some (.ref A.o),some (nI m),none] h=.ok (nI num) h1:=ZjB (i:=A.o) rfl s.o rfl (Zb rfl (Zb (Zfb (Zb (Zs4 s.o rfl) rfl) (Zos s.m ks so)) rfl)) e1;have w:xs2 (P.tbl (n+3)) ZbO [some (.ref A.o),some (nI m),none] h=.ok (.rt (nI num),_) h2:=(Za (Zj (i:=2) q)).trans ((Za (s:=Zbg) (Zee.trans e2)).trans (Zc (Zs rfl)));exact congrArg Zh w
theorem Zpj (H:Gs P) (n:Nat) {S:Ev}{es:Exs}{e:Ex}{G:List Gc}{h:Hd}{k mk m y:Nat}{md:List (Key×D)}{nm:List Str}{M:List (Str×T)}{t:T} (hes:evs (P.tbl (n+5)) es S h=.ok [.ref k,nI m,.ref mk] h) (he:∀ h,ev (P.tbl (n+5)) e S h=.ok (nI m) h) (hk:h[k]? = some (cl G)) (hm:h[mk]? = some (.dic md)) (ks:Zah md=some nm) (so:nm.all PyData.strOk=true) (hn:nm.length<=2) (ne:nm≠[]) (hy:y<G.length) (rd:Rd (wo (gl G) y) m t) (hz:t.size<=20000) (mt:Mt G md M nm) (mw:∀ x∈nm,∀ a v,ZE md (.inr x)=some (nI a)->get (M.map fun p=>(p.1,some p.2)) x=some v->Rd (wo (gl G) y) a v) (lG:G.length<=60000):∃ N num h',ev (P.tbl (n+5)) (.mcl (O "Copier") (O "copied") (.mk (O "Copier") es) (.cons e .nil)) S h=.ok (nI num) h'/\h'[k]? = some (cl (G++N))/\Rd (wo (gl (G++N)) y) num (sub (arN M nm) t)/\N.length<=cc nm t/\Fm [k] h h'/\∃ kv K,Pu G kv md nm K N [] []/\Std G md K (m,nm) num:=by
 obtain ⟨A,h1,kv,e1,rfl,rfl,l1,l2,s1,ok,cd,i,f1⟩:=ZrD H n hk hm ks so hn (rd.mono ZD) hz;obtain ⟨N,num,h2,e2,k2,r2,n2,f2,pu⟩:=ZrH H (n+1) s1 ks so hn ne hy rd hz mt mw ok cd i lG;refine ⟨N,num,h2,?_,k2,r2,n2,((f1.sub (by simp)).trans f2).cut fun j hj=>?_,kv,pu⟩
 . refine ZjB (i:=A.o) (h1:=h1) (h2:=h1) ?_ s1.o rfl (Zb (he _) rfl) e2;rw [ZsM,hes];exact e1
 . simp only [O2,List.not_mem_nil,or_false] at hj ⊢;rcases hj with rfl|rfl|rfl
   . exact .inl rfl
   . exact .inr l1
   . exact .inr l2
theorem Zeo(M:List (Str×T)):arN M (M.map (·.1))=Fil.ar M:=by
 unfold arN Fil.ar;rw [List.filter_eq_self.mpr];intro p hp;exact decide_eq_true (List.mem_map_of_mem hp)
noncomputable def ccF:T->Nat
 | .fn x e=>cc [x] e
 | .rcc f x e=>cc [f,x] e
 | _=>0
noncomputable def How(G:List Gc)(y iF iA:Nat)(tF tA:T)(N:List Gc)(num:Nat)(s':T):Prop:=∃ md nm M kv K b t c,gl G iF=some c/\c.ps=[b]/\c.isV=true/\Rd (wo (gl G) y) b t/\s'=sub (arN M nm) t/\Pu G kv md nm K N [] []/\Std G md K (b,nm) num/\∀ x∈nm,(ZE md (.inr x)=some (nI iF)/\get (M.map fun p=>(p.1,some p.2)) x=some tF)\/(ZE md (.inr x)=some (nI iA)/\get (M.map fun p=>(p.1,some p.2)) x=some tA)
theorem Zk2 (H:Gs P) (n:Nat) {G:List Gc}{h:Hd}{k iF iA y:Nat}{tF tA:T} (hk:h[k]? = some (cl G)) (hy:y<G.length) (rF:Rd (wo (gl G) y) iF tF) (rA:Rd (wo (gl G) y) iA tA) (vF:Tm.isV tF=true) (cF:Gn.Cl [] tF) (zF:tF.size<=20000) (lG:G.length<=60000):(bec (.call tF tA)=none/\run P (n+6) (O "called") [.ref k,nI iF,nI iA] h=.ok .non h)\/∃ s' N num c' h',bec (.call tF tA)=some s'/\run P (n+6) (O "called") [.ref k,nI iF,nI iA] h=.ok c'.d h'/\h'[k]? = some (cl (G++N))/\Fm [k] h h'/\(G++N)[num]? = some c'/\Rd (wo (gl (G++N)) y) num s'/\N.length<=ccF tF/\How G y iF iA tF tA N num s':=by
 rw [Zl H.called rfl];obtain ⟨c,e,f,pp,ex⟩:=(rF.mono ZD).at;clear ex;obtain ⟨_,e0,f0,pp0⟩:=rF.inv;cases (ZD _ _ e0).symm.trans e;have lk:=Zw hk;have x1:xs1 (P.tbl (n+5)) Zfv [some (.ref k),some (nI iF),some (nI iA),none,none,none] h=.ok (.nx,[some (.ref k),some (nI iF),some (nI iA),some c.d,none,none]) h:=Zj (i:=3) (ZaZ rfl rfl hk e);have fin':∀ {w:Str}{b:Nat}{md:List (Key×D)}{nm:List Str}{M:List (Str×T)}{t:T}{h1:Hd},xs2 (P.tbl (n+5)) Zdy [some (.ref k),some (nI iF),some (nI iA),none,none,none] h=xs2 (P.tbl (n+5)) (.cons Zc4 (.cons Zc3 .nil)) [some (.ref k),some (nI iF),some (nI iA),some c.d,some (.ref h.length),none] (h++[.dic md])->c.ps=[b]->M.map (·.1)=nm->Zah md=some nm->nm.all PyData.strOk=true->nm.length<=2->nm≠[]->Rd (wo (gl G) y) b t->t.size<=20000->Mt G md M nm->(∀ x∈nm,∀ a v,ZE md (.inr x)=some (nI a)->get (M.map fun p=>(p.1,some p.2)) x=some v->Rd (wo (gl G) y) a v)->∃ N num c' h',Zh (xs2 (P.tbl (n+5)) Zdy [some (.ref k),some (nI iF),some (nI iA),none,none,none] h)=.ok c'.d h'/\h'[k]? = some (cl (G++N))/\Fm [k] h h'/\(G++N)[num]? = some c'/\Rd (wo (gl (G++N)) y) num (sub (Fil.ar M) t)/\N.length<=cc nm t/\∃ kv K,Pu G kv md nm K N [] []/\Std G md K (b,nm) num:=by
   intro w b md nm M t h1 q hb hM ks so hn ne rd hz mt mw;rw [q];have k1:(h++[DO.dic md])[k]? = some (cl G):=keep hk;have m1:(h++[DO.dic md])[h.length]? = some (.dic md):=Zcg;have f1:Fm [k] h (h++[DO.dic md]):=.app;generalize h++[DO.dic md]=h1 at *;have q4:ev (P.tbl (n+5)) (.ix (.call (O "parts_of") (.cons (.var 3) .nil)) (.cst (.int 0))) [some (.ref k),some (nI iF),some (nI iA),some c.d,some (.ref h.length),none] h1=.ok (nI b) h1:=(ZX (Zu (Zgz H.b.toTre (n+4) c) rfl) rfl).trans (by rw [hb];rfl);obtain ⟨N,num,h2,e2,k2,r2,n2,f2,hw⟩:=Zpj H n (S:=[some (.ref k),some (nI iF),some (nI iA),some c.d,some (.ref h.length),some (nI b)]) (es:=.cons (.var 0) (.cons (.var 5) (.cons (.var 4) .nil))) (e:=.var 5) rfl (fun _=>rfl) k1 m1 ks so hn ne hy rd hz mt mw lG;obtain ⟨c',e',_,_⟩:=r2.inv;have e':=ZD _ _ e';rw [<- hM,Zeo] at r2;refine ⟨N,num,c',h2,?_,k2,f1.trans f2,e',r2,n2,hw⟩;have q5:ev (P.tbl (n+5)) (.ix (.var 0) (.mcl (O "Copier") (O "copied") (.mk (O "Copier") (.cons (.var 0) (.cons (.var 5) (.cons (.var 4) .nil)))) (.cons (.var 5) .nil))) [some (.ref k),some (nI iF),some (nI iA),some c.d,some (.ref h.length),some (nI b)] h1=.ok c'.d h2:=(ZX (x:=.ref k) rfl e2).trans ((ZbT k2).trans (by rw [Zs5 e'];rfl));have w:xs2 (P.tbl (n+5)) (.cons Zc4 (.cons Zc3 .nil)) [some (.ref k),some (nI iF),some (nI iA),some c.d,some (.ref h.length),none] h1=.ok (.rt c'.d,_) h2:=(Za (Zj (i:=5) q4)).trans (Zc (Zs q5));exact congrArg Zh w
 cases tF with
 | num z =>
   cases c<;>simp only [Fit] at f;left;refine ⟨rfl,?_⟩;have w:xs2 (P.tbl (n+5)) Zdy [some (.ref k),some (nI iF),some (nI iA),none,none,none] h=.ok (.rt .non,_) h:=(Za x1).trans (Zc ((ZZ (ZV (ZcZ (x:=O "num") rfl rfl) (decide_eq_true rfl))).trans (Zc (Zs rfl))));exact congrArg Zh w
 | fn x t =>
   cases c<;>simp only [Fit] at f;rename_i x' b;have f:=f.symm;subst f;right;have x2:xs1 (P.tbl (n+5)) Zc6 [some (.ref k),some (nI iF),some (nI iA),some (Gc.fn x b).d,none,none] h=.ok (.nx,_) h:=(Zab (ZV (ZcZ (x:=O "fn") rfl rfl) (by simp))).trans rfl;have qd:ev (P.tbl (n+5)) (.dictl (.cons (.ix (.var 3) (.cst (.int 1))) (.cons (.var 2) .nil))) [some (.ref k),some (nI iF),some (nI iA),some (Gc.fn x b).d,none,none] h=.ok (.ref h.length) (h++[.dic [(.inr x,nI iA)]]):=by
     rw [Zhl,show evs (P.tbl (n+5)) _ _ h=.ok [.str x,nI iA] h from Zb rfl (Zb rfl rfl),Zd];simp [Zbv,keyOf,ZbW,putD]
   have x3:xs1 (P.tbl (n+5)) Zc5 [some (.ref k),some (nI iF),some (nI iA),some (Gc.fn x b).d,none,none] h=.ok (.nx,[some (.ref k),some (nI iF),some (nI iA),some (Gc.fn x b).d,some (.ref h.length),none]) (h++[.dic [(.inr x,nI iA)]]):=(ZZ (ZV (ZcZ (x:=O "fn") rfl rfl) (decide_eq_true rfl))).trans ((Za (Zj (i:=4) qd)).trans rfl);cases pp0 with|cons rb _=>?_
   have zz:=zf x t;have vx:ZE [((.inr x:Key),nI iA)] (.inr x)=some (nI iA):=by simp [ZE]
   obtain ⟨N,num,c',h2,e1,e2,e3,e4,e5,e6,kv,K,pu,sd⟩:=fin' (w:=x) (b:=b) (md:=[(.inr x,nI iA)]) (nm:=[x]) (M:=[(x,tA)]) (t:=t) (h1:=h) ((Za x1).trans ((Za x2).trans (Za x3))) rfl rfl rfl (by simp [cF.2.1]) (by simp) (by simp) rb (by lia) ⟨fun z hz=>by
     rw [Ox.mp hz];exact ⟨iA,tA,vx,by simp [Tm.get],rA.mono ZD⟩⟩ (fun z hz a v h1 h2=>by
     rw [Ox.mp hz] at h1 h2;rw [vx] at h1;rw [<- ZeN (Option.some.inj h1)];simp only [Op,Oy,Tm.get,if_true,Option.some.injEq] at h2;rw [<- h2];exact rA)
   exact ⟨_,N,num,c',h2,rfl,e1,e2,e3,e4,e5,e6,_,[x],[(x,tA)],kv,K,b,t,_,e,rfl,rfl,rb,by rw [show [x]=[(x,tA)].map (·.1) from rfl,Zeo],pu,sd,fun z hz=>.inr (by rw [Ox.mp hz];exact ⟨vx,by simp [Tm.get]⟩)⟩
 | rcc g x t =>
   cases c<;>simp only [Fit] at f;rename_i g' x' b;obtain ⟨f1,f2⟩:=f;have f1:=f1.symm;have f2:=f2.symm;subst f1;subst f2;right;have ngx:g≠x:=cF.2.1;have nxg:x≠g:=fun z=>ngx z.symm;have x2:xs1 (P.tbl (n+5)) Zc6 [some (.ref k),some (nI iF),some (nI iA),some (Gc.rcc g x b).d,none,none] h=.ok (.nx,_) h:=(Zab (ZV (ZcZ (x:=O "rec") rfl rfl) (by simp))).trans rfl;have qd:ev (P.tbl (n+5)) (.dictl (.cons (.ix (.var 3) (.cst (.int 1))) (.cons (.var 1) (.cons (.ix (.var 3) (.cst (.int 2))) (.cons (.var 2) .nil))))) [some (.ref k),some (nI iF),some (nI iA),some (Gc.rcc g x b).d,none,none] h=.ok (.ref h.length) (h++[.dic [(.inr g,nI iF),(.inr x,nI iA)]]):=by
     rw [Zhl,show evs (P.tbl (n+5)) _ _ h=.ok [.str g,nI iF,.str x,nI iA] h from Zb rfl (Zb rfl (Zb rfl (Zb rfl rfl))),Zd];simp [Zbv,keyOf,ZbW,putD,ngx]
   have x3:xs1 (P.tbl (n+5)) Zc5 [some (.ref k),some (nI iF),some (nI iA),some (Gc.rcc g x b).d,none,none] h=.ok (.nx,[some (.ref k),some (nI iF),some (nI iA),some (Gc.rcc g x b).d,some (.ref h.length),none]) (h++[.dic [(.inr g,nI iF),(.inr x,nI iA)]]):=(Zab (ZV (ZcZ (x:=O "rec") rfl rfl) (by simp))).trans ((Za (Zj (i:=4) qd)).trans rfl);cases pp0 with|cons rb _=>?_
   have zz:=zr g x t;have vg:ZE [((.inr g:Key),nI iF),(.inr x,nI iA)] (.inr g)=some (nI iF):=by simp [ZE]
   have vx:ZE [((.inr g:Key),nI iF),(.inr x,nI iA)] (.inr x)=some (nI iA):=by simp [ZE,ngx]
   have gg:Tm.get (([(g,T.rcc g x t),(x,tA)]:List (Str×T)).map fun p=>(p.1,some p.2)) g=some (T.rcc g x t):=by simp [Tm.get]
   have gx:Tm.get (([(g,T.rcc g x t),(x,tA)]:List (Str×T)).map fun p=>(p.1,some p.2)) x=some tA:=by simp [Tm.get,ngx]
   obtain ⟨N,num,c',h2,e1,e2,e3,e4,e5,e6,kv,K,pu,sd⟩:=fin' (w:=x) (b:=b) (md:=[(.inr g,nI iF),(.inr x,nI iA)]) (nm:=[g,x]) (M:=[(g,.rcc g x t),(x,tA)]) (t:=t) (h1:=h) ((Za x1).trans ((Za x2).trans (Za x3))) rfl rfl rfl (by simp [cF.2.2.1.1,cF.2.2.2.1]) (by simp) (by simp) rb (by lia) ⟨fun z hz=>by
     rcases O2.mp hz with rfl|hz
     . exact ⟨iF,_,vg,gg,rF.mono ZD⟩
     . rw [Ox.mp hz];exact ⟨iA,tA,vx,gx,rA.mono ZD⟩⟩ (fun z hz a v h1 h2=>by
     rcases O2.mp hz with rfl|hz
     . rw [vg] at h1;rw [gg] at h2;rw [<- ZeN (Option.some.inj h1),<- Option.some.inj h2];exact rF
     . rw [Ox.mp hz] at h1 h2;rw [vx] at h1;rw [gx] at h2;rw [<- ZeN (Option.some.inj h1),<- Option.some.inj h2];exact rA)
   refine ⟨_,N,num,c',h2,?_,e1,e2,e3,e4,e5,e6,_,[g,x],[(g,.rcc g x t),(x,tA)],kv,K,b,t,_,e,rfl,rfl,rb,by rw [show [g,x]=[(g,T.rcc g x t),(x,tA)].map (·.1) from rfl,Zeo],pu,sd,fun z hz=>?_⟩
   . simp only [bec,Zl1,if_neg ngx]
   . rcases O2.mp hz with rfl|hz
     . exact .inl ⟨vg,gg⟩
     . rw [Ox.mp hz];exact .inr ⟨vx,gx⟩
 | _=>cases vF
end Grf
end
section
namespace Grf
open PySem L2 IV Tm
variable {P:Pg}{h:Hd}
theorem Zk0 (H:Gs P) (n:Nat) (c:Gc) (hv:c.isV=true) (a b:D):run P (n+1) (O "chosen") [c.d,a,b] h=.ok (match c with|.num z=>if z=0 then b else a|_=>.non) h:=by
 rw [Zl H.chosen (by rfl)];cases c with
 | num z=>by_cases e:z=0<;>simp [Ze8,ZhG,Z7,Gc.d,Gc.fr,Gc.ps,e]
 | fn x e=>exact rfl
 | rcc f x e=>exact rfl
 | _=>cases hv
theorem ZgT (H:Gs P) (n:Nat) (w:Wd) (a b:Gc) (va:a.isV=true) (vb:b.isV=true) (no:¬ ∃ x y,a=.num x/\b=.num y):run P (n+1) (O "worked") [.str w.s,a.d,b.d] h=.ok .non h:=by
 have k:xs1 (P.tbl n) Zfo [some (.str w.s),some a.d,some b.d] h=.ok (.rt .non,[some (.str w.s),some a.d,some b.d]) h:=by
   cases a with
   | num x =>
     cases b with
     | num y=>exact absurd ⟨x,y,rfl,rfl⟩ no
     | fn _ _=>exact rfl
     | rcc _ _ _=>exact rfl
     | _=>cases vb
   | fn _ _=>exact rfl
   | rcc _ _ _=>exact rfl
   | _=>cases va
 rw [Zl H.worked (by rfl)];exact rt1 (U:=P.tbl n) (ss:=Zv) k rfl
noncomputable def ccR:T->Nat
 | .call f _=>ccF f
 | _=>0
theorem ZiG(t u:T)(r:Red t)(c:Gn.Cl [] t)(e:bec t=some u):Gn.Cl [] u:=by
 cases t with
 | call F A =>
   cases F with
   | fn x b =>
     cases e;exact Za0 b (Zl0 (by simp;exact c.2) [x] (by simp)) c.1.1
   | rcc f x b =>
     cases e;have ne:¬ f=x:=c.1.2.1;simp only [Zl1,if_neg ne];exact Za0 b (Zl0 (by simp;exact ⟨c.1,c.2⟩) [x,f] (by simp)) c.1.1
   | _=>cases e
 | iff a b d =>
   cases a with
   | num m =>
     simp only [bec,Option.some.injEq] at e;subst e;split
     . exact c.2.2
     . exact c.2.1
   | _=>cases e
 | op w a b =>
   cases a with
   | num x =>
     cases b with
     | num y=>cases e;exact _root_.Rw.wk_ok w x y
     | _=>cases e
   | _=>cases e
 | _=>cases r
inductive Src(G:List Gc)(y:Nat)(N:List Gc)(c':Gc):Gc->T->T->Prop
 | call {iF iA num:Nat}{tF tA s':T}:(G++N)[num]? = some c'->How G y iF iA tF tA N num s'->Src G y N c' (.call iF iA) (.call tF tA) s'
 | thn {iC iT iE:Nat}{tC tT tE:T}:N=[]->G[iT]? = some c'->Src G y N c' (.iff iC iT iE) (.iff tC tT tE) tT
 | els {iC iT iE:Nat}{tC tT tE:T}:N=[]->G[iE]? = some c'->Src G y N c' (.iff iC iT iE) (.iff tC tT tE) tE
 | num {c0:Gc}{s:T}{z:Int}:N=[]->c'=.num z->Src G y N c' c0 s (.num z)
structure Wr(c0:Gc)(s:T)(G:List Gc)(k y:Nat)(h:Hd)(s':T)(N:List Gc)(c':Gc)(h':Hd):Prop where
 c:h'[k]? = some (cl (G++N))
 m:Fm [k] h h'
 f:Fit c' s'
 p:Paired (Rd (wo (gl (G++N)) y)) c'.ps s'.parts
 n:N.length<=ccR s
 x:Src G y N c' c0 s s'
theorem pr2{R:Nat->T->Prop}(p:Paired R [a,b] [s,t]):R a s/\R b t:=by
 cases p with|cons x p=>cases p with|cons y p=>exact ⟨x,y⟩
theorem pr3{R:Nat->T->Prop}(p:Paired R [a,b,c] [s,t,u]):R a s/\R b t/\R c u:=by
 cases p with|cons x p=>cases p with|cons y p=>cases p with|cons z p=>exact ⟨x,y,z⟩
theorem ZjR{G:List Gc}{k:Nat}(hk:h[k]? = some (cl G)):h[k]? = some (cl (G++[])):=by rw [List.append_nil];exact hk
theorem Zco{G:List Gc}{i:Nat}{c:Gc}{t:T}(e:G[i]? = some c)(v:c.isV=true)(r:Rd (gl G) i t):Tm.isV t=true/\Fit c t:=by
 obtain ⟨c',e',f,_⟩:=r.at;rw [e] at e';cases e';exact ⟨by rw [<- (ZbC f).2.2.1];exact v,f⟩
theorem Zj2 (H:Gs P) (n:Nat) {G:List Gc}{k y:Nat}{c:Gc}{s:T} (hk:h[k]? = some (cl G)) (rd:Rd (gl G) y s) (e:G[y]? = some c) (f:Fit c s) (pp:Paired (Rd (gl G)) c.ps s.parts) (nv:Tm.isV s=false) (cs:Gn.Cl [] s) (hz:s.size<=20000) (wv:∀ m∈c.pf,∃ c,G[m]? = some c/\c.isV=true) (lG:G.length<=60000):(run P (n+7) (O "written") [.ref k,c.d] h=.ok .non h/\bec s=none)\/∃ s' N c' h',run P (n+7) (O "written") [.ref k,c.d] h=.ok c'.d h'/\bec s=some s'/\Gn.Cl [] s'/\Wr c s G k y h s' N c' h':=by
 rw [Zl H.written rfl];have hy:y<G.length:=(Ob.mp e).1;cases s with
 | num z=>cases nv
 | fn x t=>cases nv
 | rcc g x t=>cases nv
 | name x=>cases cs
 | call tF tA =>
   cases c<;>simp only [Fit] at f;rename_i iF iA;obtain ⟨rF,rA⟩:=pr2 pp;obtain ⟨c1,e1,v1⟩:=wv iF (by simp [Gc.pf,Gc.ps]);obtain ⟨c2,e2,v2⟩:=wv iA (by simp [Gc.pf,Gc.ps]);obtain ⟨vF,_⟩:=Zco e1 v1 rF;obtain ⟨vA,_⟩:=Zco e2 v2 rA;have zz:=zc tF tA;have rF':=Rd.wo rd rF (by lia);have rA':=Rd.wo rd rA (by lia);rcases Zk2 H n hk hy rF' rA' vF cs.1 (by lia) lG with ⟨b,q⟩|⟨s',N,num,c',h',b,q,k',m',e',r',n',hw⟩
   . left;refine ⟨?_,b⟩;have w:xs2 (P.tbl (n+6)) Zad [some (.ref k),some (Gc.call iF iA).d] h=.ok (.rt .non,_) h:=Zc ((ZZ (ZV (ZcZ (x:=O "call") rfl rfl) (decide_eq_true rfl))).trans (Zc (Zs (Zu q rfl))));exact congrArg Zh w
   . right;obtain ⟨c2,e2,f2,p2⟩:=r'.inv;cases (ZD _ _ e2).symm.trans e';refine ⟨s',N,c',h',?_,b,ZiG (.call tF tA) s' ⟨vF,vA⟩ cs b,k',m',f2,p2,n',.call e' hw⟩;have w:xs2 (P.tbl (n+6)) Zad [some (.ref k),some (Gc.call iF iA).d] h=.ok (.rt c'.d,_) h':=Zc ((ZZ (ZV (ZcZ (x:=O "call") rfl rfl) (decide_eq_true rfl))).trans (Zc (Zs (Zu q rfl))));exact congrArg Zh w
 | iff tC tT tE =>
   cases c<;>simp only [Fit] at f;rename_i iC iT iE;obtain ⟨rC,rT,rE⟩:=pr3 pp;obtain ⟨c1,e1,v1⟩:=wv iC (by simp [Gc.pf]);obtain ⟨vC,fC⟩:=Zco e1 v1 rC;have zz:=zi tC tT tE;have qc:=Zk0 H (n+4) c1 v1 (nI iT) (nI iE) (h:=h);have x0:xs1 (P.tbl (n+6)) Zb6 [some (.ref k),some (Gc.iff iC iT iE).d] h=.ok (.nx,_) h:=(Zab (ZV (ZcZ (x:=O "if") rfl rfl) (by simp))).trans rfl;have up:∀ {d:D},run P (n+6) (O "gone_on") [.ref k,(Gc.iff iC iT iE).d] h=.ok d h->Zh (xs2 (P.tbl (n+6)) Zad [some (.ref k),some (Gc.iff iC iT iE).d] h)=.ok d h:=fun {d} q=>by
     have w:xs2 (P.tbl (n+6)) Zad [some (.ref k),some (Gc.iff iC iT iE).d] h=.ok (.rt d,_) h:=(Za x0).trans (Zc ((ZZ (ZV (ZcZ (x:=O "if") rfl rfl) (decide_eq_true rfl))).trans (Zc (Zs (Zu q rfl)))));exact congrArg Zh w
   have q1:∀ {d:D},run P (n+5) (O "chosen") [c1.d,nI iT,nI iE] h=.ok d h->xs1 (P.tbl (n+5)) Zd5 [some (.ref k),some (Gc.iff iC iT iE).d,none] h=.ok (.nx,[some (.ref k),some (Gc.iff iC iT iE).d,some d]) h:=fun q=>Zj (i:=2) (Zu q (Zb (ZaZ (k:=k) (n:=iC) rfl rfl hk e1) rfl));have no:run P (n+5) (O "chosen") [c1.d,nI iT,nI iE] h=.ok .non h->run P (n+6) (O "gone_on") [.ref k,(Gc.iff iC iT iE).d] h=.ok .non h:=fun q=>by
     rw [Zl H.gone_on rfl];have w:xs2 (P.tbl (n+5)) ZdQ [some (.ref k),some (Gc.iff iC iT iE).d,none] h=.ok (.rt .non,_) h:=(Za (q1 q)).trans (Zc ((ZZ (Zsv rfl)).trans (Zc (Zs rfl))));exact congrArg Zh w
   have yes:∀ {i:Nat}{c':Gc},run P (n+5) (O "chosen") [c1.d,nI iT,nI iE] h=.ok (nI i) h->G[i]? = some c'->run P (n+6) (O "gone_on") [.ref k,(Gc.iff iC iT iE).d] h=.ok c'.d h:=fun {i c'} q e'=>by
     rw [Zl H.gone_on rfl];have w:xs2 (P.tbl (n+5)) ZdQ [some (.ref k),some (Gc.iff iC iT iE).d,none] h=.ok (.rt c'.d,_) h:=(Za (q1 q)).trans ((Za ((Zab (Zsw (x:=nI i) rfl (by simp [nI]))).trans rfl)).trans (Zc (Zs (ZaZ rfl rfl hk e'))));exact congrArg Zh w
   cases c1 with
   | num z =>
     right;cases tC<;>simp only [Fit] at fC;subst fC;have go:∀ {i:Nat}{t:T},run P (n+5) (O "chosen") [(Gc.num z).d,nI iT,nI iE] h=.ok (nI i) h->Rd (gl G) i t->t.size<(T.iff (.num z) tT tE).size->bec (.iff (.num z) tT tE)=some t->(∀ c',G[i]? = some c'->Src G y [] c' (.iff iC iT iE) (.iff (.num z) tT tE) t)->∃ s' N c' h',Zh (xs2 (P.tbl (n+6)) Zad [some (.ref k),some (Gc.iff iC iT iE).d] h)=.ok c'.d h'/\bec (.iff (.num z) tT tE)=some s'/\Gn.Cl [] s'/\Wr (.iff iC iT iE) (.iff (.num z) tT tE) G k y h s' N c' h':=fun {i t} q r lt b sr=>by
       have r':=Rd.wo rd r lt;obtain ⟨c',e',f',p'⟩:=r'.inv;exact ⟨t,[],c',h,up (yes q (ZD _ _ e')),b,ZiG (.iff (.num z) tT tE) t rfl cs b,ZjR hk,.refl,f',by rw [List.append_nil];exact p',by simp,sr c' (ZD _ _ e')⟩
     by_cases z0:z=0
     . refine go (i:=iE) (t:=tE) (qc.trans ?_) rE (by lia) ?_ (fun _ e=>.els rfl e)
       . simp [z0]
       . simp [bec,z0]
     . refine go (i:=iT) (t:=tT) (qc.trans ?_) rT (by have:=ZP tE;lia) ?_ (fun _ e=>.thn rfl e)
       . simp [z0]
       . simp [bec,z0]
   | fn x b=>exact .inl ⟨up (no qc),by cases tC<;>simp only [Fit] at fC;rfl⟩
   | rcc g x b=>exact .inl ⟨up (no qc),by cases tC<;>simp only [Fit] at fC;rfl⟩
   | _=>cases v1
 | op w tA tB =>
   cases c<;>simp only [Fit] at f;rename_i w' iA iB;subst f;obtain ⟨rA,rB⟩:=pr2 pp;obtain ⟨c1,e1,v1⟩:=wv iA (by simp [Gc.pf,Gc.ps]);obtain ⟨c2,e2,v2⟩:=wv iB (by simp [Gc.pf,Gc.ps]);obtain ⟨vA,fA⟩:=Zco e1 v1 rA;obtain ⟨vB,fB⟩:=Zco e2 v2 rB;have ix:Zcs P.GD (Gc.op w' iA iB).d (.int 0) h=.ok (.str w'.s) h:=rfl;have x0:xs1 (P.tbl (n+6)) Zb6 [some (.ref k),some (Gc.op w' iA iB).d] h=.ok (.nx,_) h:=(Zab (ZV (ZcZ ((ZX rfl rfl).trans ix) rfl) (by cases w'<;>simp [Wd.s]))).trans rfl;have x1:xs1 (P.tbl (n+6)) Zd3 [some (.ref k),some (Gc.op w' iA iB).d] h=.ok (.nx,_) h:=(Zab (ZV (ZcZ ((ZX rfl rfl).trans ix) rfl) (by cases w'<;>simp [Wd.s]))).trans rfl;have up:∀ {d:D},run P (n+6) (O "worked") [.str w'.s,c1.d,c2.d] h=.ok d h->Zh (xs2 (P.tbl (n+6)) Zad [some (.ref k),some (Gc.op w' iA iB).d] h)=.ok d h:=fun {d} q=>by
     have w:xs2 (P.tbl (n+6)) Zad [some (.ref k),some (Gc.op w' iA iB).d] h=.ok (.rt d,_) h:=(Za x0).trans ((Za x1).trans (Zc (Zs (Zu q (Zb ((ZX rfl rfl).trans ix) (Zb (ZaZ (k:=k) (n:=iA) rfl rfl hk e1) (Zb (ZaZ (k:=k) (n:=iB) rfl rfl hk e2) rfl)))))));exact congrArg Zh w
   by_cases bo:∃ x y,c1=.num x/\c2=.num y
   . obtain ⟨x,z,rfl,rfl⟩:=bo;cases tA<;>simp only [Fit] at fA;cases tB<;>simp only [Fit] at fB;subst fA;subst fB;right;refine ⟨.num (_root_.Rw.wk w' x z),[],.num (_root_.Rw.wk w' x z),h,up (_root_.Rw.worked_nn H.worked H.gb (n+5) w' cs.1 cs.2),rfl,ZiG (.op w' (.num x) (.num z)) _ ⟨rfl,rfl⟩ cs rfl,ZjR hk,.refl,rfl,.nil,by simp,.num rfl rfl⟩
   . refine .inl ⟨up (ZgT H (n+5) w' c1 c2 v1 v2 bo),?_⟩;cases tA with
     | num x =>
       cases tB with
       | num z =>
         cases c1<;>simp only [Fit] at fA;cases c2<;>simp only [Fit] at fB;exact absurd ⟨_,_,rfl,rfl⟩ bo
       | _=>rfl
     | _=>rfl
end Grf
end
section
namespace Grf
open PySem L2 IV Tm
variable {P:Pg}{h:Hd}
noncomputable def st(k r:Nat):D:=.tup [.ref k,nI r]
theorem Zsh{h:Hd}(e:h[i]? = some (.lst xs)):Za9 GD .lst [.ref i] h=.ok (.ref h.length) (h++[.lst xs]):=by
 show Zmq [.ref i] h=_;unfold Zmq seqOf lstOf;simp [e]
noncomputable def loud:D->D:=fun s=>.tup [.str (O "loud"),s]
theorem ZpQ{v w:Str}:IV.ZcV false (.tup [.str v]) (.tup [.str w]) h=.ok (.bl (decide (v=w))) h:=by
 show (if min (PyData.tuple [.str v]).depth (PyData.tuple [.str w]).depth<=1100 then R.ok (D.bl (if false then !PyData.eqv (.tuple [.str v]) (.tuple [.str w]) else PyData.eqv (.tuple [.str v]) (.tuple [.str w]))) h else .bad)=_;rw [if_pos (by simp [PyData.depth,PyData.depthAll])];simp [PyData.eqv,PyData.eqvAll];by_cases e:v=w
 . subst e;simp
 . rw [decide_eq_false e,beq_eq_false_iff_ne.mpr e]
end Grf
end
section
namespace Grf
open PySem L2 IV Tm
namespace Q
noncomputable def tp(y:Nat):Q->Q
 | .num _ n=>.num y n
 | .name _ x=>.name y x
 | .fn _ x e=>.fn y x e
 | .rcc _ f x e=>.rcc y f x e
 | .call _ a b=>.call y a b
 | .iff _ a b c=>.iff y a b c
 | .op _ w a b=>.op y w a b
theorem ZkH(q:Q):(q.tp y).no=y:=by cases q<;>rfl
theorem ZkI(q:Q):(q.tp y).er=q.er:=by cases q<;>rfl
theorem Zeg(q:Q):(q.tp y).deep=q.deep:=by cases q<;>rfl
theorem ZhT{q:Q}(h:q.Uns):(q.tp y).Uns:=by cases q<;>exact h
theorem Zf7(q:Q):∀ n∈(q.tp y).opn,n=y\/n∈q.opn:=by
 intro n hn;cases q with
 | num i z=>cases hn
 | fn i x e=>cases hn
 | rcc i f x e=>cases hn
 | name i x=>exact .inl (Ox.mp hn)
 | call i a b=>exact (O2.mp hn).imp id fun z=>.tail _ z
 | iff i a b c=>exact (O2.mp hn).imp id fun z=>.tail _ z
 | op i w a b=>exact (O2.mp hn).imp id fun z=>.tail _ z
theorem ZhU{q:Q}(h:q.One)(ho:y ∉ q.opn)(hd:y ∉ q.deep):(q.tp y).One:=by
 refine ⟨?_,fun n hn=>?_⟩
 . cases q with
   | num i z=>exact .nil
   | fn i x e=>exact .nil
   | rcc i f x e=>exact .nil
   | name i x=>exact List.nodup_cons.mpr ⟨fun z=>(by cases z),.nil⟩
   | call i a b=>exact List.nodup_cons.mpr ⟨fun z=>ho (.tail _ z),(List.nodup_cons.mp h.1).2⟩
   | iff i a b c=>exact List.nodup_cons.mpr ⟨fun z=>ho (.tail _ z),(List.nodup_cons.mp h.1).2⟩
   | op i w a b=>exact List.nodup_cons.mpr ⟨fun z=>ho (.tail _ z),(List.nodup_cons.mp h.1).2⟩
 . rw [Zeg];rcases Zf7 q n hn with rfl|z
   . exact hd
   . exact h.2 n z
theorem ZsB{g:Nat->Option Gc}:∀ {q:Q},q.ok g->∀ n∈q.all,∃ c,g n=some c:=by
 intro q;induction q with
 | num i z=>intro h n hn;rw [Ox.mp hn];exact ⟨_,h⟩
 | name i z=>intro h n hn;rw [Ox.mp hn];exact ⟨_,h⟩
 | fn i x e ih=>intro h n hn;exact (O2.mp hn).elim (fun z=>⟨_,z ▸ h.1⟩) (ih h.2 n)
 | rcc i f x e ih=>intro h n hn;exact (O2.mp hn).elim (fun z=>⟨_,z ▸ h.1⟩) (ih h.2 n)
 | call i a b ia ib=>intro h n hn;exact (O2.mp hn).elim (fun z=>⟨_,z ▸ h.1⟩) fun z=>(OD.mp z).elim (ia h.2.1 n) (ib h.2.2 n)
 | op i w a b ia ib=>intro h n hn;exact (O2.mp hn).elim (fun z=>⟨_,z ▸ h.1⟩) fun z=>(OD.mp z).elim (ia h.2.1 n) (ib h.2.2 n)
 | iff i a b c ia ib ic=>intro h n hn;exact (O2.mp hn).elim (fun z=>⟨_,z ▸ h.1⟩) fun z=>(OD.mp z).elim (ia h.2.1 n) fun z=>(OD.mp z).elim (ib h.2.2.1 n) (ic h.2.2.2 n)
theorem Zr7{g:Nat->Option Gc}{q:Q}(h:q.ok (wo g y)):y ∉ q.all:=fun z=>by
 obtain ⟨c,e⟩:=ZsB h y z;simp [wo] at e
theorem ZkG{g g':Nat->Option Gc}{c:Gc}(ne:∀ i,i≠y->g' i=g i){q:Q}(h:q.ok (wo g y))(e:g q.no=some c)(ey:g' y=some c):(q.tp y).ok g':=by
 have k:∀ {r:Q},r.ok (wo g y)->r.ok g':=fun {r} hr=>mono (fun i _ c e=>by
   unfold wo at e;split at e
   . cases e
   . rename_i z;rw [ne i z];exact e) hr
 have t:∀ {c1},wo g y q.no=some c1->g' y=some c1:=fun {c1} z=>by rw [ey,<- e,ZD _ _ z]
 cases q with
 | num i z=>exact t h
 | name i x=>exact t h
 | fn i x e=>exact ⟨t h.1,k h.2⟩
 | rcc i f x e=>exact ⟨t h.1,k h.2⟩
 | call i a b=>exact ⟨t h.1,k h.2.1,k h.2.2⟩
 | iff i a b c=>exact ⟨t h.1,k h.2.1,k h.2.2.1,k h.2.2.2⟩
 | op i w a b=>exact ⟨t h.1,k h.2.1,k h.2.2⟩
theorem ZoC{q:Q}(h:q.isV=true):q.opn=[]:=by cases q<;>first|rfl|cases h
end Q
theorem ZsE{G N:List Gc}{y num:Nat}{s':T}{qF qA:Q}(hy:y<G.length)(oF:qF.ok (wo (gl G) y))(oA:qA.ok (wo (gl G) y))(vF:qF.isV=true)(vA:qA.isV=true)(uF:qF.Uns)(uA:qA.Uns)(hw:How G y qF.no qA.no qF.er qA.er N num s'):∃ q':Q,q'.ok (wo (gl (G++N)) y)/\q'.no=num/\q'.er=s'/\q'.One/\q'.Uns/\(∀ n∈q'.opn,G.length<=n)/\∀ n∈q'.deep,G.length<=n\/n∈qF.all\/n∈qA.all:=by
 obtain ⟨md,nm,M,kv,K,b,t,c,e,eb,ev',rb,es,pu,sd,cond⟩:=hw;have dom:∀ {q:Q},q.ok (wo (gl G) y)->∀ n∈q.all,n<G.length:=fun {q} h n hn=>by
   obtain ⟨c,e⟩:=Q.ZsB h n hn;exact (Ob.mp (ZD _ _ e)).1
 have mq:MQ (wo (gl G) y) (fun n=>n∈qF.all\/n∈qA.all) md M nm:=fun x hx=>by
   rcases cond x hx with ⟨a1,a2⟩|⟨a1,a2⟩
   . exact ⟨qF,oF,vF,a1,a2,fun n hn=>.inl hn,uF⟩
   . exact ⟨qA,oA,vA,a1,a2,fun n hn=>.inr hn,uA⟩
 have body:∀ (q:Q),q.ok (wo (gl G) y)->q.no=b->q.One->q.Uns->(∀ n∈q.all,n∈qF.all)->∃ q':Q,q'.ok (wo (gl (G++N)) y)/\q'.no=num/\q'.er=s'/\q'.One/\q'.Uns/\(∀ n∈q'.opn,G.length<=n)/\∀ n∈q'.deep,G.length<=n\/n∈qF.all\/n∈qA.all:=fun q ok no one un sub'=>by
   have sm:∀ n,n∈q.all\/(n∈qF.all\/n∈qA.all)->n<G.length:=fun n hn=>by
     rcases hn with hn|hn|hn
     . exact dom ok n hn
     . exact dom oF n hn
     . exact dom oA n hn
   have te:t=q.er:=by
     have:=Q.rd ok;rw [no] at this;exact rb.one this
   obtain ⟨q',c'⟩:=cpy hy mq pu q nm num ok un sm (by rw [no];exact sd) (fun _ h=>h);obtain ⟨l,_,p⟩:=c'.o;refine ⟨q',c'.ok,c'.no,by rw [c'.er,es,te],c'.one one sm,c'.u,fun n hn=>?_,fun n hn=>?_⟩
   . obtain ⟨i,_,j,_,z⟩:=Paired.mem_r p n hn
     lia
   . rcases c'.d n hn with ⟨i,ns',⟨j,_,z⟩,_⟩|z|z
     . exact .inl (by lia)
     . exact .inr (.inl (sub' n z))
     . exact .inr z
 cases qF with
 | num i z =>
   have:=Option.some.inj (e.symm.trans (ZD _ _ oF));subst this;cases eb
 | fn i x q =>
   have:=Option.some.inj (e.symm.trans (ZD _ _ oF.1));subst this;exact body q oF.2 (List.cons.inj eb).1 uF.1 uF.2 fun n hn=>.tail _ hn
 | rcc i f x q =>
   have:=Option.some.inj (e.symm.trans (ZD _ _ oF.1));subst this;exact body q oF.2 (List.cons.inj eb).1 uF.1 uF.2 fun n hn=>.tail _ hn
 | _=>cases vF
theorem Zrv{G N:List Gc}{c c':Gc}{y:Nat}{s':T}{r:Q}(hr:r.ok (gl G))(no:r.no=y)(nv:r.isV=false)(one:r.One)(un:r.Uns)(e:G[y]? = some c)(wv:∀ m∈c.pf,∃ c,G[m]? = some c/\c.isV=true)(sr:Src G y N c' c r.er s'):∃ u:Q,u.ok (gl ((G++N).set y c'))/\u.no=y/\u.er=s'/\Q.Fits (gl G) G.length r u:=by
 have hy:y<G.length:=(Ob.mp e).1;have hy':y<(G++N).length:=by simp;lia
 have ne:∀ i,i≠y->gl ((G++N).set y c') i=gl (G++N) i:=fun i hi=>Oc hi.symm;have ey:gl ((G++N).set y c') y=some c':=by show ((G++N).set y c')[y]? = _;rw [Ol hy']
 have yo:y∈r.opn:=by subst no;cases r<;>first|exact .head _|cases nv
 have ny:∃ c,gl G y=some c/\c.isV=false:=Q.ZaW hr y yo;have far:∀ {q:Q},q.ok (gl G)->y ∉ q.opn->y ∉ q.deep->q.ok (wo (gl G) y):=fun h a b=>Q.ZcW (fun i hi=>ZiT hi) ny h a b;have vis:∀ {q:Q},q.ok (gl G)->(∃ c,G[q.no]? = some c/\c.isV=true)->q.isV=true:=fun {q} h ⟨c1,e1,v1⟩=>by
   have:=(Zco e1 v1 (Q.rd h)).1
   rwa [Q.Zaz] at this
 generalize hre:r.er=s at sr;cases sr with
 | num hN hc =>
   rename_i z;subst hc;exact ⟨.num y z,ey,rfl,rfl,⟨⟨.nil,fun n hn=>by cases hn⟩,trivial,fun n hn=>(by cases hn),fun n hn=>(by cases hn)⟩⟩
 | @call iF iA num tF tA s' e' hw =>
   cases r<;>simp only [Q.er] at hre<;>first|cases hre|skip
   rename_i i a b;simp only [Q.no] at no;subst no;have hc:=Option.some.inj (e.symm.trans hr.1);cases hc;have nd:=one.1;simp only [Q.opn,List.nodup_cons,List.nodup_append,OD,not_or] at nd;have dd:=one.2 i yo;simp only [Q.deep,OD,not_or] at dd;have va:=vis hr.2.1 (wv _ (by simp [Gc.pf,Gc.ps]));have vb:=vis hr.2.2 (wv _ (by simp [Gc.pf,Gc.ps]));obtain ⟨q',o',n',r',one',un',op',de'⟩:=ZsE hy (far hr.2.1 nd.1.1 dd.1) (far hr.2.2 nd.1.2 dd.2) va vb un.1 un.2 hw;have hn:=Q.Zr7 o';refine ⟨q'.tp i,Q.ZkG ne o' (by rw [n'];exact e') ey,Q.ZkH q',by rw [Q.ZkI,r'],Q.ZhU one' (fun z=>hn (Q.Zk _ z)) (fun z=>hn (Q.Zi _ z)),Q.ZhT un',fun n hn'=>?_,fun n hn'=>?_⟩
   . rcases Q.Zf7 q' n hn' with rfl|z
     . exact .inl yo
     . exact .inr (op' n z)
   . rw [Q.Zeg] at hn';simp only [Q.deep,OD];rcases de' n hn' with z|z|z
     . exact .inr (.inl z)
     . rcases Q.three hr.2.1 n z with z|z|z
       . rw [Q.ZoC va] at z;cases z
       . exact .inl (.inl z)
       . exact .inr (.inr z)
     . rcases Q.three hr.2.2 n z with z|z|z
       . rw [Q.ZoC vb] at z;cases z
       . exact .inl (.inr z)
       . exact .inr (.inr z)
 | @thn iC iT iE tC tT tE hN e' =>
   subst hN;cases r<;>simp only [Q.er] at hre<;>first|cases hre|skip
   rename_i i a b d;simp only [Q.no] at no;subst no;have hc:=Option.some.inj (e.symm.trans hr.1);cases hc;have nd:=one.1;simp only [Q.opn,List.nodup_cons,List.nodup_append,OD,not_or] at nd;have dd:=one.2 i yo;simp only [Q.deep,OD,not_or] at dd;have o':=far hr.2.2.1 nd.1.2.1 dd.2.1;have o2:b.One:=⟨nd.2.2.1.1,fun n hn hd=>one.2 n (by simp [Q.opn,hn]) (by simp [Q.deep,hd])⟩
   refine ⟨b.tp i,Q.ZkG (g:=gl (G++[])) ne (by rw [List.append_nil];exact o') (by rw [List.append_nil];exact e') ey,Q.ZkH b,Q.ZkI b,Q.ZhU o2 nd.1.2.1 dd.2.1,Q.ZhT un.2.1,fun n hn'=>?_,fun n hn'=>?_⟩
   . rcases Q.Zf7 b n hn' with rfl|z
     . exact .inl yo
     . exact .inl (by simp [Q.opn,z])
   . rw [Q.Zeg] at hn';exact .inl (by simp [Q.deep,hn'])
 | @els iC iT iE tC tT tE hN e' =>
   subst hN;cases r<;>simp only [Q.er] at hre<;>first|cases hre|skip
   rename_i i a b d;simp only [Q.no] at no;subst no;have hc:=Option.some.inj (e.symm.trans hr.1);cases hc;have nd:=one.1;simp only [Q.opn,List.nodup_cons,List.nodup_append,OD,not_or] at nd;have dd:=one.2 i yo;simp only [Q.deep,OD,not_or] at dd;have o':=far hr.2.2.2 nd.1.2.2 dd.2.2;have o2:d.One:=⟨nd.2.2.1.2.1,fun n hn hd=>one.2 n (by simp [Q.opn,hn]) (by simp [Q.deep,hd])⟩
   refine ⟨d.tp i,Q.ZkG (g:=gl (G++[])) ne (by rw [List.append_nil];exact o') (by rw [List.append_nil];exact e') ey,Q.ZkH d,Q.ZkI d,Q.ZhU o2 nd.1.2.2 dd.2.2,Q.ZhT un.2.2,fun n hn'=>?_,fun n hn'=>?_⟩
   . rcases Q.Zf7 d n hn' with rfl|z
     . exact .inl yo
     . exact .inl (by simp [Q.opn,z])
   . rw [Q.Zeg] at hn';exact .inl (by simp [Q.deep,hn'])
end Grf
end
section
namespace Grf
open PySem L2 IV Tm
variable {P:Pg}{h:Hd}
theorem ZdO{G:List Gc}{q:Q}(o:q.ok (gl G)):∃ c,G[q.no]? = some c/\c.isV=q.isV:=by
 obtain ⟨c,e,f,_⟩:=(Q.rd o).at;exact ⟨c,e,by rw [(ZbC f).2.2.1,Q.Zaz]⟩
theorem ZsH{G:List Gc}{q:Q}{c:Gc}(o:q.ok (gl G))(v:q.isV=false)(ct:Gn.Cl [] q.er)(e:G[q.no]? = some c):(fop G c.pf=none/\q.bt=q)\/∃ p:Q,fop G c.pf=some p.no/\q.bt=p.bt/\p.isV=false/\p.ok (gl G)/\Gn.Cl [] p.er/\p.er.size<q.er.size:=by
 cases q with
 | num i z=>cases v
 | fn i x b=>cases v
 | rcc i f x b=>cases v
 | name i x=>cases ct
 | call i a b =>
   cases Option.some.inj (e.symm.trans o.1);obtain ⟨ca,ea,va⟩:=ZdO o.2.1;obtain ⟨cb,eb,vb⟩:=ZdO o.2.2;have zz:=zc a.er b.er;cases wa:a.isV with
   | false=>exact .inr ⟨a,by simp [Gc.pf,Gc.ps,fop,ea,va,wa],by simp [Q.bt,wa],wa,o.2.1,ct.1,by show a.er.size<(T.call a.er b.er).size;lia⟩
   | true =>
     cases wb:b.isV with
     | false=>exact .inr ⟨b,by simp [Gc.pf,Gc.ps,fop,ea,va,wa,eb,vb,wb],by simp [Q.bt,wa,wb],wb,o.2.2,ct.2,by show b.er.size<(T.call a.er b.er).size;lia⟩
     | true=>exact .inl ⟨by simp [Gc.pf,Gc.ps,fop,ea,va,wa,eb,vb,wb],by simp [Q.bt,wa,wb]⟩
 | op i w a b =>
   cases Option.some.inj (e.symm.trans o.1);obtain ⟨ca,ea,va⟩:=ZdO o.2.1;obtain ⟨cb,eb,vb⟩:=ZdO o.2.2;have zz:=zo w a.er b.er;cases wa:a.isV with
   | false=>exact .inr ⟨a,by simp [Gc.pf,Gc.ps,fop,ea,va,wa],by simp [Q.bt,wa],wa,o.2.1,ct.1,by show a.er.size<(T.op w a.er b.er).size;lia⟩
   | true =>
     cases wb:b.isV with
     | false=>exact .inr ⟨b,by simp [Gc.pf,Gc.ps,fop,ea,va,wa,eb,vb,wb],by simp [Q.bt,wa,wb],wb,o.2.2,ct.2,by show b.er.size<(T.op w a.er b.er).size;lia⟩
     | true=>exact .inl ⟨by simp [Gc.pf,Gc.ps,fop,ea,va,wa,eb,vb,wb],by simp [Q.bt,wa,wb]⟩
 | iff i a b d =>
   cases Option.some.inj (e.symm.trans o.1);obtain ⟨ca,ea,va⟩:=ZdO o.2.1;have zz:=zi a.er b.er d.er;cases wa:a.isV with
   | false=>exact .inr ⟨a,by simp [Gc.pf,fop,ea,va,wa],by simp [Q.bt,wa],wa,o.2.1,ct.1,by show a.er.size<(T.iff a.er b.er d.er).size;lia⟩
   | true=>exact .inl ⟨by simp [Gc.pf,fop,ea,va,wa],by simp [Q.bt,wa]⟩
theorem Zjs(H:Gs P)(n:Nat){G:List Gc}{h:Hd}(hk:h[k]? = some (cl G)):∀ (z:Nat) (q:Q) (c:Gc) (F:Nat),q.er.size<=z->z<F->q.ok (gl G)->q.isV=false->Gn.Cl [] q.er->G[q.no]? = some c->ZO (tst (P.tbl (n+3)) Zbj) (xs2 (P.tbl (n+3)) ZcK) F (vn k r q.no (fop G c.pf)) h=.ok (.nx,vn k r q.bt.no none) h/\q.bt.isV=false/\Gn.Cl [] q.bt.er/\q.bt.er.size<=q.er.size/\∃ d,G[q.bt.no]? = some d/\fop G d.pf=none
 | z,q,c,0,_,hF,_,_,_,_=>by lia
 | z,q,c,F+1,hz,hF,o,v,ct,e=>by
   have tt:tst (P.tbl (n+3)) Zbj (vn k r q.no (fop G c.pf)) h=.ok (!decide (oI (fop G c.pf)=.non)) h:=Zqm rfl;rcases ZsH o v ct e with ⟨f0,b0⟩|⟨p,f0,b0,pv,po,pc,pz⟩
   . rw [f0] at tt ⊢;rw [b0];exact ⟨Zef (ZV tt (by simp [oI])),v,ct,Oq _,c,e,f0⟩
   . rw [f0] at tt ⊢;obtain ⟨c2,e2,f2,p2,hn2⟩:=(Q.rd po).at;obtain ⟨x,a1,a2,a3,a4⟩:=Zjs H n (r:=r) hk (z - 1) p c2 F (by lia) (by lia) po pv pc e2;rw [b0];refine ⟨(Zch (ZV tt (by simp [oI,nI])) ((Za (Zj (i:=2) rfl)).trans ((Za (Zj (i:=3) (Zu (ZrF H n c2 hk hn2) (Zb rfl (Zb (ZaZ (k:=k) (n:=p.no) rfl rfl hk e2) rfl))))).trans rfl))).trans x,a1,a2,by lia,a4⟩
theorem ZmO (H:Gs P) (n:Nat) {G:List Gc}{h:Hd}{q:Q} (hk:h[k]? = some (cl G)) (o:q.ok (gl G)) (v:q.isV=false) (ct:Gn.Cl [] q.er) (hz:q.er.size<=20000):run P (n+4) (O "next_cell") [.ref k,nI q.no] h=.ok (nI q.bt.no) h/\q.bt.isV=false/\Gn.Cl [] q.bt.er/\q.bt.er.size<=q.er.size/\∃ d,G[q.bt.no]? = some d/\fop G d.pf=none:=by
 obtain ⟨c,e,f,p,hn⟩:=(Q.rd o).at;have big:=H.b.big;obtain ⟨x,a⟩:=Zjs H n (r:=q.no) hk q.er.size q c P.L (Oq _) (by lia) o v ct e;refine ⟨?_,a⟩;rw [Zl H.next_cell rfl];have w:xs2 (P.tbl (n+3)) Zd4 [some (.ref k),some (nI q.no),none,none] h=.ok (.rt (nI q.bt.no),vn k q.no q.bt.no none) h:=(Za (Zj (i:=2) rfl)).trans ((Za (Zj (i:=3) (Zu (ZrF H n c hk hn) (Zb rfl (Zb (ZaZ (k:=k) (n:=q.no) rfl rfl hk e) rfl))))).trans ((Za (s:=ZcS) (Zee.trans x)).trans (Zc (Zs rfl))));exact congrArg Zh w
structure Gq(G:List Gc)(q:Q):Prop where
 ok:q.ok (gl G)
 one:q.One
 uns:q.Uns
 cl:Gn.Cl [] q.er
theorem Zi9 (H:Gs P) (n:Nat) {G:List Gc}{sk:Nat}{q:Q} (hk:h[sk]? = some (cl G)) (gq:Gq G q) (hz:q.er.size<=20000) (lG:G.length<=60000):(Tm.isV q.er=true/\run P (n+8) (O "graph_step") [st sk q.no] h=.ok (.tup [.str (O "value")]) h)\/(Tm.isV q.er=false/\next q.er=none/\∃ h',run P (n+8) (O "graph_step") [st sk q.no] h=.ok (.tup [.str (O "stuck")]) h'/\Fm [] h h')\/(Tm.isV q.er=false/\∃ k h' G' q',run P (n+8) (O "graph_step") [st sk q.no] h=.ok (loud (st k q.no)) h'/\Fm [] h h'/\h'[k]? = some (cl G')/\h.length<=k/\next q.er=some q'.er/\q'.no=q.no/\Gq G' q'/\G.length<=G'.length/\G'.length<=G.length+ccR (bot q.er)):=by
 rw [Zl H.graph_step rfl];obtain ⟨c0,e0,v0⟩:=ZdO gq.ok;have t0:tst (P.tbl (n+7)) Zb5 [some (st sk q.no),none,none,none] h=.ok c0.isV h:=Zcu (Zu (Zmf H (n+6) c0) (Zb (ZaZ (k:=sk) (n:=q.no) rfl rfl hk e0) rfl));rw [v0] at t0;cases v:q.isV with
 | true =>
   rw [v] at t0;refine .inl ⟨by rw [Q.Zaz];exact v,?_⟩;have w:xs2 (P.tbl (n+7)) ZaT [some (st sk q.no),none,none,none] h=.ok (.rt (.tup [.str (O "value")]),_) h:=Zc ((ZZ t0).trans (Zc (Zs (ZaA rfl (by simp)))));exact congrArg Zh w
 | false =>
   rw [v] at t0;right;have nv:Tm.isV q.er=false:=by rw [Q.Zaz];exact v
   have x1:xs1 (P.tbl (n+7)) Zce [some (st sk q.no),none,none,none] h=.ok (.nx,[some (st sk q.no),none,none,none]) h:=(Zab t0).trans rfl;have x2:xs1 (P.tbl (n+7)) Zcd [some (st sk q.no),none,none,none] h=.ok (.nx,[some (st sk q.no),some (.ref h.length),none,none]) (h++[cl G]):=Zj (i:=1) (Zfb (Zb (x:=.ref sk) rfl rfl) (Zsh hk));have k1:(h++[cl G])[h.length]? = some (cl G):=Zcg;have f1:Fm [] h (h++[cl G]):=.app;generalize h++[cl G]=h1 at *;obtain ⟨e3,bv,bc,bz,c,ec,fn0⟩:=ZmO H (n+3) k1 gq.ok v gq.cl hz;have bo:=Q.ZV q gq.ok;have rb:=Q.rd bo;obtain ⟨c',ec',f,pp,hn⟩:=rb.at;rw [ec] at ec';cases ec';have wv:∀ m∈c.pf,∃ c,G[m]? = some c/\c.isV=true:=Zhh fn0 fun m hm=>hn m (ZrS m hm);have x3:xs1 (P.tbl (n+7)) Zcc [some (st sk q.no),some (.ref h.length),none,none] h1=.ok (.nx,[some (st sk q.no),some (.ref h.length),some (nI q.bt.no),none]) h1:=Zj (i:=2) (Zu e3 rfl);have q4:∀ {d:D}{h2:Hd},run P (n+7) (O "written") [.ref h.length,c.d] h1=.ok d h2->xs1 (P.tbl (n+7)) Zcb [some (st sk q.no),some (.ref h.length),some (nI q.bt.no),none] h1=.ok (.nx,[some (st sk q.no),some (.ref h.length),some (nI q.bt.no),some d]) h2:=fun z=>Zj (i:=3) (Zu z (Zb rfl (Zb (ZaZ (k:=h.length) (n:=q.bt.no) rfl rfl k1 ec) rfl)));have bv':Tm.isV q.bt.er=false:=by rw [Q.Zaz];exact bv
   have nd:=(Q.ZbS q).nodup_iff.mp gq.one.1;have one':q.bt.One:=⟨(List.nodup_append.mp nd).2.1,fun m hm hd=>gq.one.2 m ((Q.ZbS q).mem_iff.mpr (Ov _ hm)) ((Q.Zb4 q).mem_iff.mpr (Ov _ hd))⟩
   have nxt:next q.er=(bec q.bt.er).map (Za8 (pth q.er)):=by rw [Q.Zfe];rfl
   rcases Zj2 H n k1 rb ec f pp bv' bc (OE bz hz) wv lG with ⟨z,zb⟩|⟨s',N,c',h2,z,zb,cs,w⟩
   . left;refine ⟨nv,by rw [nxt,zb];rfl,h1,?_,f1⟩;have w:xs2 (P.tbl (n+7)) ZaT [some (st sk q.no),none,none,none] h=.ok (.rt (.tup [.str (O "stuck")]),_) h1:=(Za x1).trans ((Za x2).trans ((Za x3).trans ((Za (q4 z)).trans (Zc ((ZZ (Zsv rfl)).trans (Zc (Zs (ZaA rfl (by simp)))))))));exact congrArg Zh w
   . right;obtain ⟨u,uo,un,ue,fits⟩:=Zrv bo rfl bv one' (Q.ZfK q gq.uns) ec wv w.x;have lm:q.bt.no<G.length:=(Ob.mp ec).1;have lm':q.bt.no<(G++N).length:=by simp;lia
     have ne:∀ i,i≠q.bt.no->gl ((G++N).set q.bt.no c') i=gl (G++N) i:=fun i hi=>Oc hi.symm;have oN:q.ok (gl (G++N)):=Q.mono (fun i _ c h=>Zau h) gq.ok;obtain ⟨r1,r2⟩:=Q.ZfR ne (Q.ZaW oN _ (Q.Zfl q v)) uo un q oN v rfl gq.one.1 (gq.one.2 _ (Q.Zfl q v));have one2:=Q.ZpP (g:=gl G) (L:=G.length) (fun m c e=>(Ob.mp e).1) gq.ok gq.one fits;have ez:next q.er=some (Q.rp u q).er:=by rw [nxt,zb,Q.Zfd,ue];rfl
     have clq:Gn.Cl [] (Q.rp u q).er:=by
       rw [Q.Zfd,ue];exact (Zle q.er s' gq.cl cs).1
     have wn:=w.n;rw [Q.Zfe] at wn;refine ⟨nv,h.length,h2.set h.length (cl ((G++N).set q.bt.no c')),_,Q.rp u q,?_,Fm.cut (S_:=[h.length]) ((f1.sub (by simp)).trans (w.m.trans (.set (by simp)))) fun i hi=>.inr (by simp at hi;lia),by rw [Ol (Zw w.c)],Oq _,ez,r2,⟨r1,one2,Q.ZfJ fits.uns q gq.uns,clq⟩,by simp,by simp;lia⟩;have x5:xs1 (P.tbl (n+7)) Zca [some (st sk q.no),some (.ref h.length),some (nI q.bt.no),some c'.d] h2=.ok (.nx,[some (st sk q.no),some (.ref h.length),some (nI q.bt.no),some c'.d]) h2:=(Zab (Zsw (x:=c'.d) rfl (by simp [Gc.d]))).trans rfl;have x6:xs1 (P.tbl (n+7)) Zb9 [some (st sk q.no),some (.ref h.length),some (nI q.bt.no),some c'.d] h2=.ok (.nx,[some (st sk q.no),some (.ref h.length),some (nI q.bt.no),some c'.d]) (h2.set h.length (cl ((G++N).set q.bt.no c'))):=ZoA rfl rfl rfl (Zk7 w.c lm');have ww:xs2 (P.tbl (n+7)) ZaT [some (st sk q.no),none,none,none] h=.ok (.rt (loud (st h.length q.no)),_) (h2.set h.length (cl ((G++N).set q.bt.no c'))):=(Za x1).trans ((Za x2).trans ((Za x3).trans ((Za (q4 z)).trans ((Za x5).trans ((Za x6).trans (Zc (Zs (ZaA (xs:=[.str (O "loud"),st h.length q.no]) (Zb rfl (Zb (ZaA (xs:=[.ref h.length,nI q.no]) rfl (by simp)) rfl)) (by simp)))))))));exact congrArg Zh ww
end Grf
end
section
namespace Grf
open PySem L2 IV Tm
variable {P:Pg}
noncomputable def Zax:Nat->List T->List (Nat×T)
 | _,[]=>[]
 | i,t::ts=>(i,t)::Zax (i+t.size) ts
noncomputable def nJ(p:Nat×T):D:=.int (p.1:Int)
noncomputable def cell(i:Nat)(t:T):D:=.tup (fr t++(Zax (i+1) t.parts).map nJ)
noncomputable def cells:Nat->T->List D
 | i,.num n=>[cell i (.num n)]
 | i,.name x=>[cell i (.name x)]
 | i,.fn x e=>cell i (.fn x e)::cells (i+1) e
 | i,.rcc f x e=>cell i (.rcc f x e)::cells (i+1) e
 | i,.call f a=>cell i (.call f a)::(cells (i+1) f++cells (i+1+f.size) a)
 | i,.iff c t e=>cell i (.iff c t e)::(cells (i+1) c++(cells (i+1+c.size) t++cells (i+1+c.size+t.size) e))
 | i,.op w a b=>cell i (.op w a b)::(cells (i+1) a++cells (i+1+a.size) b)
noncomputable def Zar:Nat->List T->List D
 | _,[]=>[]
 | i,t::ts=>cells i t++Zar (i+t.size) ts
noncomputable def szs(ts:List T):Nat:=(ts.map T.size).sum
theorem Zc8(t:T)(ts:List T):szs (t::ts)=t.size+szs ts:=by simp [szs]
theorem ZgQ(t:T):t.size=1+szs t.parts:=ZJ t
theorem Zd1(i:Nat)(t:T):cells i t=cell i t::Zar (i+1) t.parts:=by cases t<;>simp [cells,Zar,T.parts]
theorem ZeM:∀ (ts:List T) (i:Nat),(Zax i ts).length=ts.length
 | [],_=>rfl
 | t::ts,i=>by simp [Zax,ZeM ts]
theorem ZdN:∀ (m:Nat) (t:T) (i:Nat),t.size<=m->(cells i t).length=t.size
 | 0,t,i,h=>by have:=ZP t;omega
 | m+1,t,i,h=>by
   have L:∀ (ts:List T) (i:Nat),szs ts<=m->(Zar i ts).length=szs ts:=by
     intro ts;induction ts with
     | nil=>intro i _;rfl
     | cons t ts ih =>
       intro i q;rw [Zc8] at q ⊢;rw [Zar,OA,ZdN m t i (by omega),ih _ (by omega)]
   have:=ZgQ t;rw [Zd1,Os,L _ _ (by omega)];omega
theorem Zc1:∀ (ts:List T) (i:Nat),(Zar i ts).length=szs ts
 | [],i=>rfl
 | t::ts,i=>by rw [Zar,OA,ZdN t.size t i (Oq _),Zc1 ts,Zc8]
theorem Zjr:∀ ts:List T,ts.length<=szs ts
 | []=>Oq _
 | t::ts=>by have:=Zjr ts;have:=ZP t;rw [Zc8,Os];omega
theorem Zmv{h0 h:Hd}{fk dk:Nat}{fs ds:List D}(b:B_ h0 h fk dk fs ds)(hf:h0.length<=fk)(es:List D):B_ h0 (h.set fk (.lst es)) fk dk es ds :=
 ⟨by rw [Ol (Zw b.f)],by rw [Oc b.ne.symm];exact b.d,b.ne,b.o1,by simpa using b.ol,fun i hi=>by rw [Oc (by omega)];exact b.old i hi⟩
noncomputable def gb1:Sx:=(.set (.nm 5) (.comp [(O "part"),(O "numbers")] [none,some 3] (.pl (.call (O "parts_of") (.cons (.var 4) .nil))) (.nm 0) none (.meth .pop (.var 1) .nil)))
noncomputable def gb2:Sx:=(.drp (.meth .app (.var 2) (.cons (.bin .Add (.call (O "front_of") (.cons (.var 4) .nil)) (.blt .tup (.cons (.var 5) .nil))) .nil)))
noncomputable def gb3:Sx:=(.drp (.meth .app (.var 3) (.cons (.bin .Sub (.blt .len (.cons (.var 1) .nil)) (.blt .len (.cons (.var 2) .nil))) .nil)))
noncomputable def Zjq:Sxs:=.cons gb1 (.cons gb2 (.cons gb3 .nil))
theorem ZsF:Z3=.forr (.nm 4) (.rev (.var 1)) Zjq:=rfl
theorem Ztr(H:Trs P)(n:Nat){h0 h:Hd}{tk ck nk i:Nat}{tl C N:List D}(t:T)(ht:h0[tk]? = some (.lst tl))(hc:h0.length<=ck)(b:B_ h0 h ck nk C (N++((Zax (i+1) t.parts).map nJ).reverse))(hi:C.length+1+i=tl.length)(hz:tl.length<=1000)(hN:N.length<=1000)(o0 o5:Option D):∃ h' o5',
   xs2 (P.tbl (n+1)) Zjq [o0,some (.ref tk),some (.ref ck),some (.ref nk),some t.d,o5] h=.ok (.nx,[o0,some (.ref tk),some (.ref ck),some (.ref nk),some t.d,o5']) h'/\B_ h0 h' ck nk (C++[cell i t]) (N++[.int (i:Int)]):=by
 have hp:t.parts.length<=3:=by cases t<;>simp [T.parts]
 have hf:(fr t).length<=3:=by cases t<;>simp [fr]
 have ep:=Gn.Zjb H.toTre n t h;have hl:=ZeM t.parts (i+1);obtain ⟨h1,q1,b1⟩:=ZoN (U:=P.tbl (n+1)) (t.parts.map T.d) ((Zax (i+1) t.parts).map nJ) N [] h (by simp [hl]) (by simp [hl];omega) b;have b2:=b1.app (g:=[.lst ((Zax (i+1) t.parts).map nJ)]);have b3:=Zmv b2 hc (C++[cell i t]);have b4:=b3.set (N++[.int (i:Int)]);refine ⟨_,some (.ref h1.length),?_,b4⟩;have x1:xs1 (P.tbl (n+1)) gb1 [o0,some (.ref tk),some (.ref ck),some (.ref nk),some t.d,o5] h=.ok (.nx,[o0,some (.ref tk),some (.ref ck),some (.ref nk),some t.d,some (.ref h1.length)]) (h1++[.lst ((Zax (i+1) t.parts).map nJ)]):=by
   have ei:evi (P.tbl (n+1)) (.pl (.call (O "parts_of") (.cons (.var 4) .nil))) [o0,some (.ref tk),some (.ref ck),some (.ref nk),some t.d,o5] h=.ok ⟨[],t.parts.map T.d⟩ h:=by
     have e1:ev (P.tbl (n+1)) (.call (O "parts_of") (.cons (.var 4) .nil)) [o0,some (.ref tk),some (.ref ck),some (.ref nk),some t.d,o5] h=.ok (.tup (t.parts.map T.d)) h:=ep;rw [Ziy,e1,Zd];rfl
   rw [gb1,ZiR,ZjE,ei,Zd];simp only [Zdr,Op,Oy,Option.bind_none,Option.bind_some];rw [show ([o0,some (.ref tk),some (.ref ck),some (D.ref nk),some t.d,o5][3]?).join=some (.ref nk) from rfl,q1];rfl
 have x2:xs1 (P.tbl (n+1)) gb2 [o0,some (.ref tk),some (.ref ck),some (.ref nk),some t.d,some (.ref h1.length)] (h1++[.lst ((Zax (i+1) t.parts).map nJ)])=.ok (.nx,[o0,some (.ref tk),some (.ref ck),some (.ref nk),some t.d,some (.ref h1.length)]) (List.set (h1++[.lst ((Zax (i+1) t.parts).map nJ)]) ck (.lst (C++[cell i t]))):=by
   have ap:=ZbV (d:=cell i t) b2.f (by rw [sizeLine_eq];omega);have il:=Zbp b2.f;have ef:=ZmQ H n t (h1++[.lst ((Zax (i+1) t.parts).map nJ)]);have ad:∀ h',opB .Add (.tup (fr t)) (.tup ((Zax (i+1) t.parts).map nJ)) h'=.ok (cell i t) h':=fun h'=>Zjk (by rw [sizeLine_eq];simp [hl];omega);have kk:(h1++[DO.lst ((Zax (i+1) t.parts).map nJ)])[h1.length]? = some (.lst ((Zax (i+1) t.parts).map nJ)):=Zcg;generalize h1++[DO.lst ((Zax (i+1) t.parts).map nJ)]=h2 at *;have tu:Za9 P.GD .tup [.ref h1.length] h2=.ok (.tup ((Zax (i+1) t.parts).map nJ)) h2:=by simp only [Za9,Zmm,lstOf,kk];rfl
   generalize (Zax (i+1) t.parts).map nJ=ns at *;simp [gb2,Pg.tbl,il,ef,tu,ad,ap]
 have x3:xs1 (P.tbl (n+1)) gb3 [o0,some (.ref tk),some (.ref ck),some (.ref nk),some t.d,some (.ref h1.length)] (List.set (h1++[.lst ((Zax (i+1) t.parts).map nJ)]) ck (.lst (C++[cell i t])))=.ok (.nx,[o0,some (.ref tk),some (.ref ck),some (.ref nk),some t.d,some (.ref h1.length)]) (List.set (List.set (h1++[.lst ((Zax (i+1) t.parts).map nJ)]) ck (.lst (C++[cell i t]))) nk (.lst (N++[.int (i:Int)]))):=by
   have ap:=ZbV (d:=.int (i:Int)) b3.d (by rw [sizeLine_eq];omega);have il:=Zbp b3.d;have kt:=(b3.old tk (Zw ht)).trans ht;have kc:=b3.f;generalize List.set (h1++[DO.lst ((Zax (i+1) t.parts).map nJ)]) ck (.lst (C++[cell i t]))=h3 at *;have l1:Za9 P.GD .len [.ref tk] h3=.ok (.int (tl.length:Int)) h3:=by simp [Za9,ZhM,seqOf,lstOf,kt]
   have l2:Za9 P.GD .len [.ref ck] h3=.ok (.int ((C.length:Int)+1)) h3:=by simp [Za9,ZhM,seqOf,lstOf,kc]
   have hs:(tl.length:Int) - ((C.length:Int)+1)=(i:Int):=by omega
   simp [gb3,Pg.tbl,il,l1,l2,hs,ap]
 rw [Zjq,Za x1,Za x2,Za x3];rfl
noncomputable def wg(P:Pg)(n tk ck nk:Nat)(tl:List D)(o0:Option D)(rest:List D)(o4 o5:Option D)(h:Hd):R (Fl×Ev):=Z9 [(tk,tl)] (.nm 4) (xs2 (P.tbl (n+1)) Zjq) rest [o0,some (.ref tk),some (.ref ck),some (.ref nk),o4,o5] h
noncomputable def Gt(P:Pg)(n:Nat)(h0:Hd)(tk ck nk:Nat)(tl:List D)(o0:Option D)(xs C0 N0 C1 N1:List D):Prop:=∀ (rest:List D) (h:Hd) (o4 o5:Option D),B_ h0 h ck nk C0 N0->∃ h' o4' o5',wg P n tk ck nk tl o0 (xs++rest) o4 o5 h=wg P n tk ck nk tl o0 rest o4' o5' h'/\B_ h0 h' ck nk C1 N1
section
variable {n:Nat}{h0:Hd}{tk ck nk:Nat}{tl:List D}{o0:Option D}{xs ys C0 C1 C2 N0 N1 N2:List D}
theorem Gt.nil:Gt P n h0 tk ck nk tl o0 [] C0 N0 C0 N0:=fun rest h o2 o3 b=>⟨h,o2,o3,rfl,b⟩
theorem Gt.trans(a:Gt P n h0 tk ck nk tl o0 xs C0 N0 C1 N1)(b:Gt P n h0 tk ck nk tl o0 ys C1 N1 C2 N2):Gt P n h0 tk ck nk tl o0 (xs++ys) C0 N0 C2 N2:=fun rest h o2 o3 q=>by
 obtain ⟨h1,o21,o31,e1,q1⟩:=a (ys++rest) h o2 o3 q;obtain ⟨h2,o22,o32,e2,q2⟩:=b rest h1 o21 o31 q1;exact ⟨h2,o22,o32,by rw [Oz,e1,e2],q2⟩
end
theorem ZlT(H:Trs P){n:Nat}{h0:Hd}{tk ck nk:Nat}{tl:List D}{o0:Option D}(ht:h0[tk]? = some (.lst tl))(hc:h0.length<=ck)(hz:tl.length<=1000):∀ (m:Nat) (t:T) (i:Nat) (C N:List D),t.size<=m->C.length+t.size+i=tl.length->N.length+t.size<=1000 ->
   Gt P n h0 tk ck nk tl o0 (t.places.map T.d).reverse C N (C++(cells i t).reverse) (N++[.int (i:Int)])
 | 0,t,i,C,N,h,_,_=>by have:=ZP t;omega
 | m+1,t,i,C,N,h,hi,hN=>by
   have L:∀ (ts:List T) (i:Nat) (C N:List D),szs ts<=m->C.length+szs ts+i<=tl.length->C.length+szs ts+i=tl.length->N.length+szs ts<=1000 ->
       Gt P n h0 tk ck nk tl o0 ((ts.flatMap T.places).map T.d).reverse C N (C++(Zar i ts).reverse) (N++((Zax i ts).map nJ).reverse):=by
     intro ts;induction ts with
     | nil=>intro i C N _ _ _ _;simpa [Zar,Zax] using Gt.nil
     | cons t ts ih =>
       intro i C N q1 _ q2 q3;rw [Zc8] at q1 q2 q3;have a:=ih (i+t.size) C N (by omega) (by omega) (by omega) (by omega);have lt:=Zjr ts;have b:=ZlT H (n:=n) (nk:=nk) (o0:=o0) ht hc hz m t i (C++(Zar (i+t.size) ts).reverse) (N++((Zax (i+t.size) ts).map nJ).reverse) (by omega) (by simp [Zc1];omega) (by simp [ZeM];omega);have c:=a.trans b;simpa [Zar,Zax,nJ] using c
   have e:=ZgQ t;have a:=L t.parts (i+1) C N (by omega) (by omega) (by omega) (by omega);have hb:Gt P n h0 tk ck nk tl o0 [t.d] (C++(Zar (i+1) t.parts).reverse) (N++((Zax (i+1) t.parts).map nJ).reverse) (C++(Zar (i+1) t.parts).reverse++[cell i t]) (N++[.int (i:Int)]):=fun rest h o4 o5 b=>by
     obtain ⟨h',o5',q,b'⟩:=Ztr H n t ht hc b (by simp [Zc1];omega) hz (by omega) o0 o5;exact ⟨h',some t.d,o5',ZlX ((b.old tk (Zw ht)).trans ht) rfl q,b'⟩
   have c:=a.trans hb;rw [T.places_parts,Zd1];simpa using c
theorem Zqv{h h1:Hd}(hl:h.length<=h1.length)(q:∀ i,i<h.length->h1[i]? = h[i]?):∃ g,h1=h++g:=⟨h1.drop h.length,by
 apply List.ext_getElem?;intro i;rcases Nat.lt_or_ge i h.length with c|c
 . rw [q i c,Oe c]
 . rw [Om c,List.getElem?_drop];congr 1;omega⟩
theorem ZmR (H:Gs P) (n:Nat) (t:T) (hz:t.size<=120) (h:Hd):∃ g k,run P (n+3) (O "graph_begun") [t.d] h=.ok (.tup [.ref k,.int 0]) (h++g)/\h.length<=k/\(h++g)[k]? = some (.lst (cells 0 t)):=by
 rw [Zl H.graph_begun (by rfl)];have ep:=Gn.ZkZ H.b.toTre H.pl n t h (by omega);have hl:(t.places.map T.d).length=t.size:=by simp [T.size]
 have ht:(h++[DO.lst (t.places.map T.d),.lst []])[h.length]? = some (.lst (t.places.map T.d)):=by simp
 have ol:h.length<=(h++[DO.lst (t.places.map T.d),.lst []]).length:=by simp
 have old:∀ i,i<h.length->(h++[DO.lst (t.places.map T.d),.lst []])[i]? = h[i]? := fun i hi=>Oe hi;generalize htl:t.places.map T.d=tl at *;generalize h++[DO.lst tl,.lst []]=h0 at *;have b0:B_ h0 (h0++[.lst [],.lst []]) h0.length (h0.length+1) [] []:=⟨by simp,by simp,by omega,by omega,by simp,fun i hi=>Oe hi⟩
 obtain ⟨h1,o4,o5,e1,b1⟩:=ZlT H.b (n:=n+1) (nk:=h0.length+1) (o0:=some t.d) ht (Oq h0.length) (by omega) t.size t 0 [] [] (Oq _) (by simp;omega) (by simp;omega) [] _ none none b0;have kt:=(b1.old h.length (Zw ht)).trans ht;have e2:wg P (n+1) h.length h0.length (h0.length+1) tl (some t.d) [] o4 o5 h1=.ok (.nx,[some t.d,some (.ref h.length),some (.ref h0.length),some (.ref (h0.length+1)),o4,o5]) h1:=ZlY kt;rw [e2,List.append_nil,htl] at e1;have x1:xs1 (P.tbl (n+2)) ZaB [some t.d,none,none,none,none,none] h=.ok (.nx,[some t.d,some (.ref h.length),none,none,none,none]) h0:=Zj (Zu ep rfl);have x2:xs1 (P.tbl (n+2)) Z5 [some t.d,some (.ref h.length),none,none,none,none] h0=.ok (.nx,[some t.d,some (.ref h.length),some (.ref h0.length),none,none,none]) (h0++[.lst []]):=by simp [Z5,sizeLine_eq]
 have x3:xs1 (P.tbl (n+2)) Z4 [some t.d,some (.ref h.length),some (.ref h0.length),none,none,none] (h0++[.lst []])=.ok (.nx,[some t.d,some (.ref h.length),some (.ref h0.length),some (.ref (h0.length+1)),none,none]) (h0++[.lst [],.lst []]):=by simp [Z4,sizeLine_eq]
 have x4:xs1 (P.tbl (n+2)) Z3 [some t.d,some (.ref h.length),some (.ref h0.length),some (.ref (h0.length+1)),none,none] (h0++[.lst [],.lst []])=.ok (.nx,[some t.d,some (.ref h.length),some (.ref h0.length),some (.ref (h0.length+1)),o4,o5]) h1:=by
   have ei:evi (P.tbl (n+2)) (.rev (.var 1)) [some t.d,some (.ref h.length),some (.ref h0.length),some (.ref (h0.length+1)),none,none] (h0++[.lst [],.lst []])=.ok ⟨[(h.length,tl)],tl.reverse⟩ (h0++[.lst [],.lst []]):=by
     have:=(b0.old h.length (Zw ht)).trans ht;generalize h0++[DO.lst [],.lst []]=hh at *;simp [ZiU,this]
   rw [ZsF,Zgq ei];exact e1
 have b2:=Zmv b1 (Oq _) (cells 0 t);have x5:xs1 (P.tbl (n+2)) Z2 [some t.d,some (.ref h.length),some (.ref h0.length),some (.ref (h0.length+1)),o4,o5] h1=.ok (.nx,[some t.d,some (.ref h.length),some (.ref h0.length),some (.ref (h0.length+1)),o4,o5]) (h1.set h0.length (.lst (cells 0 t))):=by
   have k:=b1.f;have il:=Zbp k;simp only [OB] at k;have rv:ZaY .rev (.ref h0.length) [] h1=.ok .non (h1.set h0.length (.lst (cells 0 t))):=by simp [ZaY,k,Zd8,Zp0]
   simp [Z2,il,rv]
 obtain ⟨g,hg⟩:=Zqv (h:=h) (h1:=h1.set h0.length (.lst (cells 0 t))) (by have:=b2.ol;omega) (fun i hi=>by rw [b2.old i (by omega),old i hi]);refine ⟨g,h0.length,?_,ol,by rw [<- hg];exact b2.f⟩;show Zh (xs2 (P.tbl (n+2)) (.cons ZaB (.cons Z5 (.cons Z4 (.cons Z3 (.cons Z2 (.cons ZbN .nil)))))) [some t.d,none,none,none,none,none] h)=_;rw [Za x1,Za x2,Za x3,Za x4,Za x5,<- hg];rfl
noncomputable def Zat(i:Nat):T->Gc
 | .num n=>.num n
 | .name x=>.name x
 | .fn x _=>.fn x (i+1)
 | .rcc f x _=>.rcc f x (i+1)
 | .call f _=>.call (i+1) (i+1+f.size)
 | .iff c t _=>.iff (i+1) (i+1+c.size) (i+1+c.size+t.size)
 | .op w a _=>.op w (i+1) (i+1+a.size)
theorem Zdj(i:Nat)(t:T):(Zat i t).d=cell i t:=by cases t<;>rfl
noncomputable def gcs:Nat->T->List Gc
 | i,.num n=>[Zat i (.num n)]
 | i,.name x=>[Zat i (.name x)]
 | i,.fn x e=>Zat i (.fn x e)::gcs (i+1) e
 | i,.rcc f x e=>Zat i (.rcc f x e)::gcs (i+1) e
 | i,.call f a=>Zat i (.call f a)::(gcs (i+1) f++gcs (i+1+f.size) a)
 | i,.iff c t e=>Zat i (.iff c t e)::(gcs (i+1) c++(gcs (i+1+c.size) t++gcs (i+1+c.size+t.size) e))
 | i,.op w a b=>Zat i (.op w a b)::(gcs (i+1) a++gcs (i+1+a.size) b)
theorem Zb1:∀ (t:T) (i:Nat),(gcs i t).map Gc.d=cells i t
 | .num _,_=>rfl
 | .name _,_=>rfl
 | .fn x e,i=>by rw [gcs,Op,Zdj,Zb1 e];rfl
 | .rcc f x e,i=>by rw [gcs,Op,Zdj,Zb1 e];rfl
 | .call f a,i=>by rw [gcs,Op,Zdj,List.map_append,Zb1 f,Zb1 a];rfl
 | .iff c t e,i=>by rw [gcs,Op,Zdj,List.map_append,List.map_append,Zb1 c,Zb1 t,Zb1 e];rfl
 | .op w a b,i=>by rw [gcs,Op,Zdj,List.map_append,Zb1 a,Zb1 b];rfl
theorem Zdi(t:T)(i:Nat):(gcs i t).length=t.size:=by rw [<- List.length_map (f:=Gc.d),Zb1,ZdN t.size t i (Oq _)]
theorem seg_at{A pre post:List Gc}{c:Gc}{l:List Gc}(e:A=pre++(c::l)++post)(hl:pre.length=i):gl A i=some c:=by
 show A[i]? = _;rw [e,<- hl];simp
end Grf
end
section
namespace Grf
open PySem L2 IV Tm
variable {P:Pg}{h:Hd}
namespace Q
theorem ZpT{i:Nat}{a b:Q}(h:(i::(a.all++b.all)).Nodup):a.all.Nodup/\b.all.Nodup/\i ∉ a.all/\i ∉ b.all/\∀ n,n∈a.all->n ∉ b.all:=by
 rw [List.nodup_cons,OD,not_or,List.nodup_append] at h;exact ⟨h.2.1,h.2.2.1,h.1.1,h.1.2,fun n x y=>h.2.2.2 n x n y rfl⟩
theorem one2{i:Nat}{a b:Q}(h:(i::(a.all++b.all)).Nodup)(oa:a.One)(ob:b.One):(i::(a.opn++b.opn)).Nodup/\∀ n∈i::(a.opn++b.opn),n ∉ a.deep++b.deep:=by
 obtain ⟨_,_,ia,ib,dj⟩:=ZpT h;refine ⟨List.nodup_cons.mpr ⟨fun z=>?_,List.nodup_append.mpr ⟨oa.1,ob.1,fun x hx y hy e=>dj x (Zk x hx) (e ▸ Zk y hy)⟩⟩,fun n hn hd=>?_⟩
 . rcases OD.mp z with z|z
   . exact ia (Zk _ z)
   . exact ib (Zk _ z)
 . rcases OD.mp hd with hd|hd
   . rcases O2.mp hn with rfl|hn
     . exact ia (Zi _ hd)
     . rcases OD.mp hn with hn|hn
       . exact oa.2 n hn hd
       . exact dj n (Zi _ hd) (Zk _ hn)
   . rcases O2.mp hn with rfl|hn
     . exact ib (Zi _ hd)
     . rcases OD.mp hn with hn|hn
       . exact dj n (Zk _ hn) (Zi _ hd)
       . exact ob.2 n hn hd
theorem nod:∀ {q:Q},q.all.Nodup->q.One/\q.Uns
 | .num i z,_=>⟨⟨.nil,fun n hn=>by cases hn⟩,trivial⟩
 | .name i x,_=>⟨⟨List.nodup_cons.mpr ⟨fun z=>(by cases z),.nil⟩,fun n hn hd=>by cases hd⟩,trivial⟩
 | .fn i x e,h=>⟨⟨.nil,fun n hn=>by cases hn⟩,nod (List.nodup_cons.mp h).2⟩
 | .rcc i f x e,h=>⟨⟨.nil,fun n hn=>by cases hn⟩,nod (List.nodup_cons.mp h).2⟩
 | .call i a b,h=>by
   obtain ⟨na,nb,_⟩:=ZpT h;obtain ⟨oa,ua⟩:=nod na;obtain ⟨ob,ub⟩:=nod nb;exact ⟨one2 h oa ob,ua,ub⟩
 | .op i w a b,h=>by
   obtain ⟨na,nb,_⟩:=ZpT h;obtain ⟨oa,ua⟩:=nod na;obtain ⟨ob,ub⟩:=nod nb;exact ⟨one2 h oa ob,ua,ub⟩
 | .iff i a b c,h=>by
   simp only [all,List.nodup_cons,OD,not_or,List.nodup_append] at h;obtain ⟨⟨ia,ib,ic⟩,na,⟨nb,nc,dbc⟩,da⟩:=h;obtain ⟨oa,ua⟩:=nod na;obtain ⟨ob,ub⟩:=nod nb;obtain ⟨oc,uc⟩:=nod nc;refine ⟨⟨?_,fun n hn hd=>?_⟩,ua,ub,uc⟩
   . simp only [opn,List.nodup_cons,OD,not_or,List.nodup_append];exact ⟨⟨fun z=>ia (Zk _ z),fun z=>ib (Zk _ z),fun z=>ic (Zk _ z)⟩,oa.1,⟨ob.1,oc.1,fun x hx y hy=>dbc x (Zk x hx) y (Zk y hy)⟩,fun x hx y hy=>da x (Zk x hx) y (hy.imp (Zk y) (Zk y))⟩
   . simp only [opn,deep,O2,OD] at hn hd;rcases hn with rfl|hn|hn|hn<;>rcases hd with hd|hd|hd
     . exact ia (Zi _ hd)
     . exact ib (Zi _ hd)
     . exact ic (Zi _ hd)
     . exact oa.2 n hn hd
     . exact da n (Zk _ hn) n (.inl (Zi _ hd)) rfl
     . exact da n (Zk _ hn) n (.inr (Zi _ hd)) rfl
     . exact da n (Zi _ hd) n (.inl (Zk _ hn)) rfl
     . exact ob.2 n hn hd
     . exact dbc n (Zk _ hn) n (Zi _ hd) rfl
     . exact da n (Zi _ hd) n (.inr (Zk _ hn)) rfl
     . exact dbc n (Zi _ hd) n (Zk _ hn) rfl
     . exact oc.2 n hn hd
end Q
noncomputable def qs:Nat->T->Q
 | i,.num n=>.num i n
 | i,.name x=>.name i x
 | i,.fn x e=>.fn i x (qs (i+1) e)
 | i,.rcc f x e=>.rcc i f x (qs (i+1) e)
 | i,.call f a=>.call i (qs (i+1) f) (qs (i+1+f.size) a)
 | i,.iff c t e=>.iff i (qs (i+1) c) (qs (i+1+c.size) t) (qs (i+1+c.size+t.size) e)
 | i,.op w a b=>.op i w (qs (i+1) a) (qs (i+1+a.size) b)
theorem ZcF(i:Nat)(t:T):(qs i t).no=i:=by cases t<;>rfl
theorem ZbQ:∀ (t:T) (i:Nat),(qs i t).er=t
 | .num _,_=>rfl
 | .name _,_=>rfl
 | .fn x e,i=>by simp only [qs,Q.er,ZbQ e]
 | .rcc f x e,i=>by simp only [qs,Q.er,ZbQ e]
 | .call f a,i=>by simp only [qs,Q.er,ZbQ f,ZbQ a]
 | .iff c t e,i=>by simp only [qs,Q.er,ZbQ c,ZbQ t,ZbQ e]
 | .op w a b,i=>by simp only [qs,Q.er,ZbQ a,ZbQ b]
theorem ZB:∀ (t:T) (i n:Nat),n∈(qs i t).all->i<=n/\n<i+t.size
 | .num z,i,n,h=>by have:=ZP (.num z);rw [Ox.mp h];lia
 | .name z,i,n,h=>by have:=ZP (.name z);rw [Ox.mp h];lia
 | .fn x e,i,n,h=>by
   have:=zf x e;rcases O2.mp h with rfl|h
   . lia
   . have:=ZB e _ n h;lia
 | .rcc f x e,i,n,h=>by
   have:=zr f x e;rcases O2.mp h with rfl|h
   . lia
   . have:=ZB e _ n h;lia
 | .call f a,i,n,h=>by
   have:=zc f a;simp only [qs,Q.all,O2,OD] at h;rcases h with rfl|h|h
   . lia
   . have:=ZB f _ n h;lia
   . have:=ZB a _ n h;lia
 | .iff c t e,i,n,h=>by
   have:=zi c t e;simp only [qs,Q.all,O2,OD] at h;rcases h with rfl|h|h|h
   . lia
   . have:=ZB c _ n h;lia
   . have:=ZB t _ n h;lia
   . have:=ZB e _ n h;lia
 | .op w f a,i,n,h=>by
   have:=zo w f a;simp only [qs,Q.all,O2,OD] at h;rcases h with rfl|h|h
   . lia
   . have:=ZB f _ n h;lia
   . have:=ZB a _ n h;lia
theorem ZcG:∀ (t:T) (i:Nat),(qs i t).all.Nodup
 | .num z,i=>List.nodup_cons.mpr ⟨fun z=>(by cases z),.nil⟩
 | .name z,i=>List.nodup_cons.mpr ⟨fun z=>(by cases z),.nil⟩
 | .fn x e,i=>List.nodup_cons.mpr ⟨fun z=>by have:=ZB e _ _ z;lia,ZcG e _⟩
 | .rcc f x e,i=>List.nodup_cons.mpr ⟨fun z=>by have:=ZB e _ _ z;lia,ZcG e _⟩
 | .call f a,i=>List.nodup_cons.mpr ⟨fun z=>by
     rcases OD.mp z with z|z
     . have:=ZB f _ _ z;lia
     . have:=ZB a _ _ z;lia,List.nodup_append.mpr ⟨ZcG f _,ZcG a _,fun x hx y hy=>by have:=ZB f _ _ hx;have:=ZB a _ _ hy;lia⟩⟩
 | .op w f a,i=>List.nodup_cons.mpr ⟨fun z=>by
     rcases OD.mp z with z|z
     . have:=ZB f _ _ z;lia
     . have:=ZB a _ _ z;lia,List.nodup_append.mpr ⟨ZcG f _,ZcG a _,fun x hx y hy=>by have:=ZB f _ _ hx;have:=ZB a _ _ hy;lia⟩⟩
 | .iff c t e,i=>List.nodup_cons.mpr ⟨fun z=>by
     rcases OD.mp z with z|z
     . have:=ZB c _ _ z;lia
     . rcases OD.mp z with z|z
       . have:=ZB t _ _ z;lia
       . have:=ZB e _ _ z;lia,List.nodup_append.mpr ⟨ZcG c _,List.nodup_append.mpr ⟨ZcG t _,ZcG e _,fun x hx y hy=>by have:=ZB t _ _ hx;have:=ZB e _ _ hy;lia⟩,fun x hx y hy=>by
       have:=ZB c _ _ hx;rcases OD.mp hy with hy|hy
       . have:=ZB t _ _ hy;lia
       . have:=ZB e _ _ hy;lia⟩⟩
theorem ZcE{A:List Gc}:∀ (t:T) (i:Nat) (pre post:List Gc),A=pre++gcs i t++post->pre.length=i->(qs i t).ok (gl A)
 | .num _,i,pre,post,e,hl=>seg_at e hl
 | .name _,i,pre,post,e,hl=>seg_at e hl
 | .fn x b,i,pre,post,e,hl=>⟨by rw [ZcF];exact seg_at e hl,ZcE b (i+1) (pre++[Zat i (.fn x b)]) post (by rw [e,gcs];simp) (by simp [hl])⟩
 | .rcc f x b,i,pre,post,e,hl=>⟨by rw [ZcF];exact seg_at e hl,ZcE b (i+1) (pre++[Zat i (.rcc f x b)]) post (by rw [e,gcs];simp) (by simp [hl])⟩
 | .call f a,i,pre,post,e,hl=>⟨by rw [ZcF,ZcF];exact seg_at e hl,ZcE f (i+1) (pre++[Zat i (.call f a)]) (gcs (i+1+f.size) a++post) (by rw [e,gcs];simp) (by simp [hl]),ZcE a (i+1+f.size) (pre++[Zat i (.call f a)]++gcs (i+1) f) post (by rw [e,gcs];simp) (by simp [hl,Zdi];lia)⟩
 | .iff c t d,i,pre,post,e,hl=>⟨by rw [ZcF,ZcF,ZcF];exact seg_at e hl,ZcE c (i+1) (pre++[Zat i (.iff c t d)]) (gcs (i+1+c.size) t++gcs (i+1+c.size+t.size) d++post) (by rw [e,gcs];simp) (by simp [hl]),ZcE t (i+1+c.size) (pre++[Zat i (.iff c t d)]++gcs (i+1) c) (gcs (i+1+c.size+t.size) d++post) (by rw [e,gcs];simp) (by simp [hl,Zdi];lia),ZcE d (i+1+c.size+t.size) (pre++[Zat i (.iff c t d)]++gcs (i+1) c++gcs (i+1+c.size) t) post (by rw [e,gcs];simp) (by simp [hl,Zdi];lia)⟩
 | .op w f a,i,pre,post,e,hl=>⟨by rw [ZcF,ZcF];exact seg_at e hl,ZcE f (i+1) (pre++[Zat i (.op w f a)]) (gcs (i+1+f.size) a++post) (by rw [e,gcs];simp) (by simp [hl]),ZcE a (i+1+f.size) (pre++[Zat i (.op w f a)]++gcs (i+1) f) post (by rw [e,gcs];simp) (by simp [hl,Zdi];lia)⟩
theorem ZqM (H:Gs P) (n:Nat) (t:T) (ct:Gn.Cl [] t) (hz:t.size<=120) (h:Hd):∃ g k G q,run P (n+3) (O "graph_begun") [t.d] h=.ok (st k 0) (h++g)/\h.length<=k/\(h++g)[k]? = some (cl G)/\Gq G q/\q.no=0/\q.er=t/\G.length=t.size:=by
 obtain ⟨g,k,e,l,a⟩:=ZmR H n t hz h;obtain ⟨o,u⟩:=Q.nod (ZcG t 0);refine ⟨g,k,gcs 0 t,qs 0 t,e,l,?_,⟨ZcE t 0 [] [] (by simp) rfl,o,u,by rw [ZbQ];exact ct⟩,ZcF 0 t,ZbQ t 0,Zdi t 0⟩;rw [a,Grf.cl,Zb1]
end Grf
end
section
namespace Grf
open PySem L2 IV Tm
structure Stp(M:Nat)(t u:T):Prop where
 v:Tm.isV t=false
 n:next t=some u
 c:ccR (bot t)<=4
 z:t.size<=M
inductive Sn(M:Nat):Nat->T->T->Prop
 | nil (t:T):Sn M 0 t t
 | cons:Stp M t u->Sn M n u w->Sn M (n+1) t w
theorem Sn.mono(h:Sn M n t u)(l:M<=M'):Sn M' n t u:=by
 induction h with
 | nil t=>exact .nil t
 | cons s _ ih=>exact .cons ⟨s.v,s.n,s.c,OE s.z l⟩ ih
theorem Sn.app(a:Sn M n t u)(b:Sn M m u w):Sn M (n+m) t w:=by
 induction a with
 | nil t=>rwa [Nat.zero_add]
 | @cons t u n w s _ ih=>rw [Nat.add_right_comm];exact .cons s (ih b)
theorem Sn.one(s:Stp M t u):Sn M 1 t u:=.cons s (.nil u)
theorem Zrs(s:Stp M f f')(a:T):Stp (M+1+a.size) (.call f a) (.call f' a):=by
 have zz:=zc f a;have n:=s.n;unfold next at n
 obtain ⟨u,e,rfl⟩:=Oo.mp n;exact ⟨rfl,by unfold next;simp only [bot,pth,s.v,OG,if_false];rw [e];rfl,by simp only [bot,s.v,OG,if_false];exact s.c,by have:=s.z;lia⟩
theorem Zrt(s:Stp M a a')(v:Tm.isV f=true):Stp (M+1+f.size) (.call f a) (.call f a'):=by
 have zz:=zc f a;have n:=s.n;unfold next at n
 obtain ⟨u,e,rfl⟩:=Oo.mp n;exact ⟨rfl,by unfold next;simp only [bot,pth,v,s.v,OG,if_false,if_true];rw [e];rfl,by simp only [bot,v,s.v,OG,if_false,if_true];exact s.c,by have:=s.z;lia⟩
theorem ZtH(s:Sn M n f f')(a:T):Sn (M+1+a.size) n (.call f a) (.call f' a):=by
 induction s with
 | nil t=>exact .nil _
 | cons s _ ih=>exact .cons (Zrs s a) ih
theorem Zrw(s:Sn M n a a')(v:Tm.isV f=true):Sn (M+1+f.size) n (.call f a) (.call f a'):=by
 induction s with
 | nil t=>exact .nil _
 | cons s _ ih=>exact .cons (Zrt s v) ih
variable {h x y:Str}{m:Int}
noncomputable def F0(x:Str)(m:Int):T:=.fn x (.op .add (.name x) (.num m))
noncomputable def Fk(x y:Str)(m:Int):Nat->T
 | 0=>F0 x m
 | k+1=>.fn y (.call (Fk x y m k) (.call (Fk x y m k) (.name y)))
noncomputable def Tw(h y:Str):T:=.fn h (.fn y (.call (.name h) (.call (.name h) (.name y))))
noncomputable def Ek(h x y:Str)(m:Int):Nat->T
 | 0=>F0 x m
 | j+1=>.call (Tw h y) (Ek h x y m j)
theorem Zqr(k:Nat):Tm.isV (Fk x y m k)=true:=by cases k<;>rfl
theorem Ziv:∀ (k:Nat) (ns:List Str),fin ns (Fk x y m k)=false
 | 0,ns=>by simp [Fk,F0,fin,rs]
 | k+1,ns=>by simp [Fk,fin,Ziv k,rs]
theorem ZsJ(k:Nat)(ns:List Str):cc ns (Fk x y m k)=0:=by
 cases k with
 | zero=>simp [Fk,F0,cc,fin,rs]
 | succ k=>simp [Fk,cc,fin,Ziv k,rs]
theorem ZnQ:∀ k:Nat,(Fk x y m k).size+4=8 * 2 ^ k
 | 0=>by simp [Fk,F0,T.size,T.places]
 | k+1=>by
   have ih:=ZnQ k;have a:=zf y (.call (Fk x y m k) (.call (Fk x y m k) (.name y)));have b:=zc (Fk x y m k) (.call (Fk x y m k) (.name y));have c:=zc (Fk x y m k) (.name y);have d:(T.name y).size=1:=rfl;show (T.fn y (.call (Fk x y m k) (.call (Fk x y m k) (.name y)))).size+4=_;rw [Nat.pow_succ]
   lia
theorem Zqs(k:Nat)(z:Str)(V:T):sub (Fil.ar [(z,V)]) (Fk x y m k)=Fk x y m k:=by
 rw [<- Zeo];exact Zaw _ _ _ (Ziv k _)
noncomputable def fin'(m n:Int):Nat->Int
 | 0=>(n+m) % 1000000
 | k+1=>fin' m (fin' m n k) k
theorem Zta{k:Nat}{n:Int}:Sn (20 * 2 ^ k) (3 * 2 ^ k - 1) (.call (Fk x y m k) (.num n)) (.num (fin' m n k)):=by
 induction k generalizing n with
 | zero =>
   refine .cons (u:=.op .add (.num n) (.num m)) ⟨rfl,by simp [next,bot,pth,Fk,F0,bec,sub,Fil.ar,Tm.get,Tm.isV,Za8],by simp [bot,Fk,F0,Tm.isV,ccR,ccF,cc],by simp [Fk,F0,T.size,T.places]⟩ (.one ⟨rfl,by simp [next,bot,pth,bec,Tm.isV,Za8,fin',_root_.Rw.wk],by simp [bot,Tm.isV,ccR],by simp [T.size,T.places]⟩)
 | succ k ih =>
   have zk:=ZnQ (x:=x) (y:=y) (m:=m) k;have zk1:=ZnQ (x:=x) (y:=y) (m:=m) (k+1);have z1:=zc (Fk x y m (k+1)) (.num n);have zn:(T.num n).size=1:=rfl;have p:2 ^ (k+1)=2 * 2 ^ k:=by rw [Nat.pow_succ];lia
   have pp:1<=2 ^ k:=Nat.one_le_two_pow;have s1:Stp (20 * 2 ^ (k+1)) (.call (Fk x y m (k+1)) (.num n)) (.call (Fk x y m k) (.call (Fk x y m k) (.num n))):=by
     refine ⟨rfl,?_,?_,by lia⟩
     . have:bec (.call (Fk x y m (k+1)) (.num n))=some (.call (Fk x y m k) (.call (Fk x y m k) (.num n))):=by
         simp only [Fk,bec,sub,Zqs];simp [Fil.ar,Tm.get]
       have b:bot (.call (Fk x y m (k+1)) (.num n))=.call (Fk x y m (k+1)) (.num n):=rfl;have q:pth (.call (Fk x y m (k+1)) (.num n))=[]:=rfl;unfold next
       rw [b,q,this];rfl
     . have b:bot (.call (Fk x y m (k+1)) (.num n))=.call (Fk x y m (k+1)) (.num n):=rfl;rw [b];simp [ccR,Fk,ccF,cc,ZsJ]
   have s2:=(Zrw (ih (n:=n)) (Zqr (x:=x) (y:=y) (m:=m) k)).mono (M':=20 * 2 ^ (k+1)) (by lia);have s3:=(ih (n:=fin' m n k)).mono (M':=20 * 2 ^ (k+1)) (by lia);have:=(Sn.one s1).app (s2.app s3);rw [show 3 * 2 ^ (k+1) - 1=1+(3 * 2 ^ k - 1+(3 * 2 ^ k - 1)) by lia];exact this
theorem ZiW(hy:h≠y):∀ j:Nat,Sn (20 * 2 ^ j) j (Ek h x y m j) (Fk x y m j)
 | 0=>.nil _
 | j+1=>by
   have ih:=ZiW hy j;have zj:=ZnQ (x:=x) (y:=y) (m:=m) j;have zt:(Tw h y).size=7:=by simp [Tw,T.size,T.places]
   have p:2 ^ (j+1)=2 * 2 ^ j:=by rw [Nat.pow_succ];lia
   have pp:1<=2 ^ j:=Nat.one_le_two_pow;have z1:=zc (Tw h y) (Fk x y m j);have s1:=(Zrw ih (f:=Tw h y) rfl).mono (M':=20 * 2 ^ (j+1)) (by lia);have hy':¬ y=h:=fun z=>hy z.symm;have b:bot (.call (Tw h y) (Fk x y m j))=.call (Tw h y) (Fk x y m j):=by simp only [bot,Zqr,if_true];rfl
   have q:pth (.call (Tw h y) (Fk x y m j))=[]:=by simp only [pth,Zqr,if_true];rfl
   have s2:Stp (20 * 2 ^ (j+1)) (.call (Tw h y) (Fk x y m j)) (Fk x y m (j+1)):=by
     refine ⟨rfl,?_,?_,by lia⟩
     . unfold next
       rw [b,q];simp [Tw,bec,sub,Fil.ar,Tm.get,hy',Fk,Za8]
     . rw [b];simp [Tw,ccR,ccF,cc,fin,rs,hy,hy']
   exact s1.app (.one s2)
theorem whole(hy:h≠y)(j:Nat)(n:Int):Sn (20 * 2 ^ j+2) (j+(3 * 2 ^ j - 1)) (.call (Ek h x y m j) (.num n)) (.num (fin' m n j)):=by
 have a:=ZtH (ZiW hy (x:=x) (m:=m) j) (.num n);exact a.app (Zta.mono (by lia))
theorem ZnS(m n:Int)(k:Nat):fin' m n k=(n+m * 2 ^ k) % 1000000:=by
 induction k generalizing n with
 | zero=>simp [fin']
 | succ k ih =>
   rw [fin',ih,ih n,Int.pow_succ];rw [Int.emod_add_emod];congr 1;generalize (2:Int) ^ k=p;have:m * (p * 2)=m * p+m * p:=by rw [<- Int.mul_assoc];lia
   lia
end Grf
end
section
namespace K44L
open PySem L2 IV
noncomputable def Zol:Sx:=(.set (.nm 1) (.call (O "_law_mixed") (.cons (.call (O "_law_cell_at") (.cons (.var 0) (.cons (.cst (.int 0)) .nil))) (.cons (.cst (.int 0)) .nil))))
noncomputable def Zok:Sx:=(.set (.nm 2) (.call (O "_law_names") (.cons (.call (O "_law_mixed") (.cons (.call (O "_law_cell_at") (.cons (.var 0) (.cons (.cst (.int 1)) .nil))) (.cons (.cst (.int 1)) .nil))) .nil)))
noncomputable def Zoj:Sx:=(.set (.nm 3) (.bin .Mod (.var 1) (.cst (.int 7))))
noncomputable def Zoi:Sx:=(.set (.nm 4) (.bin .Mod (.bin .FloorDiv (.var 1) (.cst (.int 7))) (.cst (.int 1000000))))
noncomputable def Zoh:Sx:=(.set (.nm 5) (.bin .Mod (.call (O "_law_mixed") (.cons (.blt .sum (.cons (.comp [(O "_law_cell")] [none] (.pl (.sl (.var 0) (some (.cst (.int 2))) none)) (.nm 0) none (.bin .Mod (.var 0) (.bin .Pow (.cst (.int 10)) (.cst (.int 20))))) .nil)) (.cons (.cst (.int 2)) .nil))) (.cst (.int 1000000))))
noncomputable def Zog:Sx:=(.set (.nm 6) (.tupl (.cons (.cst (.str (O "name"))) (.cons (.ix (.var 2) (.cst (.int 0))) .nil))))
noncomputable def Zof:Sx:=(.set (.nm 7) (.tupl (.cons (.cst (.str (O "name"))) (.cons (.ix (.var 2) (.cst (.int 1))) .nil))))
noncomputable def Zoe:Sx:=(.set (.nm 8) (.tupl (.cons (.cst (.str (O "fn"))) (.cons (.ix (.var 2) (.cst (.int 0))) (.cons (.tupl (.cons (.cst (.str (O "fn"))) (.cons (.ix (.var 2) (.cst (.int 1))) (.cons (.tupl (.cons (.cst (.str (O "call"))) (.cons (.var 6) (.cons (.tupl (.cons (.cst (.str (O "call"))) (.cons (.var 6) (.cons (.var 7) .nil)))) .nil)))) .nil)))) .nil)))))
noncomputable def Zod:Sx:=(.set (.nm 9) (.tupl (.cons (.cst (.str (O "fn"))) (.cons (.ix (.var 2) (.cst (.int 2))) (.cons (.tupl (.cons (.cst (.str (O "+"))) (.cons (.tupl (.cons (.cst (.str (O "name"))) (.cons (.ix (.var 2) (.cst (.int 2))) .nil))) (.cons (.tupl (.cons (.cst (.str (O "num"))) (.cons (.var 4) .nil))) .nil)))) .nil)))))
noncomputable def ZeZ:Ix:=(.rng (.var 3))
noncomputable def ZiO:Sx:=(.set (.nm 9) (.tupl (.cons (.cst (.str (O "call"))) (.cons (.var 8) (.cons (.var 9) .nil)))))
noncomputable def Zg9:Sxs:=(.cons ZiO .nil)
noncomputable def Zml:Sx:=.forr (.nm 10) ZeZ Zg9
noncomputable def Zmk:Sx:=(.set (.nm 9) (.tupl (.cons (.cst (.str (O "call"))) (.cons (.var 9) (.cons (.tupl (.cons (.cst (.str (O "num"))) (.cons (.var 5) .nil))) .nil)))))
noncomputable def Zmj:Sx:=(.set (.nm 11) (.call (O "graph_begun") (.cons (.var 9) .nil)))
noncomputable def Zmi:Sx:=(.set (.nm 12) (.blt .len (.cons (.ix (.var 11) (.cst (.int 0))) .nil)))
noncomputable def Zmh:Sx:=(.set (.nm 13) (.cst (.int 0)))
noncomputable def Zmg:Sx:=(.set (.nm 14) (.call (O "graph_step") (.cons (.var 11) .nil)))
noncomputable def Zds:Tx:=(.ands (.cons (.ex (.cmp .Eq (.ix (.var 14) (.cst (.int 0))) (.cst (.str (O "loud"))))) (.one (.ex (.cmp .Lt (.var 13) (.cst (.int 600)))))))
noncomputable def ZiN:Sx:=(.set (.nm 11) (.ix (.var 14) (.cst (.int 1))))
noncomputable def ZiM:Sx:=(.set (.nm 13) (.bin .Add (.var 13) (.cst (.int 1))))
noncomputable def ZiL:Sx:=(.set (.nm 14) (.call (O "graph_step") (.cons (.var 11) .nil)))
noncomputable def Zg8:Sxs:=(.cons ZiN (.cons ZiM (.cons ZiL .nil)))
noncomputable def ZhD:Sx:=.whl Zds Zg8
noncomputable def Zfp:Sx:=(.set (.two 15 16) (.var 11))
noncomputable def ZhC:Sx:=(.set (.nm 17) (.bin .Mod (.bin .Add (.var 5) (.bin .Mult (.var 4) (.ix (.lstl (.cons (.cst (.int 1)) (.cons (.cst (.int 2)) (.cons (.cst (.int 4)) (.cons (.cst (.int 8)) (.cons (.cst (.int 16)) (.cons (.cst (.int 32)) (.cons (.cst (.int 64)) .nil)))))))) (.var 3)))) (.cst (.int 1000000))))
noncomputable def ZhB:Sx:=(.ret (.ands (.cons (.cmp .Eq (.var 14) (.tupl (.cons (.cst (.str (O "value"))) .nil))) (.cons (.rpn false (.ix (.var 15) (.var 16)) (.tupl (.cons (.cst (.str (O "num"))) (.cons (.var 17) .nil)))) (.cons (.cmp .LtE (.blt .len (.cons (.var 15) .nil)) (.bin .Add (.var 12) (.bin .Mult (.var 13) (.var 12)))) .nil)))))
noncomputable def ZoO:Sxs:=(.cons Zol (.cons Zok (.cons Zoj (.cons Zoi (.cons Zoh (.cons Zog (.cons Zof (.cons Zoe (.cons Zod (.cons Zml (.cons Zmk (.cons Zmj (.cons Zmi (.cons Zmh (.cons Zmg (.cons ZhD (.cons Zfp (.cons ZhC (.cons ZhB .nil)))))))))))))))))))
noncomputable def Zhi:Fd:=⟨[(O "_law_script")],[(O "_law_script"),(O "_law_number"),(O "_law_names_here"),(O "_law_times"),(O "_law_more"),(O "_law_begin"),(O "_law_h"),(O "_law_y"),(O "_law_twice"),(O "_law_told"),(O "_law_k"),(O "_law_state"),(O "_law_first"),(O "_law_made"),(O "_law_answer"),(O "_law_cells"),(O "_law_root"),(O "_law_due")],ZoO⟩
structure Lw(P:Pg):Prop where
 s:Grf.Gs P
 m:Gn.Alk P (O "_law_mixed") Gn.ZS
 ns:Gn.Alk P (O "_law_names") Gn.ZR
 cell:P.tb.lookup (O "_law_cell_at")=some Gn.Z0
 law:P.tb.lookup (O "law")=some Zhi
end K44L
end
section
namespace Gn
open PySem L2 IV
inductive Sl(rd:Nat->Option PyData)(ds:List D)(n k:Nat):Prop
 | mk (p:List PyData) (e:D.pys rd ds=some p) (s:PyData.showableAll p=true) (i:PyData.intsShortAll 13 p=true) (w:PyData.weightAll p<=70 * n+21 * k) (d:PyData.depthAll p<=n)
inductive Sh(rd:Nat->Option PyData)(x:D)(n:Nat):Prop
 | mk (p:List PyData) (e:D.py rd x=some (.tuple p)) (s:PyData.showableAll p=true) (i:PyData.intsShortAll 13 p=true) (w:PyData.weightAll p<70 * n) (d:PyData.depthAll p<n)
theorem Sl.nl:Sl rd [] 0 0:=⟨[],rfl,rfl,rfl,Oq _,Oq _⟩
theorem Sl.st(h:x.cps.size<=20):Sl rd ds n k->Sl rd (.str x::ds) n (k+1)
 | ⟨p,e,s,i,w,d⟩=>⟨.str x::p,by simp [D.pys,D.py,e],by simp [PyData.showableAll,PyData.showable,s],by simp [PyData.intsShortAll,PyData.intsShort,i],by simp only [PyData.weightAll,PyData.weight];lia,by simp only [PyData.depthAll,PyData.depth];lia⟩
theorem Sl.cn(q:Sh rd x a):Sl rd ds n k->Sl rd (x::ds) (a+n) k
 | ⟨p,e,s,i,w,d⟩=>by
   obtain ⟨p',e',s',i',w',d'⟩:=q;exact ⟨.tuple p'::p,by simp [D.pys,e,e'],by simp [PyData.showableAll,PyData.showable,s,s'],by simp [PyData.intsShortAll,PyData.intsShort,i,i'],by simp only [PyData.weightAll,PyData.weight];lia,by simp only [PyData.depthAll,PyData.depth];lia⟩
theorem Sl.it(h:0<=z/\z<1000000):Sl rd [.int z] 0 1:=by
 obtain ⟨h0,h1⟩:=h;have hl:z.natAbs.log2<20:=by
   by_cases e:z.natAbs=0
   . rw [e];decide
   . exact (Nat.log2_lt e).mpr (by lia)
 have ht:(toString z).length<=7:=int_text_length_le10 (k:=6) (by decide) (by lia);have q:(PyData.shown (.int z)).length<=13:=by show (Str.ofString (toString z)).length<=13;rw [ofString_length];lia
 refine ⟨[.int z],rfl,?_,?_,?_,Oq _⟩
 . simp only [PyData.showable,PyData.showableAll,Bool.and_true,decide_eq_true_eq];lia
 . simp only [PyData.intsShort,PyData.intsShortAll,Bool.and_true];exact decide_eq_true q
 . simp only [PyData.weight,PyData.weightAll];split<;>lia
theorem Sl.tp(hk:k<=3):Sl rd ds n k->Sh rd (.tup ds) (n+1)
 | ⟨p,e,s,i,w,d⟩=>⟨p,by simp [D.py,e],s,i,by lia,by lia⟩
theorem Zfx:∀ (t:T) (sc:List Str),(∀ y∈sc,Wl 20 y)->Cl sc t->Sh rd t.d t.size
 | .num n,sc,hs,c=>((Sl.it c).st (by decide)).tp (by decide)
 | .name x,sc,hs,c=>((Sl.nl.st (hs x c).2).st (by decide)).tp (by decide)
 | .fn x e,sc,hs,c=>by
   rw [Tm.zf,Nat.add_comm];exact (((Sl.nl.cn (Zfx e (x::sc) (List.forall_mem_cons.mpr ⟨c.2,hs⟩) c.1)).st c.2.2).st (by decide)).tp (by decide)
 | .rcc f x e,sc,hs,c=>by
   rw [Tm.zr,Nat.add_comm];exact ((((Sl.nl.cn (Zfx e (x::f::sc) (List.forall_mem_cons.mpr ⟨c.2.2.2,List.forall_mem_cons.mpr ⟨c.2.2.1,hs⟩⟩) c.1)).st c.2.2.2.2).st c.2.2.1.2).st (by decide)).tp (by decide)
 | .call f a,sc,hs,c=>by
   rw [Tm.zc,Nat.add_comm];exact (((Sl.nl.cn (Zfx a sc hs c.2)).cn (Zfx f sc hs c.1)).st (by decide)).tp (by decide)
 | .op w f a,sc,hs,c=>by
   rw [Tm.zo,Nat.add_comm];exact (((Sl.nl.cn (Zfx a sc hs c.2)).cn (Zfx f sc hs c.1)).st (by cases w<;>decide)).tp (by decide)
 | .iff p f a,sc,hs,c=>by
   rw [Tm.zi,Nat.add_comm];exact ((((Sl.nl.cn (Zfx a sc hs c.2.2)).cn (Zfx f sc hs c.2.1)).cn (Zfx p sc hs c.1)).st (by decide)).tp (by decide)
theorem Zry(c:Cl [] t)(hz:t.size<=500)(h:Hd):∃ x,shD t.d h=.ok x h:=by
 obtain ⟨p,e,s,i,w,d⟩:=Zfx (rd:=ZkW h 4) t [] nofun c;refine ⟨PyData.shown (.tuple p),?_⟩;have ok:L2.ZjZ (.tuple p)=true:=by simp only [L2.ZjZ,Oa,decide_eq_true_eq];exact ⟨rfl,s,i,by simp only [PyData.weight];lia,by simp only [PyData.depth];lia⟩
 unfold shD ZgU;rw [e];simp only [ok,if_true]
end Gn
end
section
namespace K44L
open PySem L2 IV Tm Grf
variable {P:Pg}{h:Hd}
theorem Zk1 (H:P.tb.lookup (O "_law_cell_at")=some Gn.Z0) (n:Nat) (zs:List Int) (i:Nat) (h:Hd):∃ v,run P (n+1) (O "_law_cell_at") [.ro (zs.map .int),.int i] h=.ok (.int v) h:=by
 rw [Zl H rfl];by_cases q:i<zs.length
 . refine ⟨zs[i],?_⟩;have q':(i:Int)<(zs.length:Int):=by lia
   have a:atI (zs.map D.int) (i:Int)=some (.int zs[i]):=by rw [IV.ZdB,On,Og q];rfl
   simp [Gn.Z0,Gn.Zbk,Z7,Za9,ZhM,seqOf,lstOf,q',a]
 . have q':¬ (i:Int)<(zs.length:Int):=by lia
   exact ⟨0,by simp [Gn.Z0,Gn.Zbk,Z7,Za9,ZhM,seqOf,lstOf,q']⟩
theorem ZlQ(f:Int->Int):∀ ys:List Int,intsOf (ys.map fun z=>D.int (f z))=some (ys.map f)
 | []=>rfl
 | y::ys=>by rw [Op,intsOf,ZlQ f ys];rfl
theorem Zrr(e:h[i]? = some (.lst xs))(q:intsOf xs=some ns):Za9 GD .sum [.ref i] h=.ok (.int ns.sum) h:=by simp only [Za9,Zom,lstOf,e,Option.bind_some,q];rfl
theorem ZrC (U:Tb) {zs:List Int} (hz:zs.length<=63) {S:Ev} (e:ev U (.var 0) S h=.ok (.ro (zs.map .int)) h):∃ v g,ev U (.blt .sum (.cons (.comp [(O "_law_cell")] [none] (.pl (.sl (.var 0) (some (.cst (.int 2))) none)) (.nm 0) none (.bin .Mod (.var 0) (.bin .Pow (.cst (.int 10)) (.cst (.int 20))))) .nil)) S h=.ok (.int v) (h++g):=by
 obtain ⟨ys,hyl,osl⟩:=Gn.ZrG zs 2 (by lia);have e1:ev U (.sl (.var 0) (some (.cst (.int 2))) none) S h=.ok (.ref h.length) (h++[.lst (ys.map .int)]):=(Gn.Zi4 e (l:=some 2) (u:=none) rfl rfl).trans (osl h);have hp:∀ (z:Int) (h':Hd),ev U (.bin .Mod (.var 0) (.bin .Pow (.cst (.int 10)) (.cst (.int 20)))) [some (.int z)] h'=.ok (.int (z % 100000000000000000000)) h':=fun z h'=>by
   have p:opB .Pow (.int 10) (.int 20) h'=.ok (.int 100000000000000000000) h':=by
     show (if (0:Int)<=20/\(20:Int)<=1000000/\(10:Int).natAbs<2 ^ 64 then R.ok (D.int (10 ^ (20:Int).toNat)) h' else R.bad)=_;rw [if_pos (by decide)];rfl
   exact (Zo (x:=.int z) rfl ((Zo rfl rfl).trans p)).trans (ZU (by decide))
 have c:=Zac D.int (fun _=>true) (fun z=>D.int (z % 100000000000000000000)) (src:=[(h.length,ys.map .int)]) (g:=.nm 0) (tt:=tsto U none) (ee:=ev U (.bin .Mod (.var 0) (.bin .Pow (.cst (.int 10)) (.cst (.int 20))))) (S:=[none]) (ZdD (h:=h++[.lst (ys.map .int)]) Zcg) ys [] (fun z _=>⟨[some (.int z)],rfl,rfl,fun _=>hp z _⟩) (by simp;lia);rw [List.filter_eq_self.mpr (fun _ _=>rfl),OB] at c;refine ⟨_,_,(Zfb (Zb (Zfa (Zhk e1 Zcg) c) rfl) (Zrr Zcg (ZlQ _ ys))).trans (by rw [Oz])⟩
variable {x0 x1 x2 x3 x4 x5 x6 x7 x8 x9 x10 x12 x17:Option D}
noncomputable def vw(x0 x1 x2 x3 x4 x5 x6 x7 x8 x9 x10:Option D)(s:D)(x12:Option D)(m:Int)(a:D):Ev:=[x0,x1,x2,x3,x4,x5,x6,x7,x8,x9,x10,some s,x12,some (.int m),some a,none,none,none]
theorem ZnD (H:Gs P) (N:Nat) {M n:Nat}{t u:T} (s:Sn M n t u) (hM:M<=20000) (vu:Tm.isV u=true) (zu:u.size<=20000):∀ (G:List Gc) (q:Q) (k m:Nat) (h:Hd) (F:Nat),h[k]? = some (cl G)->Gq G q->q.no=0->q.er=t->G.length+4 * n<=60000->m+n<=600->n<F->∃ a h1,run P (N+8) (O "graph_step") [st k 0] h=.ok a h1/\∃ k' G' q' h2,ZO (tst (P.tbl (N+8)) Zds) (xs2 (P.tbl (N+8)) Zg8) F (vw x0 x1 x2 x3 x4 x5 x6 x7 x8 x9 x10 (st k 0) x12 (m:Int) a) h1=.ok (.nx,vw x0 x1 x2 x3 x4 x5 x6 x7 x8 x9 x10 (st k' 0) x12 ((m+n:Nat):Int) (.tup [.str (O "value")])) h2/\h2[k']? = some (cl G')/\q'.er=u/\q'.no=0/\Gq G' q'/\G'.length<=G.length+4 * n:=by
 induction s with
 | nil t =>
   intro G q k m h F hk gq qn qe lG lm lF;obtain ⟨F,rfl⟩:∃ F',F=F'+1:=⟨F - 1,by lia⟩
   rcases Zi9 H N hk gq (by rw [qe];exact zu) (by lia) with ⟨_,e⟩|⟨v,_⟩|⟨v,_⟩
   . rw [qn] at e;have tt:tst (P.tbl (N+8)) Zds (vw x0 x1 x2 x3 x4 x5 x6 x7 x8 x9 x10 (st k 0) x12 (m:Int) (.tup [.str (O "value")])) h=.ok false h:=ZoS (ZV (ZcZ (x:=O "value") rfl rfl) (by simp));exact ⟨_,_,e,k,G,q,h,Zef tt,hk,qe,qn,gq,by lia⟩
   . rw [qe,vu] at v;cases v
   . rw [qe,vu] at v;cases v
 | @cons t u n w s _ ih =>
   intro G q k m h F hk gq qn qe lG lm lF;obtain ⟨F,rfl⟩:∃ F',F=F'+1:=⟨F - 1,by lia⟩
   rcases Zi9 H N hk gq (by rw [qe];exact OE s.z hM) (by lia) with ⟨v,_⟩|⟨_,nn,_⟩|⟨_,k',h',G',q',e,fm,hk',_,nx,qn',gq',_,l2⟩
   . rw [qe,s.v] at v;cases v
   . rw [qe,s.n] at nn;cases nn
   . rw [qn] at e;rw [qe,s.n] at nx;rw [qe] at l2;have c4:=s.c;obtain ⟨a,h1,e1,k2,G2,q2,h2,ew,r⟩:=ih vu zu G' q' k' (m+1) h' F hk' gq' (qn'.trans qn) (Option.some.inj nx).symm (by lia) (by lia) (by lia);refine ⟨_,_,e,k2,G2,q2,h2,?_,r.1,r.2.1,r.2.2.1,r.2.2.2.1,by have:=r.2.2.2.2;lia⟩;have tt:tst (P.tbl (N+8)) Zds (vw x0 x1 x2 x3 x4 x5 x6 x7 x8 x9 x10 (st k 0) x12 (m:Int) (loud (st k' 0))) h'=.ok true h':=ZoR (ZV (ZcZ (x:=O "loud") rfl rfl) (by simp)) (ZV (Zt5 rfl rfl) (decide_eq_true (by lia)));rw [show ((m+(n+1):Nat):Int)=((m+1+n:Nat):Int) by lia];refine (Zch (ρ1:=vw x0 x1 x2 x3 x4 x5 x6 x7 x8 x9 x10 (st k' 0) x12 ((m+1:Nat):Int) a) tt ?_).trans ew;exact (Za (Zj (i:=11) (d:=st k' 0) rfl)).trans ((Za (Zj (i:=13) (d:=.int ((m+1:Nat):Int)) rfl)).trans ((Za (Zj (i:=14) (Zu e1 rfl))).trans rfl))
end K44L
end
section
namespace K44L
open PySem L2 IV Tm Grf
variable {P:Pg}{h:Hd}
noncomputable def v0(x0 x1 x2 x3 x4 x5 x6 x7 x8 x9 x10:Option D):Ev:=[x0,x1,x2,x3,x4,x5,x6,x7,x8,x9,x10,none,none,none,none,none,none,none]
variable {x0 x1 x2 x3 x4 x5 x6 x7 x8 x9 x10 x12 x17:Option D}
theorem ZlL(U:Tb)(hh x y:Str)(m:Int):∀ (ds:List D) (j:Nat) (x10:Option D),∃ y10,Z9 [] (.nm 10) (xs2 U Zg9) ds (v0 x0 x1 x2 x3 x4 x5 x6 x7 (some (Tw hh y).d) (some (Ek hh x y m j).d) x10) h=.ok (.nx,v0 x0 x1 x2 x3 x4 x5 x6 x7 (some (Tw hh y).d) (some (Ek hh x y m (j+ds.length)).d) y10) h
 | [],j,x10=>⟨x10,rfl⟩
 | d::ds,j,x10=>by
   obtain ⟨y10,e⟩:=ZlL U hh x y m ds (j+1) (some d);refine ⟨y10,(Ziu rfl ((Za (Zj (i:=9) (d:=(Ek hh x y m (j+1)).d) (ZaA (xs:=[.str (O "call"),(Tw hh y).d,(Ek hh x y m j).d]) rfl (by simp)))).trans rfl)).trans (e.trans ?_)⟩;rw [Os,Nat.add_right_comm,Nat.add_assoc]
theorem ZsQ(hh x y:Str)(m:Int):∀ j,(Ek hh x y m j).size=4+8 * j
 | 0=>by simp [Ek,F0,T.size,T.places]
 | j+1=>by
   have a:=zc (Tw hh y) (Ek hh x y m j);have b:(Tw hh y).size=7:=by simp [Tw,T.size,T.places]
   have ih:=ZsQ hh x y m j;show (T.call (Tw hh y) (Ek hh x y m j)).size=_
   lia
theorem ZsR(wh:Gn.Wl 20 hh)(wx:Gn.Wl 20 x)(wy:Gn.Wl 20 y)(hm:0<=m/\m<1000000):∀ j,Gn.Cl [] (Ek hh x y m j)
 | 0=>⟨⟨.head _,hm⟩,wx⟩
 | j+1=>⟨⟨⟨⟨.tail _ (.head _),.tail _ (.head _),.head _⟩,wy⟩,wh⟩,ZsR wh wx wy hm j⟩
theorem Zs6:∀ k:Nat,k<7->atI [D.int 1,.int 2,.int 4,.int 8,.int 16,.int 32,.int 64] (k:Int)=some (.int (2 ^ k))
 | 0,_=>rfl
 | 1,_=>rfl
 | 2,_=>rfl
 | 3,_=>rfl
 | 4,_=>rfl
 | 5,_=>rfl
 | 6,_=>rfl
 | k+7,h=>by lia
theorem p_2:∀ k:Nat,k<7->2 ^ k<=64
 | 0,_|1,_|2,_|3,_|4,_|5,_|6,_=>by decide
 | k+7,h=>by lia
theorem ZuD{U:Tb}{S:Ev}(p:ev U a S h=.ok (.bl true) h)(q:ev U b S h=.ok (.bl true) h)(r:ev U c S h=.ok d h):ev U (.ands (.cons a (.cons b (.cons c .nil)))) S h=.ok d h:=by
 rw [Zgu,Zcq,p,Zd];simp only;rw [Zcq,q,Zd];simp only;rw [Zkp,r]
theorem Zso (U:Tb) {G:List Gc}{q:Q}{k tn m:Nat}{z b mo:Int} (hk:h[k]? = some (cl G)) (gq:Gq G q) (qn:q.no=0) (qe:q.er=.num z) (ez:z=(b+mo * 2 ^ tn) % 1000000) (ht:tn<7) (hm:0<=mo/\mo<1000000) (hl:G.length<=f+4 * m) (hf:4<=f) (ef:f<=1000) (em:m<=600):∃ h',xs2 U (.cons Zfp (.cons ZhC (.cons ZhB .nil))) (vw x0 x1 x2 (some (.int (tn:Int))) (some (.int mo)) (some (.int b)) x6 x7 x8 x9 x10 (st k 0) (some (.int (f:Int))) (m:Int) (.tup [.str (O "value")])) h=.ok (.rt (.bl true),[x0,x1,x2,some (.int (tn:Int)),some (.int mo),some (.int b),x6,x7,x8,x9,x10,some (st k 0),some (.int (f:Int)),some (.int (m:Int)),some (.tup [.str (O "value")]),some (.ref k),some (nI 0),some (.int z)]) h':=by
 have lp:=p_2 tn ht;have p2:((2:Int) ^ tn).natAbs<=64:=by rw [Int.natAbs_pow];exact lp
 have mu:∀ h',opB .Mult (.int mo) (.int (2 ^ tn)) h'=.ok (.int (mo * 2 ^ tn)) h':=fun h'=>Zbx ⟨Gn.Zr (by lia) (by lia),Gn.Zr (by lia) (by lia)⟩;have q18:ev U (.bin .Mod (.bin .Add (.var 5) (.bin .Mult (.var 4) (.ix (.lstl (.cons (.cst (.int 1)) (.cons (.cst (.int 2)) (.cons (.cst (.int 4)) (.cons (.cst (.int 8)) (.cons (.cst (.int 16)) (.cons (.cst (.int 32)) (.cons (.cst (.int 64)) .nil)))))))) (.var 3)))) (.cst (.int 1000000))) [x0,x1,x2,some (.int (tn:Int)),some (.int mo),some (.int b),x6,x7,x8,x9,x10,some (st k 0),some (.int (f:Int)),some (.int (m:Int)),some (.tup [.str (O "value")]),some (.ref k),some (nI 0),none] h=.ok (.int z) (h++[.lst [D.int 1,.int 2,.int 4,.int 8,.int 16,.int 32,.int 64]]):=by
   rw [ez];exact (Zo ((Zo (x:=.int b) rfl ((Zo (x:=.int mo) rfl (ZsX (Zs6 tn ht) rfl rfl (by simp))).trans (mu _))).trans rfl) rfl).trans (ZU (by decide))
 have hk2:(h++[.lst [D.int 1,.int 2,.int 4,.int 8,.int 16,.int 32,.int 64]])[k]? = some (cl G):=keep hk;generalize h++[.lst [D.int 1,.int 2,.int 4,.int 8,.int 16,.int 32,.int 64]]=h2 at *;have c0:G[0]? = some (.num z):=by
   cases q with
   | num i y=>cases qe;cases qn;exact gq.ok
   | _=>cases qe
 have cz:Gn.Cl [] (T.num z):=by rw [<- qe];exact gq.cl
 obtain ⟨y,sh⟩:=Gn.Zry cz (show 1<=500 by decide) h2;have mu2:opB .Mult (.int (m:Int)) (.int (f:Int)) h2=.ok (.int ((m:Int) * f)) h2:=Zbx ⟨Gn.Zr (by lia) (by lia),Gn.Zr (by lia) (by lia)⟩;have le:(G.map Gc.d).length<=f+m * f:=by
   rw [List.length_map];have:=Nat.mul_le_mul_left m hf
   lia
 refine ⟨h2,(Za (show xs1 U Zfp _ h=.ok (.nx,_) h from rfl)).trans ((Za (Zj (i:=17) q18)).trans (Zc (Zs ?_)))⟩;have qA:ev U (.cmp .Eq (.var 14) (.tupl (.cons (.cst (.str (O "value"))) .nil))) [x0,x1,x2,some (.int (tn:Int)),some (.int mo),some (.int b),x6,x7,x8,x9,x10,some (st k 0),some (.int (f:Int)),some (.int (m:Int)),some (.tup [.str (O "value")]),some (.ref k),some (nI 0),some (.int z)] h2=.ok (.bl true) h2:=(Zy (x:=.tup [.str (O "value")]) rfl (ZaA (xs:=[.str (O "value")]) rfl (by simp))).trans (ZpQ.trans (by rw [decide_eq_true rfl]));have qB:ev U (.rpn false (.ix (.var 15) (.var 16)) (.tupl (.cons (.cst (.str (O "num"))) (.cons (.var 17) .nil)))) [x0,x1,x2,some (.int (tn:Int)),some (.int mo),some (.int b),x6,x7,x8,x9,x10,some (st k 0),some (.int (f:Int)),some (.int (m:Int)),some (.tup [.str (O "value")]),some (.ref k),some (nI 0),some (.int z)] h2=.ok (.bl true) h2:=by
   rw [Zqx,ZaZ (k:=k) (n:=0) rfl rfl hk2 c0,Zd,show (Gc.num z).d=(T.num z).d from rfl,sh,Zd,show ev U (.tupl (.cons (.cst (.str (O "num"))) (.cons (.var 17) .nil))) [x0,x1,x2,some (.int (tn:Int)),some (.int mo),some (.int b),x6,x7,x8,x9,x10,some (st k 0),some (.int (f:Int)),some (.int (m:Int)),some (.tup [.str (O "value")]),some (.ref k),some (nI 0),some (.int z)] h2=.ok (T.num z).d h2 from ZaA rfl (by simp),Zd,sh,Zd,decide_eq_true rfl];rfl
 have qC:ev U (.cmp .LtE (.blt .len (.cons (.var 15) .nil)) (.bin .Add (.var 12) (.bin .Mult (.var 13) (.var 12)))) [x0,x1,x2,some (.int (tn:Int)),some (.int mo),some (.int b),x6,x7,x8,x9,x10,some (st k 0),some (.int (f:Int)),some (.int (m:Int)),some (.tup [.str (O "value")]),some (.ref k),some (nI 0),some (.int z)] h2=.ok (.bl true) h2:=by
   refine (Zy (Zfb (Zb (x:=.ref k) rfl rfl) (ZlJ hk2)) ((Zo (x:=.int (f:Int)) rfl ((Zo (x:=.int (m:Int)) (y:=.int (f:Int)) rfl rfl).trans mu2)).trans rfl)).trans ?_;show R.ok (D.bl (decide (((G.map Gc.d).length:Int)<=(f:Int)+(m:Int) * f))) h2=_;rw [decide_eq_true (by rw [<- Int.natCast_mul,<- Int.natCast_add];exact Int.ofNat_le.mpr le)]
 exact ZuD qA qB qC
theorem ZrE (H:Lw P) (zs:List Int) (hz:zs.length<=63):∃ h',run P (100+1) (O "law") [.ro (zs.map .int)] []=.ok (.bl true) h':=by
 obtain ⟨c0,e0⟩:=Zk1 H.cell 99 zs 0 [];have e1:=Gn.ZeD H.m 99 c0 0 [] (by decide);obtain ⟨c1,e2⟩:=Zk1 H.cell 99 zs 1 [];have e3:=Gn.ZeD H.m 99 c1 1 [] (by decide);obtain ⟨ns,n5,nw,nd,e4⟩:=Gn.ZmP H.ns 99 (Gn.mixed c1 1) []
 match ns,n5 with
 | [hh,y,x,n3,n4],_ =>
 have wh:=nw hh (.head _);have wy:=nw y (.tail _ (.head _));have wx:=nw x (.tail _ (.tail _ (.head _)));have hy:hh≠y:=fun e=>(List.nodup_cons.mp nd).1 (e ▸ .head _);simp only [OB,List.length_nil] at e4;have p0:=Gn.Zkf c0 0;generalize Gn.mixed c0 0=nu at *;have t0:=Int.emod_nonneg nu (b:=7) (by decide);have t7:=Int.emod_lt_of_pos nu (b:=7) (by decide);obtain ⟨tn,et⟩:∃ tn:Nat,nu % 7=(tn:Int):=⟨(nu % 7).toNat,(Int.toNat_of_nonneg t0).symm⟩
 have m0:=Int.emod_nonneg (nu / 7) (b:=1000000) (by decide);have m7:=Int.emod_lt_of_pos (nu / 7) (b:=1000000) (by decide);have q3:∀ h:Hd,opB .Mod (.int nu) (.int 7) h=.ok (.int (tn:Int)) h:=fun h=>(ZU (by decide)).trans (by rw [et]);have q4:∀ h:Hd,opB .FloorDiv (.int nu) (.int 7) h=.ok (.int (nu / 7)) h:=fun h=>Zde (by decide);have q4':∀ h:Hd,opB .Mod (.int (nu / 7)) (.int 1000000) h=.ok (.int (nu / 7 % 1000000)) h:=fun h=>ZU (by decide);generalize nu / 7 % 1000000=mo at *;obtain ⟨h1,eh⟩:∃ h1:Hd,h1=[.lst ([hh,y,x,n3,n4].map D.str)]:=⟨_,rfl⟩
 rw [<- eh] at e4;obtain ⟨sv,g,e5⟩:=ZrC (h:=h1) (P.tbl 100) hz (S:=v0 (some (.ro (zs.map .int))) (some (.int nu)) (some (.ref 0)) (some (.int (tn:Int))) (some (.int mo)) none none none none none none) rfl;have e6:=Gn.ZeD H.m 99 sv 2 (h1++g) (by decide);have b0:=Int.emod_nonneg (Gn.mixed sv 2) (b:=1000000) (by decide);have b7:=Int.emod_lt_of_pos (Gn.mixed sv 2) (b:=1000000) (by decide);have q5:∀ h:Hd,opB .Mod (.int (Gn.mixed sv 2)) (.int 1000000) h=.ok (.int (Gn.mixed sv 2 % 1000000)) h:=fun h=>ZU (by decide);have l2:(h1++g)[0]? = some (.lst ([hh,y,x,n3,n4].map D.str)):=by rw [eh];rfl
 generalize h1++g=h2 at *;generalize Gn.mixed sv 2 % 1000000=be at *;have ct:Gn.Cl [] (T.call (Ek hh x y mo tn) (.num be)):=⟨ZsR wh wx wy ⟨m0,m7⟩ tn,b0,b7⟩
 have sz:(T.call (Ek hh x y mo tn) (.num be)).size=6+8 * tn:=by
   have a:=zc (Ek hh x y mo tn) (.num be);have b:=ZsQ hh x y mo tn;have c:(T.num be).size=1:=rfl
   lia
 obtain ⟨g2,k,G,q,e7,_,hk,gq,qn,qe,lG⟩:=ZqM H.s 97 (.call (Ek hh x y mo tn) (.num be)) ct (by lia) h2;generalize h2++g2=h3 at *;have lp:=p_2 tn (by lia);have big:=H.s.b.big;obtain ⟨y10,e8⟩:=ZlL (P.tbl 100) hh x y mo (Z6 0 tn) 0 none (h:=h2) (x0:=some (.ro (zs.map .int))) (x1:=some (.int nu)) (x2:=some (.ref 0)) (x3:=some (.int (tn:Int))) (x4:=some (.int mo)) (x5:=some (.int be)) (x6:=some (T.name hh).d) (x7:=some (T.name y).d);obtain ⟨a,h4,e9,k',G',q',h5,e10,hk',qe',qn',gq',lG'⟩:=ZnD H.s 92 (whole hy tn be (x:=x) (m:=mo)) (by lia) rfl (show 1<=20000 by decide) G q k 0 h3 P.L hk gq qn qe (by lia) (by lia) (by lia) (x0:=some (.ro (zs.map .int))) (x1:=some (.int nu)) (x2:=some (.ref 0)) (x3:=some (.int (tn:Int))) (x4:=some (.int mo)) (x5:=some (.int be)) (x6:=some (T.name hh).d) (x7:=some (T.name y).d) (x8:=some (Tw hh y).d) (x9:=some (T.call (Ek hh x y mo tn) (.num be)).d) (x10:=y10) (x12:=some (.int ((6+8 * tn:Nat):Int)));obtain ⟨h6,e11⟩:=Zso (P.tbl 100) hk' gq' qn' qe' (ZnS mo be tn) (by lia) ⟨m0,m7⟩ (f:=6+8 * tn) (by rw [<- sz,<- lG];exact lG') (by lia) (by lia) (by lia) (x0:=some (.ro (zs.map .int))) (x1:=some (.int nu)) (x2:=some (.ref 0)) (x6:=some (T.name hh).d) (x7:=some (T.name y).d) (x8:=some (Tw hh y).d) (x9:=some (T.call (Ek hh x y mo tn) (.num be)).d) (x10:=y10);refine ⟨h6,?_⟩;rw [Zl H.law (by rfl)];have i:∀ (j:Nat) (z:Str) (S:Ev),([hh,y,x,n3,n4].map D.str)[j]? = some (.str z)->ev (P.tbl 100) (.var 2) S h2=.ok (.ref 0) h2->ev (P.tbl 100) (.ix (.var 2) (.cst (.int (j:Int)))) S h2=.ok (.str z) h2:=fun j z S e p=>(ZX (y:=.int (j:Int)) p rfl).trans ((ZbT l2).trans (by rw [IV.ZdB,e];rfl));have nI2:ZaR (tn:Int)=true:=by simp [ZaR];lia
 rw [Nat.zero_add,show (Z6 0 tn).length=tn by simp [Z6]] at e8;have ei:evi (P.tbl 100) ZeZ (v0 (some (.ro (zs.map .int))) (some (.int nu)) (some (.ref 0)) (some (.int (tn:Int))) (some (.int mo)) (some (.int be)) (some (T.name hh).d) (some (T.name y).d) (some (Tw hh y).d) (some (Ek hh x y mo 0).d) none) h2=.ok ⟨[],Z6 0 tn⟩ h2:=by
   rw [ZeZ,ZnT,show ev (P.tbl 100) (.var 3) (v0 (some (.ro (zs.map .int))) (some (.int nu)) (some (.ref 0)) (some (.int (tn:Int))) (some (.int mo)) (some (.int be)) (some (T.name hh).d) (some (T.name y).d) (some (Tw hh y).d) (some (Ek hh x y mo 0).d) none) h2=.ok (.int (tn:Int)) h2 from rfl,Zd];simp only [nI2,if_true,Int.toNat_natCast]
 have w:xs2 (P.tbl 100) ZoO [some (.ro (zs.map .int)),none,none,none,none,none,none,none,none,none,none,none,none,none,none,none,none,none] []=.ok (.rt (.bl true),_) h6 :=
   (Za (Zj (i:=1) (Zu e1 (Zb (Zu e0 rfl) rfl)))).trans <|
   (Za (Zj (i:=2) (Zu e4 (Zb (Zu e3 (Zb (Zu e2 rfl) rfl)) rfl)))).trans <|
   (Za (Zj (i:=3) ((Zo (x:=.int nu) rfl rfl).trans (q3 h1)))).trans <|
   (Za (Zj (i:=4) ((Zo ((Zo (x:=.int nu) rfl rfl).trans (q4 h1)) rfl).trans (q4' h1)))).trans <|
   (Za (Zj (i:=5) ((Zo (Zu e6 (Zb e5 rfl)) rfl).trans (q5 h2)))).trans <|
   (Za (Zj (i:=6) (d:=(T.name hh).d) (ZaA (Zb rfl (Zb (i 0 hh _ rfl rfl) rfl)) (by simp)))).trans <|
   (Za (Zj (i:=7) (d:=(T.name y).d) (ZaA (Zb rfl (Zb (i 1 y _ rfl rfl) rfl)) (by simp)))).trans <|
   (Za (Zj (i:=8) (d:=(Tw hh y).d) (ZaA (Zb rfl (Zb (i 0 hh _ rfl rfl) (Zb (ZaA (Zb rfl (Zb (i 1 y _ rfl rfl) (Zb (ZaA (Zb rfl (Zb (x:=(T.name hh).d) rfl (Zb (ZaA (Zb rfl (Zb (x:=(T.name hh).d) rfl (Zb (x:=(T.name y).d) rfl rfl))) (by simp)) rfl))) (by simp)) rfl))) (by simp)) rfl))) (by simp)))).trans <|
   (Za (Zj (i:=9) (d:=(F0 x mo).d) (ZaA (Zb rfl (Zb (i 2 x _ rfl rfl) (Zb (ZaA (Zb rfl (Zb (ZaA (Zb rfl (Zb (i 2 x _ rfl rfl) rfl)) (by simp)) (Zb (ZaA (Zb rfl (Zb (x:=.int mo) rfl rfl)) (by simp)) rfl))) (by simp)) rfl))) (by simp)))).trans <|
   (Za ((Zgq ei).trans e8)).trans <|
   (Za (Zj (i:=9) (d:=(T.call (Ek hh x y mo tn) (.num be)).d) (ZaA (Zb rfl (Zb (x:=(Ek hh x y mo tn).d) rfl (Zb (ZaA (Zb rfl (Zb (x:=.int be) rfl rfl)) (by simp)) rfl))) (by simp)))).trans <|
   (Za (Zj (i:=11) (Zu e7 rfl))).trans <|
   (Za (Zj (i:=12) (d:=.int ((6+8 * tn:Nat):Int)) (Zfb (Zb (x:=.ref k) rfl rfl) ((ZlJ hk).trans (by rw [List.length_map,lG,sz]))))).trans <|
   (Za (Zj (i:=13) (d:=.int ((0:Nat):Int)) rfl)).trans <|
   (Za (Zj (i:=14) (Zu e9 rfl))).trans <|
   (Za (s:=ZhD) (Zee.trans e10)).trans (by rw [Nat.zero_add];exact e11)
 exact congrArg Zh w
end K44L
end
section
set_option maxHeartbeats 4000000
namespace K44
open PySem L2 IV PyProof.Rows
noncomputable def ZS:Fd:=⟨[(O "_law_cell"),(O "_law_k")],[(O "_law_cell"),(O "_law_k"),(O "_law_big"),(O "_law_number")],Gn.Zb8⟩
noncomputable def ZR:Fd:=⟨[(O "_law_number")],[(O "_law_number"),(O "_law_letters"),(O "_law_long"),(O "_law_place"),(O "_law_rest"),(O "_law_base"),(O "_law_k"),(O "_law_found"),(O "_law_sign"),(O "_law_word")],Gn.Zb7⟩
noncomputable def cG:List (Str×D):=[((O "VALUES"),(.tup [(.str (O "num")),(.str (O "fn")),(.str (O "rec"))])),((O "BEYOND"),(.int 1000000)),((O "FORMS"),.kd (O "FORMS"))]
noncomputable def cD:List (Str×List (Key×D)):=[((O "FORMS"),[(.inr (O "fn"),(.tup [(.int 1),(.int 1)])),(.inr (O "rec"),(.tup [(.int 2),(.int 1)])),(.inr (O "call"),(.tup [(.int 0),(.int 2)])),(.inr (O "if"),(.tup [(.int 0),(.int 3)])),(.inr (O "+"),(.tup [(.int 0),(.int 2)])),(.inr (O "-"),(.tup [(.int 0),(.int 2)])),(.inr (O "*"),(.tup [(.int 0),(.int 2)])),(.inr (O "<"),(.tup [(.int 0),(.int 2)]))])]
noncomputable def dl:List (Str×Fd×Nat):=[((O "bound_names"),Tm.ZcO,2),((O "parts_of"),Gn.Ze4,3),((O "front_of"),Tm.Ze7,4),((O "places"),Gn.Zdm,5),((O "is_value"),Tm.Ze5,9),((O "parts_first"),Tm.ZcM,10),((O "chosen"),Tm.Ze8,11),((O "worked"),Tm.Zdl,12),((O "graph_begun"),Grf.ZcN,14),((O "first_open"),Grf.Zdo,15),((O "next_cell"),Grf.ZdY,16),((O "beneath"),Grf.ZfY,17),((O "is_meant"),Grf.Ze6,18),((O "free_beneath"),Grf.Zb3,19),((O "called"),Grf.Zhj,21),((O "gone_on"),Grf.ZfX,22),((O "written"),Grf.ZfW,23),((O "graph_step"),Grf.Zdn,24),((O "_law_cell_at"),Gn.Z0,26),((O "_law_mixed"),ZS,27),((O "_law_names"),ZR,28),((O "law"),K44L.Zhi,29)]
noncomputable def tb:List (Str×Fd):=dl.map fun p=>(p.1,p.2.1)
noncomputable def mo1:List Ml:=[((O "stand_in"),(O "Copier.stand_in"),Grf.Zbe,20,1),((O "write_next"),(O "Copier.write_next"),Grf.ZaF,20,2),((O "copied"),(O "Copier.copied"),Grf.ZbM,20,3)]
noncomputable def ms:List (Str×Fd):=[(mnm (O "Copier") (O "__init__"),Grf.Zaj)]++mo1.map (fun p=>(mnm (O "Copier") p.1,p.2.2.1))
noncomputable def pg:Pg:=⟨tb,fun x=>cG.lookup x,fun x=>cD.lookup x,1000000,ms⟩
noncomputable def kl:Kl:=⟨[(O "Copier")],[(O "cells"),(O "free"),(O "known"),(O "meant"),(O "waiting")],mo1.map (fun p=>((O "Copier"),p.1)),[(O "Copier")],[],[],[]⟩
noncomputable abbrev Zhi:Fd:=K44L.Zhi
noncomputable def top(i:Nat):Stmt:=PySem.Challenge.pw_samestride_k44_graph_shares.main.body.getD i (.Pass ⟨0,0,0,0⟩)
noncomputable def mt(i j:Nat):Stmt:=inClass (top i) j
noncomputable def fs:List Str:=tb.map (·.1)
local macro_rules|`(tactic| wtm_at "al")=>`(tactic| repeat' first|exact trivial|refine' And.intro ?_ ?_)
local macro_rules|`(tactic| wtm_at "chk")=>`(tactic| exact ⟨by constructor<;>decide +kernel,fun _ _ _ _ _ _ us hl=>by
   first
   | (have e:=Zrb (show us.length=0 from hl);subst e;rfl)
   | (obtain ⟨a0,e⟩:=Zra (show us.length=1 from hl);subst e;rfl)
   | (obtain ⟨a0,a1,e⟩:=Zq9 (show us.length=2 from hl);subst e;rfl)
   | (obtain ⟨a0,a1,a2,e⟩:=Zq8 (show us.length=3 from hl);subst e;rfl)
   | (obtain ⟨a0,a1,a2,a3,e⟩:=Ztp (show us.length=4 from hl);subst e;rfl)
   | (obtain ⟨a0,a1,a2,a3,a4,e⟩:=us_5 (show us.length=5 from hl);subst e;rfl)
   | (obtain ⟨a0,a1,a2,a3,a4,a5,e⟩:=us_6 (show us.length=6 from hl);subst e;rfl)
   | (obtain ⟨a0,a1,a2,a3,a4,a5,a6,e⟩:=us_7 (show us.length=7 from hl);subst e;rfl),by decide +kernel⟩)
theorem kd:All (fun p:Str×Fd×Nat=>Chk kl fs p.1 p.1 p.2.1 (top p.2.2)) dl:=by
 wtm_at "al"
 all_goals wtm_at "chk"
theorem km1:All (fun p:Ml=>Chk kl fs p.1 p.2.1 p.2.2.1 (mt p.2.2.2.1 p.2.2.2.2)) mo1:=by
 wtm_at "al"
 all_goals wtm_at "chk"
theorem kk1:All (fun p:Ml=>pg.look (mnm (O "Copier") p.1)=some p.2.2.1) mo1:=by
 wtm_at "al"
 all_goals kernel_rfl
theorem ki1:Chk kl fs (O "__init__") (O "Copier.__init__") Grf.Zaj (mt 20 0):=by wtm_at "chk"
end K44
end
section
namespace K44
open PySem L2 IV
theorem Zqa:pg.tb.lookup (O "law")=some Zhi:=by kernel_rfl
theorem tre:Gn.Tre pg:=by
 constructor
 all_goals (first|kernel_rfl|decide)
theorem gs:Grf.Gs pg:=by
 constructor
 case b=>exact ⟨tre,by kernel_rfl,by kernel_rfl⟩
 all_goals kernel_rfl
theorem lw:K44L.Lw pg:=⟨gs,⟨ZS.ps,ZS.N,rfl,rfl,by kernel_rfl⟩,⟨ZR.ps,ZR.N,rfl,rfl,by kernel_rfl⟩,by kernel_rfl,by kernel_rfl⟩
theorem runs:∀ ns:List Int,ns.length<=63->∃ h',run pg (100+1) (O "law") [.ro (ns.map .int)] []=.ok (.bl true) h':=fun ns hl=>K44L.ZrE lw ns hl
end K44
end
section
set_option maxHeartbeats 4000000
namespace K44
open PySem L2 IV PyProof.Rows
theorem tp2 {K:PySem.W.Frag} (h:K.lookup a=some ⟨.type "tuple",od,.seq #[.int x t,.int y u] n,sl⟩):RD ⟨K,mg⟩ H B (.tup [.int x,.int y]) (.ref a):=.tup (Zow (vs:=[.int x,.int y]) h (by show 2<=sizeLine;decide) (.cons ZeC (.cons ZeC .nil))) (.cons (.int _) (.cons (.int _) .nil))
theorem md{Pr:Program}{w:World}{K:PySem.W.Frag}{h:Heap}{mg:Str->Option Value}(X:K.In h)(G:h.Ns mainGlobals mg)
   (tb0:Zet K=true)
   (dd:All (fun p:Str×Fd×Nat=>ZqY K p.1 (top p.2.2)) dl)
   (y1a:PySem.W.nsIn K mainGlobals (O "Copier")=some (some (.ref ca1))) (y1b:Cls K ca1)
   (n1:All (fun f=>PySem.W.findIn K (.ref ca1) f=some none) kl.ats)
   (y1m:PySem.W.makesIn K ca1=true) (y1k:PySem.W.keepIn K (.ref ca1)=true)
   (i1:Zmu K ca1 (O "__init__") (O "Copier.__init__") (mt 20 0))
   (u1:All (fun p:Ml=>Zmu K ca1 p.1 p.2.1 (mt p.2.2.2.1 p.2.2.2.2)) mo1)
   (zz:All (fun x:Str=>PySem.W.nsIn K mainGlobals x=some none) ZjO)
   (h105:K.lookup q101=some ⟨.type "tuple",r102,.seq #[.str (O "num") t106,.str (O "fn") t107,.str (O "rec") t108] n103,v104⟩)
   (g109:PySem.W.nsIn K mainGlobals (O "VALUES")=some (some (.ref q101)))
   (g111:PySem.W.nsIn K mainGlobals (O "BEYOND")=some (some (.int 1000000 t110)))
   (h123:K.lookup q119=some ⟨.type "tuple",r120,.seq #[.int 1 t124,.int 1 t125] n121,v122⟩)
   (h132:K.lookup q128=some ⟨.type "tuple",r129,.seq #[.int 2 t133,.int 1 t134] n130,v131⟩)
   (h141:K.lookup q137=some ⟨.type "tuple",r138,.seq #[.int 0 t142,.int 2 t143] n139,v140⟩)
   (h150:K.lookup q146=some ⟨.type "tuple",r147,.seq #[.int 0 t151,.int 3 t152] n148,v149⟩)
   (h159:K.lookup q155=some ⟨.type "tuple",r156,.seq #[.int 0 t160,.int 2 t161] n157,v158⟩)
   (h168:K.lookup q164=some ⟨.type "tuple",r165,.seq #[.int 0 t169,.int 2 t170] n166,v167⟩)
   (h177:K.lookup q173=some ⟨.type "tuple",r174,.seq #[.int 0 t178,.int 2 t179] n175,v176⟩)
   (h186:K.lookup q182=some ⟨.type "tuple",r183,.seq #[.int 0 t187,.int 2 t188] n184,v185⟩)
   (g114:PySem.W.nsIn K mainGlobals (O "FORMS")=some (some (.ref q112)))
   (h115:K.lookup q112=some ⟨.type "dict",none,.dict #[⟨j117,.str (O "fn") t118,.ref q119⟩,⟨j126,.str (O "rec") t127,.ref q128⟩,⟨j135,.str (O "call") t136,.ref q137⟩,⟨j144,.str (O "if") t145,.ref q146⟩,⟨j153,.str (O "+") t154,.ref q155⟩,⟨j162,.str (O "-") t163,.ref q164⟩,⟨j171,.str (O "*") t172,.ref q173⟩,⟨j180,.str (O "<") t181,.ref q182⟩] e113,#[]⟩)
   (x189:j117=hashStr w (O "fn"))
   (x190:j126=hashStr w (O "rec"))
   (x191:j135=hashStr w (O "call"))
   (x192:j144=hashStr w (O "if"))
   (x193:j153=hashStr w (O "+"))
   (x194:j162=hashStr w (O "-"))
   (x195:j171=hashStr w (O "*"))
   (x196:j180=hashStr w (O "<"))
   (w116:(q112==sysModules)=false):Md Pr w K mg pg kl:=by
 have D_FORMS:∃ a kvs',mg (O "FORMS")=some (.ref a)/\DkK Pr w K a kvs'/\∀ H B,RKs ⟨K,mg⟩ H B (cD.lookup (O "FORMS") |>.getD []) kvs':=by
   refine ⟨q112,[(Sum.inr (O "fn"),(.ref q119)),(Sum.inr (O "rec"),(.ref q128)),(Sum.inr (O "call"),(.ref q137)),(Sum.inr (O "if"),(.ref q146)),(Sum.inr (O "+"),(.ref q155)),(Sum.inr (O "-"),(.ref q164)),(Sum.inr (O "*"),(.ref q173)),(Sum.inr (O "<"),(.ref q182))],PySem.W.mg_of X G g114,⟨_,_,_,[(Sum.inr (O "fn"),.ref q119),(Sum.inr (O "rec"),.ref q128),(Sum.inr (O "call"),.ref q137),(Sum.inr (O "if"),.ref q146),(Sum.inr (O "+"),.ref q155),(Sum.inr (O "-"),.ref q164),(Sum.inr (O "*"),.ref q173),(Sum.inr (O "<"),.ref q182)],h115,⟨rfl,rfl,rfl⟩,rfl,?_,(.cons (Zn _ t118) rfl (.cons (Zn _ t127) rfl (.cons (Zn _ t136) rfl (.cons (Zn _ t145) rfl (.cons (Zn _ t154) rfl (.cons (Zn _ t163) rfl (.cons (Zn _ t172) rfl (.cons (Zn _ t181) rfl .nil)))))))),(by show ([Sum.inr (O "fn"),Sum.inr (O "rec"),Sum.inr (O "call"),Sum.inr (O "if"),Sum.inr (O "+"),Sum.inr (O "-"),Sum.inr (O "*"),Sum.inr (O "<")]:List Key).Nodup;decide +kernel),(.cons ⟨rfl,Zaf⟩ (.cons ⟨rfl,Zaf⟩ (.cons ⟨rfl,Zaf⟩ (.cons ⟨rfl,Zaf⟩ (.cons ⟨rfl,Zaf⟩ (.cons ⟨rfl,Zaf⟩ (.cons ⟨rfl,Zaf⟩ (.cons ⟨rfl,Zaf⟩ .nil)))))))),(by show 8<=sizeLine;decide),w116⟩,fun _ _=>(.cons (tp2 h123) (.cons (tp2 h132) (.cons (tp2 h141) (.cons (tp2 h150) (.cons (tp2 h159) (.cons (tp2 h168) (.cons (tp2 h177) (.cons (tp2 h186) .nil))))))))⟩;exact (by
       intro e he;simp only [List.mem_toArray,O2,List.not_mem_nil,or_false] at he;rcases he with rfl|rfl|rfl|rfl|rfl|rfl|rfl|rfl
       . exact ⟨Sum.inr (O "fn"),Zn (O "fn") t118,x189⟩
       . exact ⟨Sum.inr (O "rec"),Zn (O "rec") t127,x190⟩
       . exact ⟨Sum.inr (O "call"),Zn (O "call") t136,x191⟩
       . exact ⟨Sum.inr (O "if"),Zn (O "if") t145,x192⟩
       . exact ⟨Sum.inr (O "+"),Zn (O "+") t154,x193⟩
       . exact ⟨Sum.inr (O "-"),Zn (O "-") t163,x194⟩
       . exact ⟨Sum.inr (O "*"),Zn (O "*") t172,x195⟩
       . exact ⟨Sum.inr (O "<"),Zn (O "<") t181,x196⟩
     )
 refine ⟨tb0,fun x kvs hx=>?_,fun x d hx=>?_,?_,fun x fd hx=>?_,?_,?_,?_,?_,?_,?_⟩
 . have hm:(x,kvs)∈cD:=lookup_mem hx;have e:(x,kvs)=((O "FORMS"),(cD.lookup (O "FORMS") |>.getD [])):=by
     simp only [cD,O2,List.not_mem_nil,or_false] at hm;exact hm
   cases e;exact D_FORMS
 . have hm:(x,d)∈cG:=lookup_mem hx;have all:All (fun p:Str×D=>∃ v u,mg p.1=some u/\RelV v u/\∀ H B,RD ⟨K,mg⟩ H B p.2 v) cG:=⟨⟨(.ref q101),_,PySem.W.mg_of X G g109,Zaf,fun _ _=>(.tup (Zow (vs:=[(.str (O "num")),(.str (O "fn")),(.str (O "rec"))]) h105 (by show 3<=sizeLine;decide) (.cons ZeB (.cons ZeB (.cons ZeB .nil)))) (.cons (.str _ (by decide +kernel)) (.cons (.str _ (by decide +kernel)) (.cons (.str _ (by decide +kernel)) .nil))))⟩,⟨(.int 1000000),_,PySem.W.mg_of X G g111,ZeC,fun _ _=>(.int _)⟩,⟨.ref q112,_,PySem.W.mg_of X G g114,rfl,fun _ _=>.kd (PySem.W.mg_of X G g114)⟩,trivial⟩;exact all.mem _ hm
 . exact (Zg0 X G zz).mem
 . exact (ZjF X G dd kd).mem _ (lookup_mem hx)
 . have all:All (fun C=>∃ a,mg C=some (.ref a)/\Cls K a/\∀ f∈kl.ats,Za7 K a f) kl.cs:=⟨⟨ca1,PySem.W.mg_of X G y1a,y1b,n1.mem⟩,trivial⟩
   exact all.mem
 . exact (show All _ kl.ms from (Zjn X G y1a y1b u1 km1 kk1)).mem
 . have all:All (fun C:Str=>∃ a f fdd fd st q,mg C=some (.ref a)/\Mk K a f/\pg.look (mnm C (O "__init__"))=some fd/\BodyOk K kl (pg.tb.map (·.1)) (O "__init__") q fd st f fdd) kl.is:=⟨ZpX X G y1a y1m y1k i1 ki1 (by kernel_rfl),trivial⟩
   exact all.mem
 . have all:All (fun C:Str=>∃ a,mg C=some (.ref a)/\XOk K a) kl.xs:=trivial;exact all.mem
 . have all:All (fun p:Str×Str=>∃ a b,mg p.1=some (.ref a)/\mg p.2=some (.ref b)/\XAs K a b) kl.xa:=trivial;exact all.mem
 . have all:All (fun p:Str×Str×Bool=>∃ b v,mg p.1=some (.ref b)/\L2.ClV mg p.2.1 v/\PySem.W.kitOne K (.ref b) v=some p.2.2) kl.xi:=trivial;exact all.mem
end K44
end
section
set_option maxHeartbeats 4000000
open PySem PySem.W PyProof.Rows
local macro_rules|`(tactic| wtm_at "al")=>`(tactic| repeat' first|exact trivial|refine' And.intro ?_ ?_)
local macro_rules|`(tactic| wtm_at "dg")=>`(tactic| (refine' ⟨_,_,?na,L2.ZlW ?l ?c ?k⟩;(case na=>k_is);(case l=>k_is);(case c=>k_is);(case k=>k_is)))
local macro_rules|`(tactic| wtm_at "mg")=>`(tactic| (refine' ⟨_,_,?na,?f,?k,L2.ZlW ?l ?c ?kk⟩;(case na=>k_is);(case f=>k_is);(case l=>k_is);(case c=>k_is);(case k=>k_is);(case kk=>k_is)))
set_option maxRecDepth 100000 in
set_option maxHeartbeats 0 in
theorem PySem.Challenge.cw_samestride_k44_graph_shares_holds : PySem.Challenge.rw_samestride_k44_graph_shares.Holds := by
 refine K44hd ?_
 k_fill
 refine IV.Zq7 (l:=PySem.Challenge.rw_samestride_k44_graph_shares) (P:=K44.pg) 100 rfl rfl rfl ⟨rfl,by decide,by decide,rfl⟩ (kl:=K44.kl) (fun w h Y=>PySem.W.kIn_of Y) K44.Zqa rfl K44.runs ?MM0
 case MM0 =>
   intro w mg h KX G;refine' K44.md KX G ?tb0 ?dd ?y1a ?y1b ?n1 ?y1m ?y1k ?i1 ?u1 ?zz ?h105 ?g109 ?g111 ?h123 ?h132 ?h141 ?h150 ?h159 ?h168 ?h177 ?h186 ?g114 ?h115 ?x189 ?x190 ?x191 ?x192 ?x193 ?x194 ?x195 ?x196 ?w116
   (case tb0=>(first|k_is|kernel_rfl|decide +kernel))
   (case y1a=>k_is)
   (case y1b=>(refine ⟨?_,?_,?_,?_⟩<;>k_is))
   (case n1=>(wtm_at "al";all_goals (dsimp only;k_is)))
   (case y1m=>k_is)
   (case y1k=>k_is)
   (case i1=>wtm_at "mg")
   (case u1=>(wtm_at "al";all_goals wtm_at "mg"))
   (case dd=>(wtm_at "al";all_goals wtm_at "dg"))
   (case zz=>(wtm_at "al";all_goals (dsimp only;k_is)))
   (case g109=>k_is)
   (case h105=>k_is)
   (case g111=>k_is)
   (case g114=>k_is)
   (case h115=>k_is)
   (case h123=>k_is)
   (case h132=>k_is)
   (case h141=>k_is)
   (case h150=>k_is)
   (case h159=>k_is)
   (case h168=>k_is)
   (case h177=>k_is)
   (case h186=>k_is)
   (case x189=>(first|rfl|k_is|fail))
   (case x190=>(first|rfl|k_is|fail))
   (case x191=>(first|rfl|k_is|fail))
   (case x192=>(first|rfl|k_is|fail))
   (case x193=>(first|rfl|k_is|fail))
   (case x194=>(first|rfl|k_is|fail))
   (case x195=>(first|rfl|k_is|fail))
   (case x196=>(first|rfl|k_is|fail))
   (case w116=>rfl)
end
