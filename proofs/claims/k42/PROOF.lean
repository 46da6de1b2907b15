import PyProof.Rows.All
import Wide.All
import OpenK.AllK
import Wide.FinOn
import PyProof.EqAt
import PyProof.EqKinds
import PyProof.TupleCall
import Lean
import PySem.Challenge.RW_samestride_k42_graph_one_cell_anew
noncomputable section
set_option Elab.async false
set_option linter.all false
set_option maxRecDepth 100000
open PySem renaming wpAny_bind->Ya,Shared->Yb,wpAny_pure->Yc,mainGlobals->Yd,sysModules->Ye,wpAny_mono->Yf,World->Yg,Program->Yh,Addr->Yi,Value->Yj,wpAny_newObj_type->Yq,starEach->Yz,wpAny->YA,sizeLine_eq->YB,Heap->YF,Around->YG,mem_of_lookup->YH,compareOp->YL,wpAny_field->YQ,backTo->YR,wpAny_Call_Name_kw->YW,wpAny_callSpecial?_slot->YX,wpAny_holding->Wa,wpAny_call_entry->Wb,wpAny_of_eq->Wg
open PySem.W renaming Frag->Yk,nsIn->Yl,findIn->YI,mg_of->YN,emptyDict->YS,subIn->YU,keepIn->YZ,instObj->Wc
open PySem.Heap renaming lt_size->Ym,get?_update_other->YM,get?_update_self->YV,get?_push_of_some->Od,get?_push_size->Oj
open PySem.NameKind renaming free->Yn
open PySem.PyData renaming strOk->Yo,eqv->YO
open PySem.StrLaws renaming sliceText->Yp
open List renaming mem_append_left->Yr,append_nil->Ys,length_map->Yt,replicate->YJ,any_cons->YY,lookup->We,foldl_cons->Wi,find?_cons->Wj,getElem?_eq_some_iff->Ob,getElem?_set_ne->Oc,getElem?_append_left->Oe,size_toArray->Of,getElem?_eq_getElem->Og,mem_cons_of_mem->Oh,mem_cons_self->Oi,mem_of_getElem?->O1,getElem?_set_self->Ol,getElem?_append_right->Om,getElem?_map->On,map_cons->Op,mem_cons->O2,length_cons->Os,mem_append_right->Ov,mem_singleton->Ox,map_nil->Oy,append_assoc->Oz,length_append->OA,nil_append->OB,all_eq_true->OC,mem_append->OD,lookup_cons->OF,sum_cons->OI,getElem?_cons_zero->OJ,getElem?_cons_succ->O0
open Option renaming map_some->Yu,bind_some->Yy,some->Wn,none->Wo,map_eq_some_iff->Oo
open Nat renaming lt_irrefl->Yv,zero_le->Yw,le_refl->Oq,lt_of_lt_of_le->Ot,ne_of_lt->Ou,le_trans->OE,lt_succ_self->OH
open PySem.Value renaming ref->YC
open Sum renaming inr->YD
open Option.some renaming inj->YE
open Ne renaming symm->YK
open PySem.F renaming plain_max_loop->YT
open PyProof.Rows renaming slot_tuple_getitem->Wf
open PySem.Builtin.List renaming listTooLong->Wh
open Bool renaming or_eq_true->Wm,true->Wp,false->Wq,and_eq_true->Oa,false_ne_true->Ow,false_eq_true->OG
open Decidable renaming decide->Wt
open PySem.Str renaming ofString->O
set_option genSizeOf false
section
open PySem PySem.W PyProof.Rows
set_option maxHeartbeats 0
structure PySem.W.Fast:Prop where(tw6660835323252954806 tw15156879820912180640 tw4855757804446693626 tw10678645982368828419 tw10368427590929619685 tw267231153073908383 tw2978227624911739996 tw3926235818565471619 tw8225434921354715764 tw7191312134720325123 tw14755822670639676510 tw16028786360083280075 tw3016151086096830312 tw7067099400470284845 tw3709044675804148795 tw13886823623131044833 tw16087242549370748603 tw15195696268576175702 tw4618617854335905136 tw9309212209617501225 tw3461449623929792429 tw17363548329405225538 tw10334468156404931373 tw6137109593175420936 tw8630189627421745640 tw13215561034485082392 tw9504895048946202597 tw2849819116747855577 tw16246480436298654226 tw7969360498869569027 tw9720838329757803934 tw5004677722106420321 tw17846854272812287936 tw12140715756907139233 tw868156752486056314 tw4667441705485095625 tw4053508853431077329 tw3055654854932621340 tw17048744716929316863 tw2072499132763608890 tw17641480850058138844 tw3584568114001378274 tw1503527212768057600 tw13906031747766788158 tw13276028376254919510 tw14166484578909050989 tw11897047746916592207 tw5620752785957093917 tw16077578561006133927 tw10913629761252523544 tw13230945671882164886 tw14055296231631080090 tw8154139560166501382 tw4594815665206963934 tw4177375323748234196 tw9713196891820042340 tw5738189663917886754 tw11962914103104828289 tw7960801879478881190 tw10888148160922536195 tw9210839951835229207 tw5237798196907383236 tw14365510100495880276 tw1126327117032565131 tw13732855972759107490 tw11371929044014539477 tw11819842730030461909 tw11653458866689551377 tw15750419125319106101 tw17619533019646938798 tw3867852965225297347 tw12607342678375544210 tw3572878314155120513 tw5661842254186921378 tw4607866610755850652 tw5348104040995852789 tw584684010803060523 tw6708300096099883296 tw12193767829838054385 tw6840522421160900373 tw17812227003164937924 tw6993759147614253843 tw11395702237671320490 tw9232012999508802586 tw9127848077556529369 tw449266105132387273 tw10030505893542947707 tw5462366834559522173 tw8440592174752481414 tw2467825213145059619 tw10037270589356388616 tw5110115085868154280 tw4252287322796002519 tw12184285737588991308 tw17499345519201646177 tw9432088711022144864 tw7304658207926002462 tw2089780938221989639 tw4946517261489565708 tw4712268508914885632 tw17729801681626579495 tw435271169403764474 tw17279225115098852048 tw9038472590163899043 tw11838205163390552128 tw1024457874554177362 tw638804296439279838 tw15330492146428610893 tw9362101624770693327 tw2471336084362310095 tw6028406009688980981 tw8080077028672028130 tw15574217338620923185 tw13022555796284669107 tw9845575023496746523 tw13829082702730156171 tw2095617143272292220 tw2633476830405754510 tw5052622429920350269 tw5399081471790362036 tw7681777711319890547 tw3125762897089366632 tw3645182164067035972 tw17551697674804589299 tw1913660346682955472 tw8459061297462349244 tw995117553498162150 tw11957456239281322371 tw15618168314993192087 tw2045724691393581891 tw576071694004118962 tw6860161783061217368 tw5548798491835182124 tw9416358486306507947 tw2197964700989410558 tw10976694797242246105 tw4935395097351955160 tw8772683731449315885 tw15734203261072275263 tw4991564322490904709 tw7351925157975267037 tw11475740250543008725 tw13909299318497344649 tw9057481763153402900 tw17326171908928280339 tw10850212827220447886 tw13711759160833953220 tw18200628696699940602 tw7697239627901611771 tw7192759022263703901 tw11878073183865536500 tw14075656897907972779 tw10421069391297887287:True)
open_top K42hd for PySem.Challenge.rw_samestride_k42_graph_one_cell_anew
end
namespace L2
open PySem PySem.Spec PyProof.Rows
noncomputable abbrev NK:=Int×List Str
section
variable {prog:Yh}{w:Yg}{A:YG}{E:Yj->Yb->Prop}{s:Yb}
def Zd7(prog:Yh)(w:Yg)(h:YF)(k:NK)(a:Yi):Prop:=∃o t b m,h.get? a=Wn o/\o.cls=.type "tuple" /\ o.data=.seq #[.int k.1 t,.ref b] m/\IsTupleKey (PySem.strKind prog w) h k.2 b
def Zd7.typeIs{k:NK}(x:Zd7 prog w s.heap k a):s.TypeIs (.ref a) "tuple" := let ⟨o,_,_,_,ho,hc,_⟩:=x;⟨o,ho,hc⟩
theorem Zd7.inj{h:YF}{x y:NK}(hx:Zd7 prog w h x a)(hy:Zd7 prog w h y a):x=y:=by obtain⟨o,t,b,m,ho,_,hd,hi⟩:=hx;obtain⟨o',t',b',m',ho',_,hd',hi'⟩:=hy;obtain rfl:o=o':=YE (ho.symm.trans ho');rw[hd]at hd';injection hd' with h1 _;have h1:=congrArg Array.toList h1;simp at h1;obtain⟨⟨h2,_⟩,rfl⟩:=h1;exact Prod.ext h2 (hi.inj hi')
theorem Zd7.keeps{h h':YF}{k:NK}{a d:Yi}{o:Obj}{es ep}(x:Zd7 prog w h k a)(ho:h.get? d=Wn o)(hd:o.data=.dict es ep)(hs:Heap.SameBut d h h'):Zd7 prog w h' k a:=by
 obtain⟨o',t,b,m,ho',hc,hd',hi⟩:=x;have hne:a≠d:=by rintro rfl;obtain rfl:o'=o:=YE (ho'.symm.trans ho);rw[hd]at hd';exact nomatch hd'
 exact⟨o',t,b,m,(hs.2 a hne).trans ho',hc,hd',hi.keeps ho hd hs⟩
noncomputable def ZkO(w:Yg)(k:NK):Int:=reduceHash (Builtin.Tuple.tupleHashOf [hashInt k.1,reduceHash (Builtin.Tuple.tupleHashOf (k.2.map (hashStr w)))])
def Zrs{k:NK}{a:Yi}{Q:Int->Yb->Prop}(hu:A.units+1<cLine)(hk:Zd7 prog w s.heap k a)(h:Q (ZkO w k) {s with toks:=s.toks+(k.2.length+3)}):
 YA (model prog w) A (pyHash (.ref a)) Q E s:=by
 have hT:=hk.typeIs;obtain⟨o,t,b,m,ho,_,hd,hi⟩:=hk;unfold pyHash
 first|unfold pyHashByItsType|skip
 first|refine Ya (wpAny_cRoomFor_or (.inr (by lia)) ?_)|skip
 refine Ya (wpAny_specialOf hT PySem.F.slot_tuple_hash.lookup ?_);show YA _ _ (if (Wn (Value.builtin "tuple.__hash__")==Wn Value.none)=Wp then _ else _) Q E s;rw[if_neg (by rw[beq_builtin_none];exact Ow)];refine Ya (wpAny_specialOf hT PySem.F.slot_tuple_hash.lookup ?_);show YA _ _ (callSpecialIfBoundUnlessNone? (.ref a) "__hash__" _ >>= _) Q E s;refine Ya (wpAny_callSpecialIfBoundUnlessNone?_slot hT PySem.F.slot_tuple_hash (Wb PySem.F.slot_tuple_hash hT PySem.F.entry_tuple_hash ?_ (PySem.F.args_tuple_hash_1 _)));show YA _ _ (Builtin.Tuple.tupleItemsOf (.ref a) >>= _) _ _ s;refine Ya (wpAny_tupleItemsOf ho hd ?_);refine Ya ?_;rw[<- Array.forIn_toList];refine wpAny_forIn_list _
  (λrest (r:Array Int) s'=>(rest=[.int k.1 t,.ref b]/\r=#[]/\s'=s)\/(rest=[.ref b]/\r.toList=[hashInt k.1]/\s'={s with toks:=s.toks+1})\/(rest=[]/\r.toList=[hashInt k.1,reduceHash (Builtin.Tuple.tupleHashOf (k.2.map (hashStr w)))]/\s'={s with toks:=s.toks+1+(k.2.length+1)}))
  _ ?_ ?_ _ _ (.inl ⟨rfl,rfl,rfl⟩)
 . rintro x rest r s' (⟨e,rfl,rfl⟩|⟨e,hr,rfl⟩|⟨e,_⟩)
   . cases e;refine Ya (wpAny_pyHash_int ?_)
     first
      |exact Yc (.inr (.inl ⟨rfl,rfl,rfl⟩))
      |exact Ya (Yc (Yc (.inr (.inl ⟨rfl,rfl,rfl⟩))))
   . cases e;refine Ya (wpAny_pyHash_tuple (knd:=PySem.strKind prog w) (ks:=k.2) ?_ hi ?_)
     . first|exact hu|lia
     . first
        |exact Yc (.inr (.inr ⟨rfl,by simp[hr];rfl,rfl⟩))
        |exact Ya (Yc (Yc (.inr (.inr ⟨rfl,by simp[hr];rfl,rfl⟩))))
   . cases e
 . rintro r s' (⟨e,_⟩|⟨e,_⟩|⟨_,hr,rfl⟩)
   . cases e
   . cases e
   . show YA _ _ (retInt (Builtin.Tuple.tupleHashOf r.toList)) _ _ _;rw[hr];refine wpAny_ret_mkInt ?_;unfold ZkO at h;generalize Builtin.Tuple.tupleHashOf [hashInt k.1,reduceHash (Builtin.Tuple.tupleHashOf (k.2.map (hashStr w)))]=z at h;show YA _ _ (if (Wt (-(2:Int) ^ 63<=z)&&Wt (z<2 ^ 63))=Wp then _ else _) Q E _;unfold reduceHash at h;have e:s.toks+1+(k.2.length+1)+1=s.toks+(k.2.length+3):=by lia
     by_cases hr:(Wt (-(2:Int) ^ 63<=z)&&Wt (z<2 ^ 63))=Wp
     . rw[if_pos hr];rw[if_pos hr]at h;exact Yc (by simpa[e]using h)
     . rw[if_neg hr];rw[if_neg hr]at h;exact Ya (wpAny_rule (Yc (by simpa[e]using h)))
def Zlc{x y:NK}{a b:Yi}{P:Fin->Yb->Prop}(hu:A.units<cLine)(hx:Zd7 prog w s.heap x a)(hy:Zd7 prog w s.heap y b)(h:P (.done (.ret (.bool (Wt (x=y))))) s):
 YA (model prog w) A (Builtin.«tuple.__eq__» ⟨[.ref a,.ref b],[]⟩) P E s:=by
 have hTb:=hy.typeIs;obtain⟨oa,ta,ba,na,hoa,_,hda,hia⟩:=hx;obtain⟨ob,tb,bb,nb,hob,_,hdb,hib⟩:=hy;show YA _ _ (isInstance (.ref b) (.type "tuple") >>= _) _ _ s;refine Ya (wpAny_isInstance hTb isSubtype_tuple_tuple ?_);simp only[Bool.not_true,OG,if_false];refine Ya (wpAny_tupleItemsOf hoa hda ?_);refine Ya (wpAny_tupleItemsOf hob hdb ?_);refine Ya ?_;refine wpAny_forIn_list _
  (λrest r s'=>r.1=Wo/\s'=s/\(rest=[(Value.int x.1 ta,Value.int y.1 tb),(.ref ba,.ref bb)]\/(rest=[(.ref ba,.ref bb)]/\x.1=y.1)\/(rest=[]/\x=y)))
  _ ?_ ?_ _ _ ⟨rfl,rfl,.inl rfl⟩
 . rintro ⟨u,v⟩ rest r s' ⟨hr,rfl,e|⟨e,e1⟩|⟨e,_⟩⟩
   . cases e;refine Ya (wpAny_eqBool_int ?_);by_cases hk:x.1=y.1
     . rw[show(x.1==y.1)=Wp by simpa using hk];simp only[Bool.not_true,OG,if_false];exact Yc ⟨rfl,rfl,by first|exact .inr (.inl ⟨trivial,hk⟩)|simp[hk]⟩
     . rw[show(x.1==y.1)=Wq by simpa using hk];simp only[Bool.not_false,if_true];have hf:Wt (x=y)=Wq:=decide_eq_false λe=>hk (by rw[e]);rw[hf]at h;exact Ya (Yc (Yc (Yc h)))
   . cases e;refine Ya (wpAny_eqBool_tuple (knd:=PySem.strKind prog w) hu hia hib ?_);by_cases hk:x.2=y.2
     . rw[decide_eq_true hk];simp only[Bool.not_true,OG,if_false];exact Yc ⟨rfl,rfl,by first|exact .inr (.inr ⟨trivial,Prod.ext e1 hk⟩)|simp[Prod.ext e1 hk]⟩
     . rw[decide_eq_false hk];simp only[Bool.not_false,if_true];have hf:Wt (x=y)=Wq:=decide_eq_false λe=>hk (by rw[e]);rw[hf]at h;exact Ya (Yc (Yc (Yc h)))
   . cases e
 . rintro ⟨r1,r2⟩ s' ⟨hr,rfl,e|⟨e,_⟩|⟨_,e⟩⟩
   . cases e
   . cases e
   . simp only at hr;subst hr;refine Yc ?_;rw[decide_eq_true e]at h;exact h
def ZwI{x y:NK}{a b:Yi}{Q:Bool->Yb->Prop}(hu:A.units+1<cLine)(hx:Zd7 prog w s.heap x a)(hy:Zd7 prog w s.heap y b)(h:Q (Wt (x=y)) s):
 YA (model prog w) A (eqBool (.ref a) (.ref b)) Q E s:=by
 unfold eqBool
 try with_reducible refine Wa ?_
 show YA _ _ (if (YC a==YC b)=Wp then _ else _) Q E s;by_cases hab:(YC a==YC b)=Wp
 . rw[if_pos hab];have e:a=b:=by have:=eq_of_beq hab;injection this
   subst e;obtain rfl:=hx.inj hy;exact Ya (wpAny_rule (Yc (by simpa using h)))
 . rw[if_neg hab];exact Ya (wpAny_richCompare_same_room (op:=.Eq) hx.typeIs hy.typeIs PySem.F.slot_tuple_eq
    (Wb PySem.F.slot_tuple_eq hx.typeIs PySem.F.entry_tuple_eq (Zlc (by first|exact hu|lia) hx hy ⟨_,rfl,(λe=>nomatch e),wpAny_truthy_bool h⟩) (PySem.F.args_tuple_eq_2 _ _)) (by lia))
def Zoe{n:Nat}{ks:List Str}{a:Yi}{Q:Bool->Yb->Prop}(hk:IsTupleKey (PySem.strKind prog w) s.heap ks a)(h:Q Wp s):YA (model prog w) A (eqIsQuiet (n+1) (.ref a)) Q E s:=by
 have hT:=hk.typeIs;obtain⟨o,items,n,ho,_,hd,hi⟩:=hk;unfold eqIsQuiet;refine Ya (wpAny_specialOf hT PySem.F.slot_tuple_eq.lookup ?_);show YA _ _ (isInstance (.ref a) (.type "tuple") >>= _) _ _ s;refine Ya (wpAny_isInstance hT isSubtype_tuple_tuple ?_);simp only[Bool.not_true,OG,if_false];refine Ya (wpAny_seqItems ho hd ?_);refine Ya ?_;show YA _ _ (forIn items _ _) _ _ s;rw[<- Array.forIn_toList];refine wpAny_forIn_list _ (λrest r s'=>r.1=Wo/\s'=s/\∀v∈rest,carriedByValue v=Wp) _ ?_ ?_ _ _ ⟨rfl,rfl,hi.byValue⟩
 . rintro v rest r s' ⟨hr,rfl,hall⟩;rw[eqIsQuiet_byValue _ (hall v Oi)];refine Ya (Yc ?_);simp only[Bool.not_true,OG,if_false];exact Yc ⟨rfl,rfl,λu hu'=>hall u (Oh _ hu')⟩
 . rintro ⟨r1,r2⟩ s' ⟨hr,rfl,_⟩;simp only at hr;subst hr;exact Yc h
def Zod{k:NK}{a:Yi}{Q:Bool->Yb->Prop}(hk:Zd7 prog w s.heap k a)(h:Q Wp s):YA (model prog w) A (eqIsQuiet 8 (.ref a)) Q E s:=by
 have hT:=hk.typeIs;obtain⟨o,t,b,n,ho,_,hd,hi⟩:=hk;unfold eqIsQuiet;refine Ya (wpAny_specialOf hT PySem.F.slot_tuple_eq.lookup ?_);show YA _ _ (isInstance (.ref a) (.type "tuple") >>= _) _ _ s;refine Ya (wpAny_isInstance hT isSubtype_tuple_tuple ?_);simp only[Bool.not_true,OG,if_false];refine Ya (wpAny_seqItems ho hd ?_);refine Ya ?_;show YA _ _ (forIn #[Value.int k.1 t,.ref b] _ _) _ _ s;rw[<- Array.forIn_toList];refine wpAny_forIn_list _ (λrest r s'=>r.1=Wo/\s'=s/\(rest=[Value.int k.1 t,.ref b]\/rest=[.ref b]\/rest=[])) _ ?_ ?_ _ _ ⟨rfl,rfl,.inl rfl⟩
 . rintro v rest r s' ⟨hr,rfl,e|e|e⟩
   . cases e;rw[eqIsQuiet_byValue _ rfl];refine Ya (Yc ?_);simp only[Bool.not_true,OG,if_false];exact Yc ⟨rfl,rfl,by first|exact .inr (.inl trivial)|simp⟩
   . cases e;refine Ya (Zoe hi ?_);simp only[Bool.not_true,OG,if_false];exact Yc ⟨rfl,rfl,by first|exact .inr (.inr trivial)|simp⟩
   . cases e
 . rintro ⟨r1,r2⟩ s' ⟨hr,rfl,_⟩;simp only at hr;subst hr;exact Yc h
end
def Zes(prog:Yh)(w:Yg):HeapKind prog w NK where
 is:=Zd7 prog w
 hash:=ZkO w
 draws:=λk=>k.2.length+3
 room:=λA=>A.units+1<cLine
 inj:=λhx hy=>hx.inj hy
 keeps:=λx ho hd hs=>x.keeps ho hd hs
 pyHash:=λhu hk h=>Zrs hu hk h
 eqBool:=λhu hx hy h=>ZwI hu hx hy h
 quiet:=λhk h=>Zod hk h
noncomputable abbrev Key:=Sum Int Str
noncomputable def ZhQ:Key->Yj->Bool
 |.inl k,v=>Value.isInt k v
 |.inr x,v=>Value.isStrOf x v
noncomputable def ZxX(w:Yg):Key->Int
 |.inl k=>hashInt k
 |.inr x=>hashStr w x
def ZI:∀{k:Key}{v:Yj},ZhQ k v=Wp->(∃i t,k=Sum.inl i/\v=Value.int i t)\/(∃x t,k=YD x/\v=Value.str x t)
 |.inl i,v,h=>by obtain⟨t,e⟩:=Value.isInt_shape (k:=i) (v:=v) h;exact .inl ⟨i,t,rfl,e⟩
 |.inr x,v,h=>by obtain⟨t,e⟩:=Value.isStrOf_shape (x:=x) (v:=v) h;exact .inr ⟨x,t,rfl,e⟩
def Znk(i:Int)(t:Tok):ZhQ (.inl i) (.int i t)=Wp:=by simp[ZhQ,Value.isInt]
def Zv(x:Str)(t:Tok):ZhQ (.inr x) (.str x t)=Wp:=by simp[ZhQ,Value.isStrOf]
def Zt9(a b:Int):Wt ((Sum.inl a:Key)=Sum.inl b)=(a==b):=by
 by_cases e:a=b
 . subst e;simp
 . have h:¬ (Sum.inl a:Key)=Sum.inl b:=λq=>e (Sum.inl.inj q);rw[decide_eq_false h];exact(beq_eq_false_iff_ne.mpr e).symm
def Zt6(a b:Str):Wt ((YD a:Key)=YD b)=Wt (a=b):=by
 by_cases e:a=b
 . subst e;simp
 . have h:¬ (YD a:Key)=YD b:=λq=>e (Sum.inr.inj q);rw[decide_eq_false h,decide_eq_false e]
def Zt8(a:Int)(b:Str):Wt ((Sum.inl a:Key)=YD b)=Wq:=decide_eq_false (λq=>nomatch q)
def Zt7(a:Str)(b:Int):Wt ((YD a:Key)=Sum.inl b)=Wq:=decide_eq_false (λq=>nomatch q)
def ZO(prog:Yh)(w:Yg):PySem.KeyKind prog w Key where
 is:=ZhQ
 hash:=ZxX w
 inj:=λv a b ha hb=>by
  rcases ZI ha with ⟨i,t,rfl,rfl⟩|⟨x,t,rfl,rfl⟩
  . rcases ZI hb with ⟨j,u,rfl,e⟩|⟨y,u,rfl,e⟩
    . injection e with e1 _;rw[e1]
    . exact nomatch e
  . rcases ZI hb with ⟨j,u,rfl,e⟩|⟨y,u,rfl,e⟩
    . exact nomatch e
    . injection e with e1 _;rw[e1]
 byValue:=λk v h=>by rcases ZI h with ⟨i,t,rfl,rfl⟩|⟨x,t,rfl,rfl⟩<;>rfl
 pyHash:=λhv h=>by
  rcases ZI hv with ⟨i,t,rfl,rfl⟩|⟨x,t,rfl,rfl⟩
  . exact wpAny_pyHash_int h
  . exact wpAny_pyHash_str h
 eqBool:=λhu hv h=>by
  rcases ZI hu with ⟨i,t,rfl,rfl⟩|⟨x,t,rfl,rfl⟩
  . rcases ZI hv with ⟨j,u,rfl,rfl⟩|⟨y,u,rfl,rfl⟩
    . rw[Zt9]at h;exact wpAny_eqBool_int h
    . rw[Zt8]at h;exact SeqAt.EqAt.int_str i t y u _ _ _ _ h
  . rcases ZI hv with ⟨j,u,rfl,rfl⟩|⟨y,u,rfl,rfl⟩
    . rw[Zt7]at h;exact SeqAt.EqAt.str_int x t j u _ _ _ _ h
    . rw[Zt6]at h;exact wpAny_eqBool_str h
 «strs»:=λk x t v h=>by
  rcases ZI h with ⟨i,u,rfl,e⟩|⟨y,u,rfl,e⟩
  . exact nomatch e
  . injection e with e1 _;subst e1;cases v<;>rfl
def Zjy(prog:Yh)(w:Yg)(i:Int)(t:Tok):(ZO prog w).is (.inl i) (.int i t)=Wp:=Znk i t
def Zjx(prog:Yh)(w:Yg)(x:Str)(t:Tok):(ZO prog w).is (.inr x) (.str x t)=Wp:=Zv x t
inductive V where
 |non|bl (b:Bool)|int (i:Int)|str (x:Str)|byt (b:Array UInt8)|flt (b:UInt64)|ref (a:Yi)|ty (n:String)
 deriving DecidableEq
def RelV:V->Yj->Prop
 |.non,u=>u=Value.none
 |.bl b,u=>u=Value.bool b
 |.int i,u=>∃t,u=Value.int i t
 |.str x,u=>∃t,u=Value.str x t
 |.byt b,u=>∃t,u=Value.bytes b t
 |.flt b,u=>∃t,u=Value.float b t
 |.ref a,u=>u=YC a
 |.ty n,u=>u=Value.type n
abbrev Zj:List V->List Yj->Prop:=Paired RelV
theorem Zj.length(r:Zj xs us):xs.length=us.length:=Paired.length r
theorem Zj.get:∀{xs:List V}{us:List Yj}{i:Nat}{x:V},Zj xs us->xs[i]? = Wn x->∃u,us[i]? = Wn u/\RelV x u
 |_,_,_,_,.nil,e=>by simp at e
 |_,_,0,_,.cons r _,e=>by simp at e;subst e;exact⟨_,rfl,r⟩
 |_,_,i+1,x,.cons _ t,e=>by obtain⟨u,h1,h2⟩:=Zj.get (i:=i) (x:=x) t (by simpa using e);exact⟨u,by simpa using h1,h2⟩
theorem Zj.set(r:RelV x u):∀{xs:List V}{us:List Yj} (i:Nat),Zj xs us->Zj (xs.set i x) (us.set i u)
 |_,_,_,.nil=>.nil
 |_,_,0,.cons _ t=>.cons r t
 |_,_,i+1,.cons q t=>.cons q (Zj.set r i t)
theorem Zj.append:∀{xs ys:List V}{us ws:List Yj},Zj xs us->Zj ys ws->Zj (xs++ys) (us++ws)
 |_,_,_,_,.nil,s=>s
 |_,_,_,_,.cons r t,s=>.cons r (Zj.append t s)
theorem Zj.take:∀{xs:List V}{us:List Yj} (n:Nat),Zj xs us->Zj (xs.take n) (us.take n)
 |_,_,0,_=>.nil
 |_,_,_+1,.nil=>.nil
 |_,_,n+1,.cons r t=>.cons r (Zj.take n t)
theorem Zj.drop:∀{xs:List V}{us:List Yj} (n:Nat),Zj xs us->Zj (xs.drop n) (us.drop n)
 |_,_,0,r=>r
 |_,_,_+1,.nil=>.nil
 |_,_,n+1,.cons _ t=>Zj.drop n t
def Zd6:Option V->Option Yj->Prop
 |some v,Wn u=>RelV v u
 |none,Wo=>True
 |_,_=>False
def KV:List (κ×V)->List (κ×Yj)->Prop:=Paired λ(p:κ×V) (q:κ×Yj)=>p.1=q.1/\RelV p.2 q.2
noncomputable def kV:Key->V
 |.inl i=>.int i
 |.inr x=>.str x
inductive HO where
 |lst (xs:List V)
 |tup (xs:List V)
 |dK (kvs:List (Key×V))|dT (kvs:List (NK×Yi×Yj))
 |set (S_:Int->Bool) (n:Nat)
 |ins (C dx:Yi) (fs:List (Str×V))
 |own (x:Yi)
 |xd (fs:List (Str×V))
 |met (f x:Yi)
 |rng (lo hi:Int)
 |frz (o:Obj) (u:HO)
 |tbl (ps:Array Yj)
 |ext (φ:YF->Prop)
abbrev Hp:=Yi->Option HO
noncomputable def upd(H:Hp)(a:Yi)(o:HO):Hp:=λb=>if b=a then Wn o else H b
def Zh:upd H a o a=Wn o:=by unfold upd;rw[if_pos rfl]
def Zk(h:b≠a):upd H a o b=H b:=by unfold upd;rw[if_neg h]
def ZM{H:Hp}(h:H a=Wn o)(h':H b=Wo):a≠b:=by intro e;subst e;rw[h]at h';cases h'
section
variable (P:Yh) (w:Yg)
def ZaW(h:YF)(a:Yi)(items:Array Yj):Prop:=∃o,h.get? a=Wn o/\o.cls=.type "tuple" /\ o.dict=Wo/\∃n,o.data=.seq items n
theorem ZaW.tup(x:ZaW h a items):IsTup h a items:=let ⟨o,ho,hc,_,r⟩:=x;⟨o,ho,hc,r⟩
theorem ZaW.fresh(h:YF)(items:Array Yj):ZaW (h.push {cls:=.type "tuple",data:=.seq items}) h.objs.size items:=⟨_,Oj _ rfl,rfl,rfl,_,rfl⟩
def ZS(H:Hp)(h:YF)(a:Yi):HO->Prop
 |.lst xs=>xs.length<=sizeLine/\∃(its:List Yj) (n:Nat),Zj xs its/\h.get? a=Wn {cls:=.type "list",data:=.seq its.toArray n}
 |.tup xs=>xs.length<=sizeLine/\∃its:List Yj,Zj xs its/\ZaW h a its.toArray
 |.dK kvs=>kvs.length<=sizeLine/\(a==Ye)=Wq/\∃vs,KV kvs vs/\h.DictOf (ZO P w) a vs
 |.dT kvs=>kvs.length<=sizeLine/\(a==Ye)=Wq/\∃o es ep,h.get? a=Wn o/\o.ExactDict/\o.data=.dict es ep/\es.toList=kvs.map (entryOfKey (Zes P w))/\(kvs.map (·.1)).Nodup
 |.set S_ n=>h.SetOf (intKind P w) a S_ n
 |.ins C dx fs=>H dx=Wn (.own a)/\fs.length<=1000/\dx≠a/\h.get? a=Wn (Wc C dx) /\
  ∃mA,h.Ns1 dx mA/\(∀f,Zd6 (fs.lookup f) (mA f))/\PySem.Within mA (fs.map (·.1))
 |.own _=>∃o,h.get? a=Wn o
 |.xd fs=>∃mA,h.Ns1 a mA/\∀f,Zd6 (fs.lookup f) (mA f)
 |.rng lo hi=>∃t u v,h.get? a=Wn {cls:=.type "range",data:=.fields #[.int lo t,.int hi u,.int 1 v]}
 |.frz o u=>h.get? a=Wn o/\ZS H h a u
 |.tbl ps=>h.get? a=Wn {cls:=.none,data:=.fields ps}
 |.met f x=>h.get? a=Wn (PySem.W.methodObj (.ref f) (.ref x))
 |.ext φ=>φ h/\(∃o,h.get? a=Wn o)/\∀h1 h2:YF,φ h1->(∀o,h1.get? a=Wn o->h2.get? a=Wn o)->φ h2
def HOk(H:Hp)(h:YF):Prop:=∀a o,H a=Wn o->ZS P w H h a o
end
section
variable {P:Yh}{w:Yg}{H H':Hp}{h h':YF}{a:Yi}{o:HO}
theorem ZS.lt(x:ZS P w H h a o):a<h.objs.size:=by
 cases o with
 |lst xs=>obtain⟨_,_,_,_,e⟩:=x;exact Ym e
 |tup xs=>obtain⟨_,_,_,p⟩:=x;exact p.tup.lt
 |dK kvs=>obtain⟨_,_,_,_,o,_,_,e,_⟩:=x;exact Ym e
 |dT kvs=>obtain⟨_,_,o,_,_,e,_⟩:=x;exact Ym e
 |set S_ n=>obtain⟨o,_,_,_,e,_⟩:=x;exact Ym e
 |ins C dx fs=>obtain⟨_,_,_,e,_⟩:=x;exact Ym e
 |own y=>obtain⟨_,e⟩:=x;exact Ym e
 |xd fs=>obtain⟨_,⟨_,_,_,e,_⟩,_⟩:=x;exact Ym e
 |rng lo hi=>obtain⟨_,_,_,e⟩:=x;exact Ym e
 |frz ob u=>obtain⟨e,_⟩:=x;exact Ym e
 |tbl ps=>exact Ym (show h.get? a=Wn _ from x)
 |met f y=>exact Ym (show h.get? a=Wn _ from x)
 |ext φ=>obtain⟨_,⟨_,e⟩,_⟩:=x;exact Ym e
theorem Paired.mapP:∀{l₁:List α}{l₂:List β},Paired F l₁ l₂->(∀a b,F a b->G a b)->Paired G l₁ l₂
 |_,_,.nil,_=>.nil
 |_,_,.cons r t,f=>.cons (f _ _ r) (Paired.mapP t f)
def ZS.stay(x:ZS P w H h a o)(k:∀b u,(b=a\/H b=Wn (.own a))->h.get? b=Wn u->h'.get? b=Wn u)
 (ho:∀b,H b=Wn (.own a)->H' b=Wn (.own a)) (ht:∀b xs,H b=Wn (.tup xs)->H' b=Wn (.tup xs)):ZS P w H' h' a o:=by
 induction o with
 |lst xs=>obtain⟨z,its,n,r,e⟩:=x;exact⟨z,its,n,r,k _ _ (.inl rfl) e⟩
 |tup xs=>obtain⟨z,its,r,ob,e,c⟩:=x;exact⟨z,its,r,ob,k _ _ (.inl rfl) e,c⟩
 |dK kvs=>obtain⟨z,y,vs,r,ob,es,ep,e,c⟩:=x;exact⟨z,y,vs,r,ob,es,ep,k _ _ (.inl rfl) e,c⟩
 |dT kvs=>obtain⟨z,y,ob,es,ep,e,c⟩:=x;exact⟨z,y,ob,es,ep,k _ _ (.inl rfl) e,c⟩
 |set S_ n=>obtain⟨ob,es,ep,t,e,c⟩:=x;exact⟨ob,es,ep,t,k _ _ (.inl rfl) e,c⟩
 |ins C dx fs=>obtain⟨d,z,ne,e,mA,⟨od,es,ep,e2,c⟩,r⟩:=x;exact⟨ho _ d,z,ne,k _ _ (.inl rfl) e,mA,⟨od,es,ep,k _ _ (.inr d) e2,c⟩,r⟩
 |own y=>obtain⟨ob,e⟩:=x;exact⟨ob,k _ _ (.inl rfl) e⟩
 |xd fs=>obtain⟨mA,⟨od,es,ep,e,c⟩,r⟩:=x;exact⟨mA,⟨od,es,ep,k _ _ (.inl rfl) e,c⟩,r⟩
 |rng lo hi=>obtain⟨t,u,v,e⟩:=x;exact⟨t,u,v,k _ _ (.inl rfl) e⟩
 |frz ob u ih=>obtain⟨e,q⟩:=x;exact⟨k _ _ (.inl rfl) e,ih q⟩
 |tbl ps=>have e:h.get? a=Wn {cls:=.none,data:=.fields ps}:=x;show h'.get? a=Wn {cls:=.none,data:=.fields ps};exact k a _ (.inl rfl) e
 |met f y=>have e:h.get? a=Wn (PySem.W.methodObj (.ref f) (.ref y)):=x;show h'.get? a=Wn (PySem.W.methodObj (.ref f) (.ref y));exact k a _ (.inl rfl) e
 |ext φ=>obtain⟨p,⟨o,e⟩,st⟩:=x;exact⟨st _ _ p λo q=>k _ _ (.inl rfl) q,⟨o,k _ _ (.inl rfl) e⟩,st⟩
theorem HOk.lt(x:HOk P w H h)(e:H a=Wn o):a<h.objs.size:=(x a o e).lt
def HOk.fresh(x:HOk P w H h)(e:h.objs.size<=a):H a=Wo:=by
 cases q:H a with
 |none=>rfl
 |some u=>exact absurd (Ot (x.lt q) e) (Yv _)
def HOk.kept(x:HOk P w H h)(k:∀b u,h.get? b=Wn u->h'.get? b=Wn u):HOk P w H h':=λa o e=>(x a o e).stay (λb u _ q=>k b u q) (λ_ q=>q) λ_ _ q=>q
def HOk.laid(x:HOk P w H h)(k:∀b u,h.get? b=Wn u->h'.get? b=Wn u)(hp:h.objs.size<=a)(new:ZS P w (upd H a o) h' a o):HOk P w (upd H a o) h':=λb u e=>by
 have hn:=x.fresh hp;by_cases hb:b=a
 . subst hb;rw[Zh]at e;cases e;exact new
 . rw[Zk hb]at e;exact(x b u e).stay (λc v _ q=>k c v q) (λc q=>by rw[Zk (ZM q hn)];exact q) λc xs q=>by rw[Zk (ZM q hn)];exact q
end
def Rd(H:Hp)(a:Yi)(u:HO):Prop:=H a=Wn u\/∃o,H a=Wn (.frz o u)
def Rd.ok{P:Yh}{w:Yg}{H:Hp}{h:YF}{a:Yi}{u:HO}(r:Rd H a u)(x:HOk P w H h):ZS P w H h a u:=by
 rcases r with r|⟨o,r⟩
 . exact x a u r
 . obtain⟨_,q⟩:=x a _ r;exact q
def Mut:Option HO->Prop
 |some (.lst _)=>True
 |some (.dK _)=>True
 |some (.dT _)=>True
 |some (.set _ _)=>True
 |some (.ins _ _ _)=>True
 |some (.ext _)=>True
 |_=>False
section
variable {P:Yh}{w:Yg}{H:Hp}{h h':YF}{x e:Yi}{o':HO}
def HOk.write(ok:HOk P w H h)(mu:Mut (H x))(he:e=x\/H e=Wn (.own x))(k:∀b u,b≠e->h.get? b=Wn u->h'.get? b=Wn u)(heo:∃u,h'.get? e=Wn u)
 (new:ZS P w (upd H x o') h' x o'):HOk P w (upd H x o') h':=λb u q=>by
 have nown:∀c y,H c=Wn (.own y)->c≠x:=λc y r z=>by subst z;rw[r]at mu;exact mu
 have ntup:∀c xs,H c=Wn (.tup xs)->c≠x:=λc xs r z=>by subst z;rw[r]at mu;exact mu
 by_cases hb:b=x
 . subst hb;rw[Zh]at q;cases q;exact new
 . rw[Zk hb]at q;by_cases hbe:b=e
   . have q':H b=Wn (.own x):=by
      rcases he with z|z
      . exact absurd (hbe.trans z) hb
      . rw[hbe];exact z
     rw[q]at q';cases q';obtain⟨v,hv⟩:=heo;exact⟨v,by rw[hbe];exact hv⟩
   . refine(ok b u q).stay (λc v hc r=>k c v ?_ r) (λc r=>by rw[Zk (nown c b r)];exact r) λc xs r=>by rw[Zk (ntup c xs r)];exact r
     rcases hc with rfl|hc
     . exact hbe
     . rintro rfl;rcases he with z|z
       . exact nown c b hc z
       . rw[hc]at z;cases z;exact hb rfl
end
structure Un(fs ex:List Yi)(H H':Hp)(h h':YF):Prop where
 keep:∀b o,h.get? b=Wn o->H b=Wo->b ∉ fs->b ∉ ex->h'.get? b=Wn o
 slot:∀b o,h.get? b=Wn o->H b=Wo->b∈fs->b ∉ ex->∃sl,h'.get? b=Wn {o with slots:=sl}
 free:∀b o,h.get? b=Wn o->H b=Wo->b ∉ ex->H' b=Wo
 there:∀b o,h.get? b=Wn o->b ∉ ex->∃o',h'.get? b=Wn o'
 tups:∀b xs,H b=Wn (.tup xs)->H' b=Wn (.tup xs)
 frzs:∀b o u,H b=Wn (.frz o u)->H' b=Wn (.frz o u)
 tbls:∀b ps,H b=Wn (.tbl ps)->∃more,H' b=Wn (.tbl (ps++more))
section
variable {fs fs' ex ex':List Yi}{H H1 H2:Hp}{h h1 h2 h':YF}{a x e:Yi}{o:HO}
def Un.any(u:Un fs ex H H1 h h1)(q:h.get? b=Wn ob)(n:H b=Wo)(hx:b ∉ ex):∃sl,h1.get? b=Wn {ob with slots:=sl}:=by
 by_cases hb:b∈fs
 . exact u.slot b ob q n hb hx
 . exact⟨ob.slots,u.keep b ob q n hb hx⟩
def Un.trans(a:Un fs ex H H1 h h1)(b:Un fs ex H1 H2 h1 h2):Un fs ex H H2 h h2 where
 keep:=λc ob q n hc hx=>b.keep c ob (a.keep c ob q n hc hx) (a.free c ob q n hx) hc hx
 slot:=λc ob q n hc hx=>by obtain⟨sl,e1⟩:=a.slot c ob q n hc hx;obtain⟨sl',e2⟩:=b.slot c _ e1 (a.free c ob q n hx) hc hx;exact⟨sl',e2⟩
 free:=λc ob q n hx=>by obtain⟨o',e1⟩:=a.there c ob q hx;exact b.free c o' e1 (a.free c ob q n hx) hx
 there:=λc ob q hx=>by obtain⟨o',e1⟩:=a.there c ob q hx;exact b.there c o' e1 hx
 tups:=λc xs q=>b.tups c xs (a.tups c xs q)
 frzs:=λc ob xs q=>b.frzs c ob xs (a.frzs c ob xs q)
 tbls:=λc ps q=>by obtain⟨m1,e1⟩:=a.tbls c ps q;obtain⟨m2,e2⟩:=b.tbls c _ e1;exact⟨m1++m2,by rw[e2,Array.append_assoc]⟩
def Un.kept(k:∀b u,h.get? b=Wn u->h'.get? b=Wn u):Un fs ex H H h h':=⟨λb ob q _ _ _=>k b ob q,λb ob q _ _ _=>⟨ob.slots,k b ob q⟩,λ_ _ _ n _=>n,λb ob q _=>⟨ob,k b ob q⟩,λ_ _ q=>q,λ_ _ _ q=>q,λ_ ps q=>⟨#[],by rw[q];simp⟩⟩
def Un.refl:Un fs ex H H h h:=Un.kept λ_ _ q=>q
def Un.laid(k:∀b u,h.get? b=Wn u->h'.get? b=Wn u)(hp:h.objs.size<=a)(hn:H a=Wo):Un fs ex H (upd H a o) h h' where
 keep:=λb u q _ _ _=>k b u q
 slot:=λb u q _ _ _=>⟨u.slots,k b u q⟩
 free:=λb u q n _=>by rw[Zk (Ou (Ot (Ym q) hp))];exact n
 there:=λb u q _=>⟨u,k b u q⟩
 tups:=λb xs q=>by rw[Zk (ZM q hn)];exact q
 frzs:=λb u xs q=>by rw[Zk (ZM q hn)];exact q
 tbls:=λb ps q=>⟨#[],by rw[Zk (ZM q hn),q];simp⟩
def Un.write(mu:Mut (H x))(he:e=x\/H e=Wn (.own x))(k:∀b u,b≠e->h.get? b=Wn u->h'.get? b=Wn u)(heo:∃u,h'.get? e=Wn u):Un fs ex H (upd H x o) h h':=by
 have hx:∀b,H b=Wo->b≠x:=λb n z=>by subst z;rw[n]at mu;exact mu
 have hb:∀b,H b=Wo->b≠e:=λb n z=>by
  subst z;rcases he with r|r
  . exact hx b n r
  . rw[n]at r;cases r
 have hm:∀b u,H b=Wn u->¬ Mut (Wn u)->b≠x:=λb u q nm z=>by subst z;rw[q]at mu;exact nm mu
 refine⟨λb u q n _ _=>k b u (hb b n) q,λb u q n _ _=>⟨u.slots,k b u (hb b n) q⟩,λb u q n _=>by rw[Zk (hx b n)];exact n,λb u q _=>?_,
  λb xs q=>by rw[Zk (hm b _ q λz=>z)];exact q,λb u xs q=>by rw[Zk (hm b _ q λz=>z)];exact q,λb ps q=>⟨#[],by rw[Zk (hm b _ q λz=>z),q];simp⟩⟩
 by_cases hbe:b=e
 . subst hbe;exact heo
 . exact⟨u,k b u hbe q⟩
end
def trk(h:YF)(H:Hp):List Yi:=(List.range h.objs.size).filter λa=>(H a).isSome
def ZiB(h:YF)(H:Hp):YF:=PySem.W.hideAll h (trk h H)
def Znn(h:YF)(H:Hp):(ZiB h H).objs.size=h.objs.size:=PySem.W.hideAll_size _ _
def Zpa(e:h.get? b=Wn o)(n:H b=Wo):(ZiB h H).get? b=Wn o:=
 PySem.W.hideAll_get _ e λhm=>by have q:(H b).isSome=Wp:=(List.mem_filter.mp hm).2;rw[n]at q;simp at q
def Zq6(e:(ZiB h H).get? b=Wn o):h.get? b=Wn o/\H b=Wo:=by
 have e':h.get? b=Wn o:=PySem.W.of_hideAll (trk h H) e;refine⟨e',?_⟩;cases q:H b with
 |none=>rfl
 |some x=>have hm:b∈trk h H:=List.mem_filter.mpr ⟨List.mem_range.mpr (Ym e'),by simp[q]⟩;have z:(ZiB h H).get? b=Wo:=PySem.W.hideAll_none (trk h H) hm;rw[z]at e;cases e
structure Mod(K:Yk)(mg:Str->Option Yj)(base:YF):Prop where
 kin:K.In base
 glob:base.Ns Yd mg
 blt:∃mb,base.Ns builtinsNs mb/\∀x:Str,x ≠ "__name__" -> mb x=bootBuiltins x
 nolimit:base.NoLimit
structure Cx where
 prog:Yh
 w:Yg
 K:Yk
 mg:Str->Option Yj
 base:YF
 A:YG
 N:List Str
 s₀:Yb
 H₀:Hp
 env:Env
 outer:List Env
 stack:List Env
 ex:List Yi
 fn:Str->Bool
 calm:Bool
 pn:List (Yi×Obj)
 xe:Yj->Yb->Prop
noncomputable def frs(l:List Env):List Yi:=l.filterMap (·.frame)
abbrev Cx.fs(X:Cx):List Yi:=frs X.outer
def Vis(sc:Scope)(x:Str):Prop:=sc.names.lookup x=Wn .local\/sc.names.lookup x=Wn .cell\/sc.names.lookup x=Wn .free
def Loc(sc:Scope)(x:Str):Prop:=sc.names.lookup x=Wn .local\/sc.names.lookup x=Wn .cell
def Look(env:Env)(h:YF)(m:Str->Option Yj)(x:Str)(u:Yj):Prop:=(env.kindOf x=Wn .local/\m x=Wn u)\/((env.kindOf x=Wn .cell\/env.kindOf x=Wn .free)/\∃c,env.cells.lookup x=Wn c/\h.IsCell c (Wn u))
structure Cx.Ok(X:Cx):Prop where
 mod:Mod X.K X.mg X.base
 kind:X.env.scope.kind=.function
 glob:X.env.globals=Yd
 blt:X.env.builtins=builtinsNs
 above:X.s₀.heap.objs.size<=X.env.locals
 inj:∀x y c,X.env.cells.lookup x=Wn c->X.env.cells.lookup y=Wn c->x=y
 has:∀x,(X.env.kindOf x=Wn .cell\/X.env.kindOf x=Wn .free)->∃c,X.env.cells.lookup x=Wn c
 cab:∀x c,X.fn x=Wp->X.env.cells.lookup x=Wn c->X.s₀.heap.objs.size<=c
 hd:X.calm=Wp->X.A.handled=Wo
 frames:X.A.frames=Wn X.stack
 stk:X.stack=X.outer\/(X.stack=X.env::X.outer/\X.env.frame=Wn X.env.locals)
 exf:∀b∈X.ex,b≠X.env.locals/\∀x c,X.env.cells.lookup x=Wn c->c≠b
 bs:∀b o,X.base.get? b=Wn o->X.s₀.heap.get? b=Wn o/\X.H₀ b=Wo
 bsz:X.base.objs.size<=X.s₀.heap.objs.size
 noex:∀b o,X.base.get? b=Wn o->b ∉ X.ex
 exfs:∀b∈X.ex,b ∉ X.fs
 funs:X.s₀.heap.FunFrames X.base X.outer
 frf:∀b∈X.fs,X.H₀ b=Wo
structure Inv(X:Cx)(pins:List (Yi×Obj))(Z:List (Option V))(H:Hp)(s:Yb):Prop where
 ok:X.Ok
 os:s.os=X.s₀.os
 bare:AllBare s.gens
 base:Un X.fs X.ex X.H₀ H X.s₀.heap s.heap
 loc:∃m,s.heap.Ns X.env.locals m/\∀(i:Nat) (x:Str) (v:V),X.N[i]? = Wn x->Z[i]? = Wn (Wn v)->Vis X.env.scope x->∃u,RelV v u/\Look X.env s.heap m x u
 cell:∀x c,X.env.cells.lookup x=Wn c->∃v,s.heap.IsCell c v
 free:H X.env.locals=Wo
 freeC:∀x c,X.env.cells.lookup x=Wn c->H c=Wo
 pin:∀p∈X.pn++pins,s.heap.get? p.1=Wn p.2/\H p.1=Wo/\p.1≠X.env.locals/\p.1 ∉ X.fs/\∀v,p.2.data≠.cell v
 hok:HOk X.prog X.w H s.heap
 len:Z.length=X.N.length
section
variable {X:Cx}{pins:List (Yi×Obj)}{Z:List (Option V)}{H H':Hp}{s:Yb}{h':YF}
def Cx.Ok.nofr(ok:X.Ok)(e:X.base.get? b=Wn o):b ∉ X.fs:=λhb=>by have:=(ok.funs.mem hb).1;rw[e]at this;cases this
theorem Inv.bs(I:Inv X pins Z H s):∀b o,X.base.get? b=Wn o->s.heap.get? b=Wn o/\H b=Wo:=λb o e=>⟨I.base.keep b o (I.ok.bs b o e).1 (I.ok.bs b o e).2 (I.ok.nofr e) (I.ok.noex b o e),I.base.free b o (I.ok.bs b o e).1 (I.ok.bs b o e).2 (I.ok.noex b o e)⟩
def Inv.bk(I:Inv X pins Z H s):∀b o,X.base.get? b=Wn o->s.heap.get? b=Wn o:=λb o e=>(I.bs b o e).1
theorem Inv.mod(I:Inv X pins Z H s):Mod X.K X.mg X.base:=I.ok.mod
def Inv.kIn(I:Inv X pins Z H s):X.K.In s.heap:=I.ok.mod.kin.keeps I.bk
theorem Inv.lt(I:Inv X pins Z H s):X.env.locals<s.heap.objs.size:=let ⟨_,hn,_⟩:=I.loc;hn.lt
def Inv.sz(I:Inv X pins Z H s):X.s₀.heap.objs.size<=s.heap.objs.size:=OE I.ok.above (Nat.le_of_lt I.lt)
def Inv.nofs(I:Inv X pins Z H s)(h:s.heap.objs.size<=a):a ∉ X.fs:=λhb=>by obtain⟨_,o,ho,_⟩:=I.ok.funs.mem hb;exact absurd (Ot (Ym ho) (OE I.sz h)) (Yv _)
def Inv.cne(I:Inv X pins Z H s):∀x c,X.env.cells.lookup x=Wn c->c≠X.env.locals:=λx c e z=>by obtain⟨v,o,ho,hd⟩:=I.cell x c e;obtain⟨m,⟨o',es,ep,ho',hd',_⟩,_⟩:=I.loc;rw[z,ho']at ho;cases ho;rw[hd']at hd;cases hd
theorem Inv.funs(I:Inv X pins Z H s):s.heap.FunFrames X.base X.outer:=by
 have all:∀(l:List Env),(∀b∈frs l,b∈X.fs)->X.s₀.heap.FunFrames X.base l->s.heap.FunFrames X.base l:=by
  intro l;induction l with
  |nil=>intro _ _;trivial
  |cons env r ih=>intro hs hl;obtain⟨hk,⟨L,o,hf,hn,ho,hd⟩,hr⟩:=hl;have hL:L∈X.fs:=hs L (by unfold frs;rw[List.filterMap_cons,hf];exact Oi);obtain⟨sl,e⟩:=I.base.slot L o ho (I.ok.frf L hL) hL λz=>I.ok.exfs L z hL;exact⟨hk,⟨L,_,hf,hn,e,hd⟩,ih (λb hb=>hs b (by unfold frs;rw[List.filterMap_cons,hf];exact Oh _ hb)) hr⟩
 exact all X.outer (λ_ hb=>hb) I.ok.funs
theorem Inv.stack(I:Inv X pins Z H s):s.heap.FunFrames X.base X.stack:=by
 rcases I.ok.stk with e|⟨e,hf⟩
 . rw[e];exact I.funs
 . rw[e];obtain⟨m,hn,_⟩:=I.loc;refine .cons (by rw[I.ok.kind];decide) hf hn ?_ I.funs;exact Heap.get?_none_of_le (OE I.ok.bsz I.ok.above)
def Inv.stkSub(I:Inv X pins Z H s):∀b∈frs X.stack,b∈X.env.locals::X.fs:=λb hb=>by
 rcases I.ok.stk with e|⟨e,hf⟩
 . rw[e]at hb;exact Oh _ hb
 . rw[e]at hb;unfold frs at hb;rw[List.filterMap_cons,hf]at hb;exact hb
def Inv.stkFree(I:Inv X pins Z H s):∀b∈frs X.stack,H b=Wo:=λb hb=>by
 rcases O2.mp (I.stkSub b hb)with e|hb
 . rw[e];exact I.free
 . obtain⟨_,o,ho,_⟩:=I.ok.funs.mem hb;exact I.base.free b o ho (I.ok.frf b hb) λz=>I.ok.exfs b z hb
def Inv.step{g':Array GenState}{t':Nat}{d':Drawn}{ch:List Yi}(I:Inv X pins Z H s)
 (hch:∀b∈ch,(b∈X.ex\/X.s₀.heap.objs.size<=b)/\b≠X.env.locals/\(∀x c,X.env.cells.lookup x=Wn c->c≠b)/\∀p∈X.pn++pins,p.1≠b)
 (keep:∀b o,b≠X.env.locals->b ∉ X.fs->b ∉ ch->s.heap.get? b=Wn o->H b=Wo->h'.get? b=Wn o)
 (slot:∀b o,b≠X.env.locals->b∈X.fs->b ∉ ch->s.heap.get? b=Wn o->H b=Wo->∃sl,h'.get? b=Wn {o with slots:=sl}) (free:∀b o,b ∉ ch->s.heap.get? b=Wn o->H b=Wo->H' b=Wo)
 (there:∀b o,b ∉ ch->s.heap.get? b=Wn o->∃o',h'.get? b=Wn o')
 (tups:∀b xs,H b=Wn (.tup xs)->H' b=Wn (.tup xs)) (frzs:∀b o u,H b=Wn (.frz o u)->H' b=Wn (.frz o u)) (tbls:∀b ps,H b=Wn (.tbl ps)->∃more,H' b=Wn (.tbl (ps++more)))
 (ns:∀m,s.heap.Ns X.env.locals m->h'.Ns X.env.locals m) (hok:HOk X.prog X.w H' h') (hg:AllBare g') :
 Inv X pins Z H' {s with heap:=h',gens:=g',drawn:=d',toks:=t'}:=by
 have neL:∀b o,X.s₀.heap.get? b=Wn o->b≠X.env.locals:=λb o e=>Ou (Ot (Ym e) I.ok.above);have neC:∀b o,X.s₀.heap.get? b=Wn o->b ∉ X.ex->b ∉ ch:=λb o e hx hb=>by
  rcases(hch b hb).1 with z|z
  . exact hx z
  . exact absurd (Ot (Ym e) z) (Yv _)
 have cellK:∀x c,X.env.cells.lookup x=Wn c->∀v,s.heap.IsCell c v->h'.IsCell c v:=λx c e v ⟨o,ho,hd⟩=>by
  have nch:c ∉ ch:=λz=>(hch c z).2.2.1 x c e rfl;by_cases hc:c∈X.fs
  . obtain⟨sl,q⟩:=slot c o (I.cne x c e) hc nch ho (I.freeC x c e);exact⟨_,q,hd⟩
  . exact⟨o,keep c o (I.cne x c e) hc nch ho (I.freeC x c e),hd⟩
 refine⟨I.ok,I.os,hg,⟨λb o e n hb hx=>?_,λb o e n hb hx=>?_,λb o e n hx=>?_,λb o e hx=>?_,λb xs e=>tups b xs (I.base.tups b xs e),λb o xs e=>frzs b o xs (I.base.frzs b o xs e),λb ps e=>?_⟩,?_,λx c e=>?_,?_,λx c e=>?_,λp hp=>?_,hok,I.len⟩
 . exact keep b o (neL b o e) hb (neC b o e hx) (I.base.keep b o e n hb hx) (I.base.free b o e n hx)
 . obtain⟨sl,e1⟩:=I.base.slot b o e n hb hx;obtain⟨sl',e2⟩:=slot b _ (neL b o e) hb (neC b o e hx) e1 (I.base.free b o e n hx);exact⟨sl',e2⟩
 . obtain⟨o',e1⟩:=I.base.there b o e hx;exact free b o' (neC b o e hx) e1 (I.base.free b o e n hx)
 . obtain⟨o',e1⟩:=I.base.there b o e hx;exact there b o' (neC b o e hx) e1
 . obtain⟨m1,e1⟩:=I.base.tbls b ps e;obtain⟨m2,e2⟩:=tbls b _ e1;exact⟨m1++m2,by rw[e2,Array.append_assoc]⟩
 . obtain⟨m,hn,hl⟩:=I.loc;refine⟨m,ns m hn,λi x v e1 e2 e3=>?_⟩;obtain⟨u,r,l⟩:=hl i x v e1 e2 e3;refine⟨u,r,?_⟩;rcases l with l|⟨k,c,e,z⟩
   . exact .inl l
   . exact .inr ⟨k,c,e,cellK x c e _ z⟩
 . obtain⟨v,z⟩:=I.cell x c e;exact⟨v,cellK x c e v z⟩
 . obtain⟨m,⟨o,_,_,ho,_⟩,_⟩:=I.loc;exact free _ o (λz=>(hch _ z).2.1 rfl) ho I.free
 . obtain⟨v,o,ho,hd⟩:=I.cell x c e;exact free c o (λz=>(hch c z).2.2.1 x c e rfl) ho (I.freeC x c e)
 . obtain⟨e,n,ne,nf,d⟩:=I.pin p hp;have nch:p.1 ∉ ch:=λz=>(hch p.1 z).2.2.2 p hp rfl;exact⟨keep p.1 p.2 ne nf nch e n,free p.1 p.2 nch e n,ne,nf,d⟩
theorem Inv.un{t':Nat}(I:Inv X pins Z H s)(u:Un X.fs [] H H' s.heap h')(hok:HOk X.prog X.w H' h'):Inv X pins Z H' {s with heap:=h',toks:=t'}:=by
 obtain ⟨m,⟨o,es,ep,ho,r⟩,_⟩:=id I.loc;obtain ⟨sl,hL⟩:=u.any ho I.free (by simp);exact I.step (g':=s.gens) (d':=s.drawn) (ch:=[]) (fun _ z=>nomatch z) (fun b o _ hb _ e n=>u.keep b o e n hb (by simp)) (fun b o _ hb _ e n=>u.slot b o e n hb (by simp)) (fun b o _ e n=>u.free b o e n (by simp)) (fun b o _ e=>u.there b o e (by simp)) u.tups u.frzs u.tbls (fun m' hm=>by
   obtain ⟨o',es',ep',ho',r'⟩:=hm;rw [ho] at ho';cases ho';exact ⟨_,es',ep',hL,r'⟩) hok I.bare
theorem Inv.call{g':Array GenState}{t':Nat}{d':Drawn}{ch:List Yi}(I:Inv X pins Z H s)(u:Un (frs X.stack) ch H H' s.heap h')(hok:HOk X.prog X.w H' h')(hg:AllBare g')
   (hch:∀ b∈ch,(b∈X.ex\/X.s₀.heap.objs.size<=b)/\b≠X.env.locals/\(∀ x c,X.env.cells.lookup x=Wn c->c≠b)/\∀ p∈X.pn++pins,p.1≠b) :
   Inv X pins Z H' {s with heap:=h',gens:=g',drawn:=d',toks:=t'}:=by
 obtain ⟨m,⟨o,es,ep,ho,r⟩,_⟩:=id I.loc;obtain ⟨sl,hL⟩:=u.any ho I.free fun z=>(hch _ z).2.1 rfl;exact I.step (ch:=ch) hch (fun b o hL hb hc e n=>u.keep b o e n (fun z=>(O2.mp (I.stkSub b z)).elim hL hb) hc) (fun b o _ _ hc e n=>u.any e n hc) (fun b o hc e n=>u.free b o e n hc) (fun b o hc e=>u.there b o e hc) u.tups u.frzs u.tbls (fun m' hm=>by
   obtain ⟨o',es',ep',ho',r'⟩:=hm;rw [ho] at ho';cases ho';exact ⟨_,es',ep',hL,r'⟩) hok hg
def Inv.turned{t':Nat}{it:Yi}(I:Inv X pins Z H s)(k:∀b o,b≠it->s.heap.get? b=Wn o->h'.get? b=Wn o)(hn:H it=Wo)(hL:it≠X.env.locals)
 (h1:it∈X.ex\/X.s₀.heap.objs.size<=it) (h2:∀x c,X.env.cells.lookup x=Wn c->c≠it) (h3:∀p∈X.pn++pins,p.1≠it):Inv X pins Z H {s with heap:=h',toks:=t'}:=by
 have nit:∀b u,H b=Wn u->b≠it:=λb u e z=>by rw[z,hn]at e;cases e
 refine I.step (g':=s.gens) (d':=s.drawn) (ch:=[it]) (λb hb=>?_) (λb o _ _ hc e _=>k b o (λz=>hc (by simp[z])) e) (λb o _ _ hc e _=>⟨o.slots,k b o (λz=>hc (by simp[z])) e⟩) (λ_ _ _ _ n=>n)
  (λb o hc e=>⟨o,k b o (λz=>hc (by simp[z])) e⟩) (λ_ _ e=>e) (λ_ _ _ e=>e) (λb ps e=>⟨#[],by rw[e];simp⟩) (λm hm=>?_) (λb u e=>?_) I.bare
 . have e:b=it:=by simpa using hb
   subst e;exact⟨h1,hL,h2,h3⟩
 . obtain⟨o,es,ep,ho,r⟩:=hm;exact⟨o,es,ep,k _ o (YK hL) ho,r⟩
 . refine(I.hok b u e).stay (λc v hc q=>k c v ?_ q) (λ_ q=>q) λ_ _ q=>q;rcases hc with z|z
   . rw[z];exact nit b u e
   . exact nit c _ z
def Inv.tok(I:Inv X pins Z H s)(t:Nat):Inv X pins Z H {s with toks:=t}:=I.un (h':=s.heap) (t':=t) Un.refl I.hok
theorem Inv.kept{t':Nat}(I:Inv X pins Z H s)(k:∀b u,s.heap.get? b=Wn u->h'.get? b=Wn u):Inv X pins Z H {s with heap:=h',toks:=t'}:=I.un (Un.kept k) (I.hok.kept k)
theorem Inv.laid{a:Yi}{o:HO}{t':Nat}(I:Inv X pins Z H s)(k:∀b u,s.heap.get? b=Wn u->h'.get? b=Wn u)(hp:s.heap.objs.size<=a)(new:ZS X.prog X.w (upd H a o) h' a o):
 Inv X pins Z (upd H a o) {s with heap:=h',toks:=t'}:=I.un (Un.laid k hp (I.hok.fresh hp)) (I.hok.laid k hp new)
theorem Inv.write(I:Inv X pins Z H s)(mu:Mut (H x))(he:e=x\/H e=Wn (.own x))(k:∀b u,b≠e->s.heap.get? b=Wn u->h'.get? b=Wn u)(heo:∃u,h'.get? e=Wn u)
 (new:ZS X.prog X.w (upd H x o) h' x o):Inv X pins Z (upd H x o) {s with heap:=h',toks:=t'}:=I.un (Un.write mu he k heo) (I.hok.write mu he k heo new)
def Inv.weak(I:Inv X pins Z H s)(hl:σ'.length=Z.length)(w:∀(i:Nat) v,σ'[i]? = Wn (Wn v)->Z[i]? = Wn (Wn v)):Inv X pins σ' H s:=⟨I.ok,I.os,I.bare,I.base,let ⟨m,hn,hl'⟩:=I.loc;⟨m,hn,λi x v e1 e2 e3=>hl' i x v e1 (w i v e2) e3⟩,I.cell,I.free,I.freeC,I.pin,I.hok,hl.trans I.len⟩
def Inv.pins_of(I:Inv X pins Z H s)(h:∀p∈pins',s.heap.get? p.1=Wn p.2/\H p.1=Wo/\p.1≠X.env.locals/\p.1 ∉ X.fs/\∀v,p.2.data≠.cell v):Inv X pins' Z H s:=⟨I.ok,I.os,I.bare,I.base,I.loc,I.cell,I.free,I.freeC,λp hp=>(OD.mp hp).elim (λz=>I.pin p (Yr _ z)) (h p),I.hok,I.len⟩
def ZgF{N:List Str}(hN:N.Nodup){i j:Nat}{x:Str}(a:N[i]? = Wn x)(b:N[j]? = Wn x):i=j:=by obtain⟨h1,e1⟩:=Ob.mp a;obtain⟨h2,e2⟩:=Ob.mp b;exact(List.getElem_inj hN).mp (e1.trans e2.symm)
def ZhI{M:Model}{A:YG}{Q:Unit->Yb->Prop}(I:Inv X pins Z H s)(hN:X.N.Nodup)(hi:X.N[i]? = Wn x)(hx:Loc X.env.scope x)(r:RelV v u)
 (h:∀s',Inv X pins (Z.set i (Wn v)) H s'->(∃a,Heap.SameBut a s.heap s'.heap/\(a=X.env.locals\/X.env.cells.lookup x=Wn a))->Q () s') (hf:X.fn x=Wp\/X.env.scope.names.lookup x=Wn .local:=by first|exact .inl rfl|exact .inr rfl|assumption):YA M A (storeName X.env x u) Q E s:=by
 obtain⟨m,hn,hl⟩:=id I.loc;have hcls:(X.env.scope.kind==.class || (X.env.scope.kind==.module&&X.env.locals != X.env.globals))=Wq:=by rw[I.ok.kind];rfl
 have hiσ:i<Z.length:=by rw[I.len];exact(Ob.mp hi).1
 have cne:=I.cne;have tracked:∀{a:Yi}{h':YF},(∃o,s.heap.get? a=Wn o/\H a=Wo)->Heap.SameBut a s.heap h'->HOk X.prog X.w H h':=λ{a h'} ha hs b ob e=>by
  obtain⟨_,_,hfree⟩:=ha;refine(I.hok b ob e).stay (λc w' hc q=>(hs.2 c ?_).trans q) (λ_ q=>q) λ_ _ q=>q;rintro rfl;rcases hc with rfl|hc
  . rw[hfree]at e;cases e
  . rw[hfree]at hc;cases hc
 rcases hx with hk|hk
 . refine wpAny_storeName_local hk hn (λh' hn' hs=>?_) hcls;obtain⟨oL,_,_,hoL,_⟩:=id hn;refine h _ ⟨I.ok,I.os,I.bare,⟨λb o e n hb hx=>?_,λb o e n hb hx=>?_,I.base.free,λb o e hx=>?_,I.base.tups,I.base.frzs,I.base.tbls⟩,⟨_,hn',λj y v' e1 e2 e3=>?_⟩,λy c e=>?_,I.free,I.freeC,λp hp=>?_,tracked ⟨oL,hoL,I.free⟩ hs,by simpa using I.len⟩ ⟨_,hs,.inl rfl⟩
   . exact(hs.2 b (Ou (Ot (Ym e) I.ok.above))).trans (I.base.keep b o e n hb hx)
   . obtain⟨sl,e1⟩:=I.base.slot b o e n hb hx;exact⟨sl,(hs.2 b (Ou (Ot (Ym e) I.ok.above))).trans e1⟩
   . obtain⟨o',e1⟩:=I.base.there b o e hx;exact⟨o',(hs.2 b (Ou (Ot (Ym e) I.ok.above))).trans e1⟩
   . by_cases hj:j=i
     . subst hj;rw[hi]at e1;cases e1;rw[Ol hiσ]at e2;cases e2;exact⟨u,r,.inl ⟨hk,by simp⟩⟩
     . rw[Oc (YK hj)]at e2;obtain⟨u',r',q⟩:=hl j y v' e1 e2 e3;refine⟨u',r',?_⟩;rcases q with ⟨k,e⟩|⟨k,c,e,z⟩
       . refine .inl ⟨k,?_⟩;have:y≠x:=λe=>hj (ZgF hN e1 (e ▸ hi));simp[this,e]
       . exact .inr ⟨k,c,e,z.sameBut hs (cne y c e)⟩
   . obtain⟨w',z⟩:=I.cell y c e;exact⟨w',z.sameBut hs (cne y c e)⟩
   . obtain⟨e,n,ne,nf,d⟩:=I.pin p hp;exact⟨(hs.2 p.1 ne).trans e,n,ne,nf,d⟩
 . have hfn:X.fn x=Wp:=by
    rcases hf with z|z
    . exact z
    . rw[z]at hk;cases hk
   obtain⟨c,hc⟩:=I.ok.has x (.inl hk);obtain⟨w',z⟩:=I.cell x c hc;refine wpAny_storeName_cell I.ok.kind hk hc z (λh' hc' hs=>?_);obtain⟨oc,hoc,hocd⟩:=id z;refine h {s with heap:=h'} ⟨I.ok,I.os,I.bare,⟨λb o e n hb hx=>?_,λb o e n hb hx=>?_,I.base.free,λb o e hx=>?_,I.base.tups,I.base.frzs,I.base.tbls⟩,⟨m,hn.sameBut hs (YK (cne x c hc)),λj y v' e1 e2 e3=>?_⟩,λy c' e=>?_,I.free,I.freeC,λp hp=>?_,tracked ⟨oc,hoc,I.freeC x c hc⟩ hs,by simpa using I.len⟩ ⟨c,hs,.inr hc⟩
   . exact(hs.2 b (Ou (Ot (Ym e) (I.ok.cab x c hfn hc)))).trans (I.base.keep b o e n hb hx)
   . obtain⟨sl,e1⟩:=I.base.slot b o e n hb hx;exact⟨sl,(hs.2 b (Ou (Ot (Ym e) (I.ok.cab x c hfn hc)))).trans e1⟩
   . obtain⟨o',e1⟩:=I.base.there b o e hx;exact⟨o',(hs.2 b (Ou (Ot (Ym e) (I.ok.cab x c hfn hc)))).trans e1⟩
   . by_cases hj:j=i
     . subst hj;rw[hi]at e1;cases e1;rw[Ol hiσ]at e2;cases e2;exact⟨u,r,.inr ⟨.inl hk,c,hc,hc'⟩⟩
     . rw[Oc (YK hj)]at e2;obtain⟨u',r',q⟩:=hl j y v' e1 e2 e3;refine⟨u',r',?_⟩;rcases q with q|⟨k,c',e,z'⟩
       . exact .inl q
       . refine .inr ⟨k,c',e,z'.sameBut hs ?_⟩;rintro rfl;exact hj (ZgF hN e1 (I.ok.inj _ _ _ e hc ▸ hi))
   . by_cases hcc:c'=c
     . subst hcc;exact⟨_,hc'⟩
     . obtain⟨w2,z2⟩:=I.cell y c' e;exact⟨w2,z2.sameBut hs hcc⟩
   . obtain⟨e,n,ne,nf,d⟩:=I.pin p hp;refine⟨(hs.2 p.1 ?_).trans e,n,ne,nf,d⟩;intro q;rw[q,hoc]at e;have q':oc=p.2:=YE e;exact d w' (by rw[<- q'];exact hocd)
def ZeK(I:Inv X pins Z H s)(hN:X.N.Nodup)(hi:X.N[i]? = Wn x)(hx:Loc X.env.scope x)(r:RelV v u)
 (h:∀s',Inv X pins (Z.set i (Wn v)) H s'->Q () s') (hf:X.fn x=Wp\/X.env.scope.names.lookup x=Wn .local:=by first|exact .inl rfl|exact .inr rfl|assumption):YA M A (storeName X.env x u) Q E s:=
 ZhI I hN hi hx r (λs' I' _=>h s' I') hf
def Inv.call'(I:Inv X pins Z H s)(ho:s'.os=s.os)(u:Un (frs X.stack) ch H H' s.heap s'.heap)(hok:HOk X.prog X.w H' s'.heap)(hg:AllBare s'.gens)
 (hch:∀b∈ch,(b∈X.ex\/X.s₀.heap.objs.size<=b)/\b≠X.env.locals/\(∀x c,X.env.cells.lookup x=Wn c->c≠b)/\∀p∈X.pn++pins,p.1≠b):Inv X pins Z H' s':=by
 obtain⟨h',g',d',t',o'⟩:=s';have e:o'=s.os:=ho;subst e;exact I.call (g':=g') (t':=t') (d':=d') u hok hg hch
end
abbrev XK:=Yj->Option Yi->Hp->Prop
noncomputable abbrev St:=List (Option V)
abbrev VK:=V->Hp->Prop
abbrev TE:=St->Hp->VK->Prop
abbrev TT:=St->Hp->(Bool->Hp->Prop)->Prop
abbrev TA:=St->Hp->(List V->Hp->Prop)->Prop
structure Ends where
 nx:St->Hp->Prop
 rt:VK
 bk:St->Hp->Prop:=λ_ _=>False
 ct:St->Hp->Prop:=λ_ _=>False
abbrev TS:=Ends->St->Hp->Prop
def EP(X:Cx)(pins:List (Yi×Obj))(Z:St)(Q:VK)(u:Yj)(s':Yb):Prop:=∃v H',Inv X pins Z H' s'/\RelV v u/\Q v H'
def TP(X:Cx)(pins:List (Yi×Obj))(Z:St)(Q:Bool->Hp->Prop)(b:Bool)(s':Yb):Prop:=∃H',Inv X pins Z H' s'/\Q b H'
def AP(X:Cx)(pins:List (Yi×Obj))(Z:St)(Q:List V->Hp->Prop)(us:List Yj)(s':Yb):Prop:=∃vs H',Inv X pins Z H' s'/\Zj vs us/\Q vs H'
def SP(X:Cx)(pins:List (Yi×Obj))(D:Ends)(f:Flow)(s':Yb):Prop:=
 match f with
 |.next=>∃σ' H',Inv X pins σ' H' s'/\D.nx σ' H'
 |.brk=>∃σ' H',Inv X pins σ' H' s'/\D.bk σ' H'
 |.cont=>∃σ' H',Inv X pins σ' H' s'/\D.ct σ' H'
 |.ret u=>∃v σ' H',Inv X pins σ' H' s'/\RelV v u/\D.rt v H'
def PE(X:Cx)(e:Expr)(t:TE):Prop:=∀(pins:List (Yi×Obj)) (s:Yb) (Z:St) (H:Hp) (Q:VK),Inv X pins Z H s->t Z H Q->YA (model X.prog X.w) X.A (eval e X.env) (EP X pins Z Q) X.xe s
def PT(X:Cx)(e:Expr)(t:TT):Prop:=∀(pins:List (Yi×Obj)) (s:Yb) (Z:St) (H:Hp) (Q:Bool->Hp->Prop),Inv X pins Z H s->t Z H Q->YA (model X.prog X.w) X.A (isTrue e X.env (eval e X.env)) (TP X pins Z Q) X.xe s
def PW(X:Cx)(e:Expr)(t:TT):Prop:=∀(whole:Sem Yj) (pins:List (Yi×Obj)) (s:Yb) (Z:St) (H:Hp) (Q:Bool->Hp->Prop),Inv X pins Z H s->t Z H Q->YA (model X.prog X.w) X.A (isTrue e X.env whole) (TP X pins Z Q) X.xe s
def PW.pt(h:PW X e t):PT X e t:=h _
def PA(X:Cx)(es:List Expr)(t:TA):Prop:=∀(pos:Pos) (pins:List (Yi×Obj)) (s:Yb) (Z:St) (H:Hp) (Q:List V->Hp->Prop),Inv X pins Z H s->t Z H Q->YA (model X.prog X.w) X.A (spliced (YR pos (Yz es X.env))) (AP X pins Z Q) X.xe s
def PS(X:Cx)(st:Stmt)(t:TS):Prop:=∀(pins:List (Yi×Obj)) (s:Yb) (Z:St) (H:Hp) (D:Ends),Inv X pins Z H s->t D Z H->YA (model X.prog X.w) X.A (exec st X.env) (SP X pins D) X.xe s
def PSs(X:Cx)(st:List Stmt)(t:TS):Prop:=∀(pins:List (Yi×Obj)) (s:Yb) (Z:St) (H:Hp) (D:Ends),Inv X pins Z H s->t D Z H->YA (model X.prog X.w) X.A (execs st X.env) (SP X pins D) X.xe s
def thn(h:YA M A t Q E s)(hQ:∀a s,Q a s->Q' a s):YA M A t Q' E s:=Yf h hQ λ_ _ x=>x
section
variable {X:Cx}
noncomputable def Zxn(i:Nat):TE:=λZ H Q=>∃v,Z[i]? = Wn (Wn v)/\Q v H
noncomputable def tC(v:V):TE:=λ_ H Q=>Q v H
def Zor(hN:X.N[i]? = Wn x)(hv:Vis X.env.scope x)(hd:(x==("__debug__" : Str))=Wq:=by decide)(hcd:(x==("__classdict__" : Str))=Wq:=by decide):PE X (.Name x pos) (Zxn i):=by
 intro pins s Z H Q I h;obtain⟨v,e,h⟩:=h;obtain⟨m,hn,hl⟩:=I.loc;obtain⟨u,r,l⟩:=hl i x v hN e hv;have fin:EP X pins Z Q u s:=⟨v,H,I,r,h⟩
 rcases l with ⟨hk,hm⟩|⟨hk,c,hc,hcell⟩
 . exact wpAny_Name (wpAny_loadName_local I.ok.kind hk hn hm fin) hd
 . rcases hk with hk|hk
   . exact wpAny_Name (wpAny_loadName_cell I.ok.kind hk hc hcell fin) hd
   . exact wpAny_Name (wpAny_loadName_free I.ok.kind hk hc hcell fin hcd) hd
def Zts{i j pos}:PE X (.Constant (.int i) j pos) (tC (.int i)):=λ_ _ _ H _ I h=>wpAny_Constant_int ⟨.int i,H,I.tok _,⟨_,rfl⟩,h⟩
def Zsj{b j pos}:PE X (.Constant (.bool b) j pos) (tC (.bl b)):=λ_ _ _ H _ I h=>Constant_bool ⟨.bl b,H,I,rfl,h⟩
def Ztr{j pos}:PE X (.Constant .none j pos) (tC .non):=λ_ _ _ H _ I h=>Constant_none ⟨.non,H,I,rfl,h⟩
def Ztp{x j pos}:PE X (.Constant (.str x) j pos) (tC (.str x)):=λ_ _ _ H _ I h=>Calls.Constant_str ⟨.str x,H,I.tok _,⟨_,rfl⟩,h⟩
def Gl(X:Cx)(x:Str):Prop:=X.env.kindOf x=Wn .globalImplicit
def Zbv(I:Inv X pins Z H s)(hg:Gl X x)(hm:X.mg x=Wn u)(h:Q u s)
 (hd:(x==("__debug__" : Str))=Wq:=by decide):YA (model X.prog X.w) X.A (eval (.Name x pos) X.env) Q E s:=
 Calls.Name_function_global I.ok.kind hg (Calls.loadGlobal_global (by rw[I.ok.glob];exact I.mod.glob.keeps I.bk) hm h) hd
def Zcm(I:Inv X pins Z H s)(hg:Gl X x)(hm:X.mg x=Wo)(hv:bootBuiltins x=Wn u)(h:Q u s)
 (hn:x ≠ "__name__" := by decide) (hd:(x==("__debug__" : Str))=Wq:=by decide):YA (model X.prog X.w) X.A (eval (.Name x pos) X.env) Q E s:=by
 obtain⟨mb,h1,h2⟩:=I.mod.blt;exact Calls.Name_function_global I.ok.kind hg (Calls.loadGlobal_builtin (by rw[I.ok.glob];exact I.mod.glob.keeps I.bk) hm (by rw[I.ok.blt];exact h1.keeps I.bk) ((h2 x hn).trans hv) h) hd
def ZlU(hg:Gl X x)(hm:X.mg x=Wn u)(r:RelV v u)(hd:(x==("__debug__" : Str))=Wq:=by decide):PE X (.Name x pos) (tC v):=λ_ _ _ H _ I h=>Zbv I hg hm ⟨v,H,I,r,h⟩ hd
def ZlW(hg:Gl X x)(hm:X.mg x=Wo)(hv:bootBuiltins x=Wn u)(r:RelV v u)(hn:x ≠ "__name__" := by decide)(hd:(x==("__debug__" : Str))=Wq:=by decide):PE X (.Name x pos) (tC v):=λ_ _ _ H _ I h=>Zcm I hg hm hv ⟨v,H,I,r,h⟩ hn hd
variable {a b:Expr}{ta tb:TE}{pos:Pos}
variable {tA tB':TT}{rest:List Expr}
noncomputable def ZxB(t u:TT):TT:=λZ H Q=>t Z H λc H1=>if c=Wp then u Z H1 Q else Q Wq H1
noncomputable def tOr(t u:TT):TT:=λZ H Q=>t Z H λc H1=>if c=Wp then Q Wp H1 else u Z H1 Q
noncomputable def Zxs(t:TT):TT:=λZ H Q=>t Z H λc H1=>Q (!c) H1
def Zqw(ha:PT X a tA):PW X (.BoolOp .And [a] pos) tA:=by
 intro wh pins s Z H Q I h;refine isTrue_and (thn (ha pins s Z H Q I h) λc s1 e=>?_);cases c with
 |true=>exact isTrue_and_nil e
 |false=>exact e
def Zte(ha:PT X a tA):PW X (.BoolOp .Or [a] pos) tA:=by
 intro wh pins s Z H Q I h;refine isTrue_or (thn (ha pins s Z H Q I h) λc s1 e=>?_);cases c with
 |false=>exact isTrue_or_nil e
 |true=>exact e
def Ztf(ha:PT X a tA)(hb:PW X (.BoolOp .And (b::rest) pos) tB'):PW X (.BoolOp .And (a::b::rest) pos) (ZxB tA tB'):=by
 intro wh pins s Z H Q I h;refine isTrue_and (thn (ha pins s Z H _ I h) λc s1 ⟨H1,I1,q1⟩=>?_);cases c with
 |true=>exact hb wh pins s1 Z H1 Q I1 q1
 |false=>exact⟨H1,I1,q1⟩
def ZvL(ha:PT X a tA)(hb:PW X (.BoolOp .Or (b::rest) pos) tB'):PW X (.BoolOp .Or (a::b::rest) pos) (tOr tA tB'):=by
 intro wh pins s Z H Q I h;refine isTrue_or (thn (ha pins s Z H _ I h) λc s1 ⟨H1,I1,q1⟩=>?_);cases c with
 |true=>exact⟨H1,I1,q1⟩
 |false=>exact hb wh pins s1 Z H1 Q I1 q1
def Zth(ha:PT X a tA):PT X (.UnaryOp .Not a pos) (Zxs tA):=by intro pins s Z H Q I h;exact isTrue_not (ha pins s Z H (λc H1=>Q (!c) H1) I h)
def Zvr(ta tb:TE):TE:=λZ H Q=>ta Z H λx H1=>∃c,x=.bl c/\if c=Wp then tb Z H1 Q else Q (.bl Wq) H1
def Zxr(ta tb:TE):TE:=λZ H Q=>ta Z H λx H1=>∃c,x=.bl c/\if c=Wp then Q (.bl Wp) H1 else tb Z H1 Q
noncomputable def Zvk(ta:TE):TE:=λZ H Q=>ta Z H λx H1=>∃c,x=.bl c/\Q (.bl (!c)) H1
def Zot{op}(h:PE X a t):PE X (.BoolOp op [a] pos) t:=λpins s Z H Q I hw=>BoolOp_one (h pins s Z H Q I hw)
def Ztx(ha:PE X a ta)(hb:PE X (.BoolOp .And (b::rest) pos) tb):PE X (.BoolOp .And (a::b::rest) pos) (Zvr ta tb):=by
 intro pins s Z H Q I h;refine BoolOp_and (thn (ha pins s Z H _ I h) λv s1 ⟨x,H1,I1,r1,q1⟩=>?_);obtain⟨c,rfl,q1⟩:=q1;cases r1;refine wpAny_truthy_bool ?_;cases c with
 |true=>exact hb pins s1 Z H1 Q I1 q1
 |false=>exact⟨.bl Wq,H1,I1,rfl,q1⟩
def ZvQ(ha:PE X a ta)(hb:PE X (.BoolOp .Or (b::rest) pos) tb):PE X (.BoolOp .Or (a::b::rest) pos) (Zxr ta tb):=by
 intro pins s Z H Q I h;refine BoolOp_or (thn (ha pins s Z H _ I h) λv s1 ⟨x,H1,I1,r1,q1⟩=>?_);obtain⟨c,rfl,q1⟩:=q1;cases r1;refine wpAny_truthy_bool ?_;cases c with
 |false=>exact hb pins s1 Z H1 Q I1 q1
 |true=>exact⟨.bl Wp,H1,I1,rfl,q1⟩
def Ztq(ha:PE X a ta):PE X (.UnaryOp .Not a pos) (Zvk ta):=by intro pins s Z H Q I h;refine UnaryOp_ (thn (ha pins s Z H _ I h) λv s1 ⟨x,H1,I1,r1,q1⟩=>?_);obtain⟨c,rfl,q1⟩:=q1;cases r1;exact not_of (wpAny_truthy_bool ⟨.bl (!c),H1,I1,rfl,q1⟩)
def tIf(t:TT)(ta tb:TE):TE:=λZ H Q=>t Z H λc H1=>if c=Wp then ta Z H1 Q else tb Z H1 Q
def Zox(hc:PT X c tA)(ha:PE X a ta)(hb:PE X b tb):PE X (.IfExp c a b pos) (tIf tA ta tb):=by
 intro pins s Z H Q I h;refine wpAny_IfExp (thn (hc pins s Z H _ I h) λd s1 ⟨H1,I1,q1⟩=>?_);cases d with
 |true=>exact ha pins s1 Z H1 Q I1 q1
 |false=>exact hb pins s1 Z H1 Q I1 q1
end
def SqL(K:Yk)(H:Hp)(a:Yi)(xs:List V):Prop:=
 Rd H a (.lst xs) \/
  ∃(o:Obj) (its:Array Yj) (n:Nat),K.lookup a=Wn o/\o.cls=.type "list" /\ o.dict=Wo/\o.data=.seq its n/\its.size<=sizeLine/\Zj xs its.toList
def SqT(K:Yk)(H:Hp)(a:Yi)(xs:List V):Prop:=
 Rd H a (.tup xs) \/
  ∃(o:Obj) (its:Array Yj) (n:Nat),K.lookup a=Wn o/\o.cls=.type "tuple" /\ o.data=.seq its n/\its.size<=sizeLine/\Zj xs its.toList
noncomputable def Zyr:Yj->Option V
 |.none=>Wn .non
 |.bool b=>Wn (.bl b)
 |.int i _=>Wn (.int i)
 |.str x _=>Wn (.str x)
 |.bytes b _=>Wn (.byt b)
 |.float b _=>Wn (.flt b)
 |.ref a=>Wn (.ref a)
 |.type n=>Wn (.ty n)
 |_=>Wo
def RelV.abs(r:RelV x u):Zyr u=Wn x:=by
 cases x with
 |non=>cases r;rfl
 |bl _=>cases r;rfl
 |int _=>obtain⟨t,rfl⟩:=r;rfl
 |str _=>obtain⟨t,rfl⟩:=r;rfl
 |byt _=>obtain⟨t,rfl⟩:=r;rfl
 |flt _=>obtain⟨t,rfl⟩:=r;rfl
 |ref _=>cases r;rfl
 |ty _=>cases r;rfl
def RelV.inj(r:RelV x u)(q:RelV y u):x=y:=YE (r.abs.symm.trans q.abs)
theorem Zj.inj:∀{xs ys:List V}{us:List Yj},Zj xs us->Zj ys us->xs=ys
 |_,_,_,.nil,.nil=>rfl
 |_,_,_,.cons r t,.cons r' t'=>by rw[r.inj r',Zj.inj t t']
section
variable {X:Cx}{pins:List (Yi×Obj)}{Z:St}{H:Hp}{s:Yb}{a:Yi}{xs ys:List V}
def SqL.of{K:Yk}(h:H a=Wn (.lst xs)):SqL K H a xs:=.inl (.inl h)
def Inv.list(I:Inv X pins Z H s)(h:SqL X.K H a xs):∃its:List Yj,Zj xs its/\PlainL s.heap a its.toArray/\xs.length<=sizeLine:=by
 rcases h with h|⟨o,its,n,hk,hc,hd,hs,hz,r⟩
 . obtain⟨z,its,n,r,e⟩:=h.ok I.hok;exact⟨its,r,⟨_,n,e,rfl,rfl,rfl⟩,z⟩
 . refine⟨its.toList,r,⟨o,n,I.kIn a o hk,hc,hd,by simpa using hs⟩,?_⟩;have e:=r.length;simp only[Array.length_toList]at e
   lia
def Inv.tuple(I:Inv X pins Z H s)(h:SqT X.K H a xs):∃its:List Yj,Zj xs its/\IsTup s.heap a its.toArray/\xs.length<=sizeLine:=by
 rcases h with h|⟨o,its,n,hk,hc,hs,hz,r⟩
 . obtain⟨z,its,r,p⟩:=h.ok I.hok;exact⟨its,r,p.tup,z⟩
 . refine⟨its.toList,r,⟨o,I.kIn a o hk,hc,n,by simpa using hs⟩,?_⟩;have e:=r.length;simp only[Array.length_toList]at e
   lia
def Inv.list_inj(I:Inv X pins Z H s)(h:SqL X.K H a xs)(h':SqL X.K H a ys):xs=ys:=by
 obtain⟨its,r,⟨o,n,e,_,_,d⟩,_⟩:=I.list h;obtain⟨its',r',⟨o',n',e',_,_,d'⟩,_⟩:=I.list h';rw[e]at e';cases e';rw[d]at d';injection d' with d1 _;have:its=its':=by simpa using congrArg Array.toList d1
 subst this;exact r.inj r'
def Inv.tuple_inj(I:Inv X pins Z H s)(h:SqT X.K H a xs)(h':SqT X.K H a ys):xs=ys:=by
 obtain⟨its,r,⟨o,e,_,n,d⟩,_⟩:=I.tuple h;obtain⟨its',r',⟨o',e',_,n',d'⟩,_⟩:=I.tuple h';rw[e]at e';cases e';rw[d]at d';injection d' with d1 _;have:its=its':=by simpa using congrArg Array.toList d1
 subst this;exact r.inj r'
end
noncomputable abbrev Cx.wish(X:Cx)(E:Yj->Yb->Prop):Cx:={X with xe:=E}
abbrev Cx.nox(X:Cx):Cx:=X.wish λ_ _=>False
theorem Cx.Ok.wish{X:Cx}(ok:X.Ok)(E:Yj->Yb->Prop):(X.wish E).Ok:=⟨ok.mod,ok.kind,ok.glob,ok.blt,ok.above,ok.inj,ok.has,ok.cab,ok.hd,ok.frames,ok.stk,ok.exf,ok.bs,ok.bsz,ok.noex,ok.exfs,ok.funs,ok.frf⟩
def Cx.Ok.unwish{X:Cx}{E:Yj->Yb->Prop}(ok:(X.wish E).Ok):X.Ok:=⟨ok.mod,ok.kind,ok.glob,ok.blt,ok.above,ok.inj,ok.has,ok.cab,ok.hd,ok.frames,ok.stk,ok.exf,ok.bs,ok.bsz,ok.noex,ok.exfs,ok.funs,ok.frf⟩
section
variable {X:Cx}{pins:List (Yi×Obj)}{Z:St}{H:Hp}{s:Yb}{E:Yj->Yb->Prop}
theorem Inv.wish(I:Inv X pins Z H s)(E:Yj->Yb->Prop):Inv (X.wish E) pins Z H s:=⟨I.ok.wish E,I.os,I.bare,I.base,I.loc,I.cell,I.free,I.freeC,I.pin,I.hok,I.len⟩
theorem Inv.unwish(I:Inv (X.wish E) pins Z H s):Inv X pins Z H s:=⟨I.ok.unwish,I.os,I.bare,I.base,I.loc,I.cell,I.free,I.freeC,I.pin,I.hok,I.len⟩
end
section
variable {X:Cx}{st:Stmt}{rest:List Stmt}{t u:TS}{e:Expr}{te:TE}{pos:Pos}
noncomputable def Zr8:TS:=λD Z H=>D.nx Z H
noncomputable def Zxp(t u:TS):TS:=λD Z H=>t {D with nx:=u D} Z H
def Zqy:PSs X [] Zr8:=λ_ _ Z H _ I h=>wpAny_execs_nil ⟨Z,H,I,h⟩
def Zoj(h1:PS X st t)(h2:PSs X rest u):PSs X (st::rest) (Zxp t u):=by
 intro pins s Z H D I h;refine wpAny_execs_cons (thn (h1 pins s Z H {D with nx:=u D} I h) λf s1 q=>?_);cases f with
 |next=>obtain⟨σ',H',I',q⟩:=q;exact h2 pins s1 σ' H' D I' q
 |ret v=>exact q
 |brk=>exact q
 |cont=>exact q
def ZlQ(h1:PS X st t):PSs X [st] t:=by
 intro pins s Z H D I h;refine wpAny_execs_cons (thn (h1 pins s Z H D I h) λf s1 q=>?_);cases f with
 |next=>exact wpAny_execs_nil q
 |ret v=>exact q
 |brk=>exact q
 |cont=>exact q
noncomputable def ZsV:TS:=λD Z H=>D.bk Z H
noncomputable def Zvo:TS:=λD Z H=>D.ct Z H
def Zqz:PS X (.Pass pos) Zr8:=λ_ _ Z H _ I h=>wpAny_Pass ⟨Z,H,I,h⟩
def Zom:PS X (.Break pos) ZsV:=λ_ _ Z H _ I h=>wpAny_Break ⟨Z,H,I,h⟩
def Zjr:PS X (.Continue pos) Zvo:=λ_ _ Z H _ I h=>wpAny_Continue ⟨Z,H,I,h⟩
def Inv.quiet(I:Inv X pins Z H s):interactive X.env=Wq:=by simp[interactive,I.ok.kind]
noncomputable def Zvm(te:TE):TS:=λD Z H=>te Z H λ_ H1=>D.nx Z H1
def ZqA(he:PE X e te)(hs:swapsWith e Wo pos.line X.env=pure Wq:=by rfl):PS X (.Expr e pos) (Zvm te):=by intro pins s Z H D I h;exact wpAny_Expr_any (thn (he pins s Z H _ I h) λv s1 ⟨x,H1,I1,r1,q1⟩=>⟨Z,H1,I1,q1⟩) I.quiet hs
noncomputable def Zxq(te:TE):TS:=λD Z H=>te Z H D.rt
def Zol(he:PE X e te):PS X (.Return (Wn e) pos) (Zxq te):=by intro pins s Z H D I h;exact wpAny_Return_some (thn (he pins s Z H _ I h) λv s1 ⟨x,H1,I1,r1,q1⟩=>⟨x,Z,H1,I1,r1,q1⟩)
noncomputable def Zxv(c:TT)(t u:TS):TS:=λD Z H=>c Z H λb H1=>if b=Wp then t D Z H1 else u D Z H1
def ZvO(hc:PT X c tc)(ha:PSs X a t)(hb:PSs X b u):PS X (.If c a b pos) (Zxv tc t u):=by
 intro pins s Z H D I h;refine wpAny_If (thn (hc pins s Z H _ I h) λd s1 ⟨H1,I1,q1⟩=>?_);cases d with
 |true=>exact ha pins s1 Z H1 D I1 q1
 |false=>exact hb pins s1 Z H1 D I1 q1
end
abbrev TG:=V->St->Hp->(St->Hp->Prop)->Prop
abbrev TGs:=List V->St->Hp->(St->Hp->Prop)->Prop
def PG(X:Cx)(target:Expr)(t:TG):Prop:=
 ∀(pins:List (Yi×Obj)) (s:Yb) (Z:St) (H:Hp) (v:V) (u:Yj) (Q:St->Hp->Prop),Inv X pins Z H s->RelV v u->t v Z H Q ->
  YA (model X.prog X.w) X.A (assign target X.env u) (λ_ s'=>∃σ' H',Inv X pins σ' H' s'/\Q σ' H') X.xe s
def PGs(X:Cx)(ts:List Expr)(t:TGs):Prop:=
 ∀(pins:List (Yi×Obj)) (s:Yb) (Z:St) (H:Hp) (vs:List V) (us:List Yj) (Q:St->Hp->Prop),Inv X pins Z H s->Zj vs us->t vs Z H Q ->
  YA (model X.prog X.w) X.A (assignInOrder ((assignEach ts X.env).map (·.2)) us) (λ_ s'=>∃σ' H',Inv X pins σ' H' s'/\Q σ' H') X.xe s
abbrev ZnB:=V->V->V->Hp->(Hp->Prop)->Prop
def ZnD(X:Cx)(t:ZnB):Prop:=
 ∀(pins:List (Yi×Obj)) (s:Yb) (Z:St) (H:Hp) (o i v:V) (ov iv u:Yj) (Q:Hp->Prop),Inv X pins Z H s->RelV o ov->RelV i iv->RelV v u->t o i v H Q ->
  YA (model X.prog X.w) X.A (setItem ov iv u) (λ_ s'=>∃H',Inv X pins Z H' s'/\Q H') X.xe s
abbrev TIp:=V->V->Hp->VK->Prop
def PIp(X:Cx)(op:Operator)(t:TIp):Prop:=
 ∀(pins:List (Yi×Obj)) (s:Yb) (Z:St) (H:Hp) (x y:V) (v u:Yj) (Q:VK),Inv X pins Z H s->RelV x v->RelV y u->t x y H Q ->
  YA (model X.prog X.w) X.A (inplaceOp op v u) (EP X pins Z Q) X.xe s
section
variable {X:Cx}{pos:Pos}
noncomputable def ZcZ(i:Nat):TG:=λv Z H Q=>Q (Z.set i (Wn v)) H
def ZlT(hN:X.N.Nodup)(hi:X.N[i]? = Wn x)(hx:Loc X.env.scope x)(hf:X.fn x=Wp\/X.env.scope.names.lookup x=Wn .local:=by first|exact .inl rfl|exact .inr rfl|assumption):PG X (.Name x pos) (ZcZ i):=by intro pins s Z H v u Q I r h;exact wpAny_assign_Name (ZeK I hN hi hx r (λs' I'=>⟨_,H,I',h⟩) hf)
noncomputable def Zrv:TGs:=λvs Z H Q=>vs=[]/\Q Z H
noncomputable def ZjN(t:TG)(u:TGs):TGs:=λvs Z H Q=>∃v r,vs=v::r/\t v Z H λσ' H'=>u r σ' H' Q
def ZlR:PGs X [] Zrv:=by intro pins s Z H vs us Q I r h;obtain⟨e,h⟩:=h;subst e;cases r;exact assignInOrder_nil ⟨Z,H,I,h⟩
def ZgC(h1:PG X e t)(h2:PGs X es u)
 (hs:(assignEach (e::es) X.env).map (·.2)=assign e X.env::(assignEach es X.env).map (·.2):=by rfl):PGs X (e::es) (ZjN t u):=by
 intro pins s Z H vs us Q I r h;obtain⟨v,vr,e1,h⟩:=h;subst e1;cases r with
 |cons r rr=>rw[hs];refine assignInOrder_cons (thn (h1 pins s Z H _ _ _ I r h) λ_ s1 ⟨σ1,H1,I1,q1⟩=>?_);exact h2 pins s1 σ1 H1 _ _ Q I1 rr q1
noncomputable def Zru(K:Yk)(n:Nat)(t:TGs):TG:=λv Z H Q=>∃a xs,v=.ref a/\SqT K H a xs/\xs.length=n/\t xs Z H Q
def Zop(hc:X.calm=Wp)(h:PGs X es t)
 (hn:(assignEach es X.env).length=n:=by rfl) (hst:(assignEach es X.env).findIdx? (·.1)=Wo:=by rfl):PG X (.Tuple es k pos) (Zru X.K n t):=by
 intro pins s Z H v u Q I r hw;obtain⟨a,xs,e1,hq,hl,hw⟩:=hw;subst e1;cases r;obtain⟨its,rv,ht,hz⟩:=I.tuple hq;refine assign_Tuple_tuple (I.ok.hd hc) ht (by simp[hn,<- hl,rv.length]) hst λh' hx=>?_;have I1:Inv X pins Z H {s with heap:=h'}:=I.kept (t':=s.toks) λb o e=>hx b o (Ou (Ym e)) e;exact h pins _ Z H xs _ Q I1 (by simpa using rv) hw
noncomputable def ZxZ(to ti:TE)(t:ZnB):TG:=λv Z H Q=>to Z H λo H1=>ti Z H1 λi H2=>t o i v H2 λH3=>Q Z H3
def Zoq(ho:PE X o to)(hi:PE X i ti)(hs:ZnD X t)
 (ha:∀v,assign (.Subscript o i pos) X.env v=(do
  let ov <- holding [v] (eval o X.env);let iv <- holding [v,ov] (eval i X.env)
  standAt pos
  holding [v,ov,iv] (setItem ov iv v)
  release [v,ov,iv] []):=by intro _;rfl):PG X (.Subscript o i pos) (ZxZ to ti t):=by
 intro pins s Z H v u Q I r h;rw[ha];refine Ya (Wa (thn (ho pins s Z H _ I h) λov s1 ⟨x,H1,I1,r1,q1⟩=>?_));refine Ya (Wa (thn (hi pins s1 Z H1 _ I1 q1) λiv s2 ⟨y,H2,I2,r2,q2⟩=>?_));refine Ya (wpAny_standAt (Ya (Wa (thn (hs pins s2 Z H2 x y v ov iv u _ I2 r1 r2 r q2) λ_ s3 ⟨H3,I3,q3⟩=>?_))));exact wpAny_release ⟨Z,H3,I3,q3⟩
noncomputable def Zku(te:TE)(g:TG):TS:=λD Z H=>te Z H λx H1=>g x Z H1 D.nx
def ZkD(he:PE X e te)(hg:PG X tg g)(hs:swapsWithSole [tg] e pos.line X.env=pure Wq:=by rfl)(hw:swappedStores [tg] e X.env=pure Wo:=by rfl)
 (h1:(assignEach [tg] X.env).map (·.2)=[assign tg X.env]:=by rfl):PS X (.Assign [tg] e pos) (Zku te g):=by
 intro pins s Z H D I h;refine wpAny_Assign_stores (thn (he pins s Z H _ I h) λv s1 ⟨x,H1,I1,r1,q1⟩=>?_) hs hw;rw[h1];exact thn (hg pins s1 Z H1 x v _ I1 r1 q1) λ_ s2 q=>q
def ZkC(hN:X.N.Nodup)(hi:X.N[i]? = Wn x)(hx:Loc X.env.scope x)(he:PE X e te)(hs:swapsWith e (Wn (.Name x pos')) pos.line X.env=pure Wq:=by rfl)(hf:X.fn x=Wp\/X.env.scope.names.lookup x=Wn .local:=by first|exact .inl rfl|exact .inr rfl|assumption):
 PS X (.Assign [.Name x pos'] e pos) (Zku te (ZcZ i)):=by
 intro pins s Z H D I h;refine wpAny_Assign_Name (thn (he pins s Z H _ I h) λv s1 ⟨y,H1,I1,r1,q1⟩=>?_) hs;exact ZeK I1 hN hi hx r1 (λs2 I2=>⟨_,H1,I2,q1⟩) hf
noncomputable def ZxA(i:Nat)(te:TE)(ti:TIp):TS:=λD Z H=>∃x,Z[i]? = Wn (Wn x)/\te Z H λy H1=>ti x y H1 λz H2=>D.nx (Z.set i (Wn z)) H2
def Ztk(hN:X.N.Nodup)(hi:X.N[i]? = Wn x)(hx:Loc X.env.scope x)(he:PE X e te)(ho:PIp X op ti)(hf:X.fn x=Wp\/X.env.scope.names.lookup x=Wn .local:=by first|exact .inl rfl|exact .inr rfl|assumption):
 PS X (.AugAssign (.Name x pos') op e pos) (ZxA i te ti):=by
 intro pins s Z H D I h;obtain⟨v,e1,h⟩:=h;obtain⟨m,hn,hl⟩:=I.loc;have vis:Vis X.env.scope x:=by rcases hx with k|k;exact .inl k;exact .inr (.inl k)
 obtain⟨u,r,l⟩:=hl i x v hi e1 vis;refine wpAny_AugAssign_Name ?_;have go:YA (model X.prog X.w) X.A (eval e X.env) (λw s₂=>YA (model X.prog X.w) X.A (inplaceOp op u w) (λr s₃=>YA (model X.prog X.w) X.A (storeName X.env x r) (λ_=>SP X pins D .next) X.xe s₃) X.xe s₂) X.xe s:=by refine thn (he pins s Z H _ I h) λw s1 ⟨y,H1,I1,r1,q1⟩=>?_;refine thn (ho pins s1 Z H1 v y u w _ I1 r r1 q1) λz s2 ⟨zv,H2,I2,r2,q2⟩=>?_;exact ZeK I2 hN hi hx r2 (λs3 I3=>⟨_,H2,I3,q2⟩) hf
 rcases l with ⟨hk,hm⟩|⟨hk,c,hc,hcell⟩
 . exact wpAny_loadName_local I.ok.kind hk hn hm go
 . rcases hk with hk|hk
   . exact wpAny_loadName_cell I.ok.kind hk hc hcell go
   . rcases hx with k|k
     . have:X.env.scope.names.lookup x=Wn .free:=hk;rw[k]at this;cases this
     . have:X.env.scope.names.lookup x=Wn .free:=hk;rw[k]at this;cases this
noncomputable def ipI(f:Int->Int->Int):TIp:=λx y H Q=>∃i j,x=.int i/\y=.int j/\Q (.int (f i j)) H
def Zuh:PIp X .Add (ipI λi j=>i+j):=by intro pins s Z H x y v u Q I r1 r2 h;obtain⟨i,j,e1,e2,q⟩:=h;subst e1;subst e2;obtain⟨t,rfl⟩:=r1;obtain⟨t',rfl⟩:=r2;exact iadd_int ⟨.int _,H,I.tok _,⟨_,rfl⟩,q⟩
def ZnP(c:TT)(tb:TS):TS:=λD Z H=>∃W:Nat->St->Hp->Prop,(∃m,W m Z H)/\∀m Z H,W m Z H ->
 c Z H λb H1=>if b=Wp then ∃N:St->Hp->Prop,(∀σ' H',N σ' H'->∃m',m'<m/\W m' σ' H')/\tb {D with nx:=N,ct:=N,bk:=D.nx} Z H1 else D.nx Z H1
def Zok(hp:PassesOwn (model X.prog X.w) X.A X.env X.xe)(hc:PT X c tc)(hb:PSs X body tb):PS X (.While c body [] pos) (ZnP tc tb):=by
 intro pins s Z H D I h;obtain⟨W,⟨m0,w0⟩,turn⟩:=h;refine wpAny_While (codeAny_whileLoop (λn s'=>∃σ' H',Inv X pins σ' H' s'/\W n σ' H') ?_ m0 ⟨Z,H,I,w0⟩);rintro n s1 ⟨σ1,H1,I1,w1⟩;refine wpAny_passesOwn hp (thn (hc pins s1 σ1 H1 _ I1 (turn n σ1 H1 w1)) λb s2 ⟨H2,I2,q2⟩=>?_);cases b with
 |true=>
  obtain⟨N,hN,q2⟩:=q2;rw[if_pos rfl];refine wpAny_passesOwn hp (thn (hb pins s2 σ1 H2 _ I2 q2) λf s3 q3=>?_);cases f with
  |next=>obtain⟨σ3,H3,I3,n3⟩:=q3;obtain⟨m',hm,w3⟩:=hN σ3 H3 n3;exact⟨m',hm,σ3,H3,I3,w3⟩
  |cont=>obtain⟨σ3,H3,I3,n3⟩:=q3;obtain⟨m',hm,w3⟩:=hN σ3 H3 n3;exact⟨m',hm,σ3,H3,I3,w3⟩
  |brk=>exact q3
  |ret v=>exact q3
 |false=>rw[if_neg Ow];exact wpAny_execs_nil ⟨σ1,H2,I2,q2⟩
end
structure It where
 go:Nat->Hp->Prop
 yld:Nat->Hp->V->Hp->Prop
 stop:Nat->Hp->Prop
def ZdO(X:Cx)(pins:List (Yi×Obj))(H:Hp)(b:Yi):Prop:=H b=Wo/\b≠X.env.locals/\b ∉ X.fs/\(b∈X.ex\/X.s₀.heap.objs.size<=b)/\(∀x c,X.env.cells.lookup x=Wn c->c≠b)/\∀p∈X.pn++pins,p.1≠b
def Inv.fpOk(I:Inv X pins Z H s)(hb:s.heap.objs.size<=b)(hn:H' b=Wo):ZdO X pins H' b:=by
 refine⟨hn,Nat.ne_of_gt (Ot I.lt hb),I.nofs hb,.inr (OE I.sz hb),λx c e z=>?_,λp hp z=>?_⟩
 . obtain⟨v,q⟩:=I.cell x c e;exact absurd (Ot q.lt (by rw[z];exact hb)) (Yv _)
 . exact absurd (Ot (Ym (I.pin p hp).1) (by rw[z];exact hb)) (Yv _)
structure Turn(P:Yh)(w:Yg)(K:Yk)(tg:Expr)(J:It)(fp:List Yi)(it:Yi)(tn:Nat->YF->Prop):Prop where
 mem:it∈fp
 obj:∀i h,tn i h->∀b∈fp,∃o,h.get? b=Wn o/\∀v,o.data≠.cell v
 keep:∀i h h',tn i h->(∀b∈fp,∀o,h.get? b=Wn o->h'.get? b=Wn o)->tn i h'
 item:∀(X:Cx),X.prog=P->X.w=w->X.K=K->X.calm=Wp->∀(i:Nat) (pins:List (Yi×Obj)) (s:Yb) (Z:St) (H:Hp) (E:Yj->Yb->Prop),Inv X pins Z H s->(∀b∈fp,ZdO X pins H b)->tn i s.heap->J.go i H ->
  YA (model P w) X.A (pyNext (.ref it)) (λr s1=>∃u,r=Wn u /\
   YA (model P w) X.A (letOwnedTupleGo tg (.ref it) u) (λ_ s2=>∃x H',Inv X pins Z H' s2/\RelV x u/\J.yld i H x H'/\tn (i+1) s2.heap/\∀b∈fp,H' b=Wo) E s1) E s
 done:∀(X:Cx),X.prog=P->X.w=w->X.K=K->X.calm=Wp->∀(i:Nat) (pins:List (Yi×Obj)) (s:Yb) (Z:St) (H:Hp) (E:Yj->Yb->Prop),Inv X pins Z H s->(∀b∈fp,ZdO X pins H b)->tn i s.heap->J.stop i H ->
  YA (model P w) X.A (pyNext (.ref it)) (λr s1=>r=Wo/\Inv X pins Z H s1) E s
 self:∀(A:YG) (i:Nat) (s:Yb) (Q:Yj->Yb->Prop) (E:Yj->Yb->Prop),tn i s.heap->Q (.ref it) s->YA (model P w) A (pyIter (.ref it)) Q E s
abbrev TI:=St->Hp->(It->Hp->Prop)->Prop
def PIE(X:Cx)(pins:List (Yi×Obj))(Z:St)(tg:Expr)(R:It->Hp->Prop)(itv:Yj)(s2:Yb):Prop:=∃(it:Yi) (fp:List Yi) (tn:Nat->YF->Prop) (J:It) (H':Hp),itv=.ref it/\Inv X pins Z H' s2/\Turn X.prog X.w X.K tg J fp it tn/\tn 0 s2.heap/\(∀b∈fp,ZdO X pins H' b)/\R J H'
def PI(X:Cx)(tg iter:Expr)(wi:TI):Prop:=
 ∀(pins:List (Yi×Obj)) (s:Yb) (Z:St) (H:Hp) (R:It->Hp->Prop),Inv X pins Z H s->wi Z H R ->
  YA (model X.prog X.w) X.A (eval iter X.env) (λv s1=>YA (model X.prog X.w) X.A (pyIter v) (PIE X pins Z tg R) X.xe s1) X.xe s
theorem ZjL(ho:s.heap.get? it=Wn o)(hc:o.cls=.type n)(hd:o.data=.fields vs)
   (hn:["enumerate", "zip", "dict_itemiterator", "dict_reverseitemiterator", "odict_iterator", "itertools.zip_longest", "itertools.pairwise"].contains n=Wq) (hQ:Q () s):YA M A (letOwnedTupleGo tg (.ref it) u) Q E s:=by
 unfold letOwnedTupleGo;cases tg<;>first
   | exact Yc hQ
   | (cases u<;>first
       | exact Yc hQ
       | (refine Ya (wpAny_load ho ?_)
          rw [hc,hd];show YA M A (if (["enumerate", "zip", "dict_itemiterator", "dict_reverseitemiterator", "odict_iterator", "itertools.zip_longest", "itertools.pairwise"].contains n&&vs[0]?==Wn (rawInt _))=Wp then _ else _) Q E s;rw [if_neg (by intro h;rw [hn,Bool.false_and] at h;cases h)];exact Yc hQ))
noncomputable def Itl(K:Yk)(a:Yi):It:=⟨λi H=>∃xs x,SqL K H a xs/\xs[i]? = Wn x,λi H x H'=>H'=H/\∀xs,SqL K H a xs->xs[i]? = Wn x,λi H=>∃xs,SqL K H a xs/\xs.length<=i⟩
noncomputable def Itt(K:Yk)(a:Yi):It:=⟨λi H=>∃xs x,SqT K H a xs/\xs[i]? = Wn x,λi H x H'=>H'=H/\∀xs,SqT K H a xs->xs[i]? = Wn x,λi H=>∃xs,SqT K H a xs/\xs.length<=i⟩
noncomputable def Itr(lo:Int)(n:Nat):It:=⟨λi _=>i<n,λi H x H'=>H'=H/\x=.int (lo+i),λi _=>n<=i⟩
def ZmL{P:Yh}{w:Yg}{K:Yk}{tg:Expr}(a it:Yi):Turn P w K tg (Itl K a) [it] it (λi h=>h.IsListIter it a i) where
 mem:=by simp
 obj:=λi h st b hb=>by
  have e:b=it:=by simpa using hb
  subst e;obtain⟨o,e,c,d⟩:=st;exact⟨o,e,λv z=>by rw[d]at z;cases z⟩
 keep:=λi h h' st k=>st.at λo e=>k it (by simp) o e
 item:=by intro X hP hw hK hc i pins s Z H E I hf st hg;subst hP hw hK;obtain⟨xs,x,hq,hx⟩:=hg;obtain⟨its,rv,p,hz⟩:=I.list hq;obtain⟨u,hu,ru⟩:=rv.get hx;obtain⟨f0,f1,f2,f3,f4,f5⟩:=hf it (by simp);refine wpAny_pyNext_list_item st p.isList (x:=u) (by simpa using hu) λh' st' sb=>?_;have I1:Inv X pins Z H {s with heap:=h'}:=I.turned (t':=s.toks) (λb o hb e=>(sb.2 b hb).trans e) f0 f1 f3 f4 f5;obtain⟨o,e,c,d⟩:=id st';exact⟨u,rfl,ZjL (s:={s with heap:=h'}) e c d (by decide) ⟨x,H,I1,ru,⟨rfl,λys hy=>by rw[I.list_inj hy hq];exact hx⟩,st',λb hb=>(hf b hb).1⟩⟩
 done:=by intro X hP hw hK hc i pins s Z H E I hf st hg;subst hP hw hK;obtain⟨xs,hq,hx⟩:=hg;obtain⟨its,rv,p,hz⟩:=I.list hq;obtain⟨f0,f1,f2,f3,f4,f5⟩:=hf it (by simp);have hl:=rv.length;exact wpAny_pyNext_list_end (I.ok.hd hc) st p.isList (by simp;lia) λh' eb=>⟨rfl,I.turned (t':=s.toks) (λb o hb e=>eb b o hb e) f0 f1 f3 f4 f5⟩
 self:=λ_ _ _ _ _ st h=>wpAny_pyIter_listiter st h
def Zkr{P:Yh}{w:Yg}{K:Yk}{tg:Expr}(a it:Yi):Turn P w K tg (Itt K a) [it] it (λi h=>h.IsTupleIter it a i) where
 mem:=by simp
 obj:=λi h st b hb=>by
  have e:b=it:=by simpa using hb
  subst e;obtain⟨o,e,c,d⟩:=st;exact⟨o,e,λv z=>by rw[d]at z;cases z⟩
 keep:=λi h h' st k=>st.at λo e=>k it (by simp) o e
 item:=by intro X hP hw hK hc i pins s Z H E I hf st hg;subst hP hw hK;obtain⟨xs,x,hq,hx⟩:=hg;obtain⟨its,rv,p,hz⟩:=I.tuple hq;obtain⟨u,hu,ru⟩:=rv.get hx;obtain⟨f0,f1,f2,f3,f4,f5⟩:=hf it (by simp);refine wpAny_pyNext_tuple_item st (show s.heap.IsTuple a its.toArray from p) (x:=u) (by simpa using hu) λh' st' sb=>?_;have I1:Inv X pins Z H {s with heap:=h'}:=I.turned (t':=s.toks) (λb o hb e=>(sb.2 b hb).trans e) f0 f1 f3 f4 f5;obtain⟨o,e,c,d⟩:=id st';exact⟨u,rfl,ZjL (s:={s with heap:=h'}) e c d (by decide) ⟨x,H,I1,ru,⟨rfl,λys hy=>by rw[I.tuple_inj hy hq];exact hx⟩,st',λb hb=>(hf b hb).1⟩⟩
 done:=by intro X hP hw hK hc i pins s Z H E I hf st hg;subst hP hw hK;obtain⟨xs,hq,hx⟩:=hg;obtain⟨its,rv,p,hz⟩:=I.tuple hq;obtain⟨f0,f1,f2,f3,f4,f5⟩:=hf it (by simp);have hl:=rv.length;exact wpAny_pyNext_tuple_end (I.ok.hd hc) st (show s.heap.IsTuple a its.toArray from p) (by simp;lia) λh' eb=>⟨rfl,I.turned (t':=s.toks) (λb o hb e=>eb b o hb e) f0 f1 f3 f4 f5⟩
 self:=λ_ _ _ _ _ st h=>wpAny_pyIter_tupleiter st h
theorem Zks{P:Yh}{w:Yg}{K:Yk}{tg:Expr}(it:Yi)(lo:Int)(n:Nat):Turn P w K tg (Itr lo n) [it] it (fun i h=>IsRangeIter h it (lo+(i:Nat) * 1) ((n:Int) - (i:Nat)) 1) where
 mem:=by simp
 obj:=fun i h st b hb=>by
   have e:b=it:=by simpa using hb
   subst e;exact ⟨_,st,fun v z=>by
     have z':Data.fields _=Data.cell v:=z;cases z'⟩
 keep:=fun i h h' st k=>k it (by simp) _ st
 item:=by
   intro X hP hw hK hc i pins s Z H E I hf st hg;subst hP hw hK;obtain ⟨f0,f1,f2,f3,f4,f5⟩:=hf it (by simp);have W:=Walks.range (prog:=X.prog) (w:=X.w) (I.ok.hd hc) it lo 1 n;refine W.item i s _ _ hg st fun v h' tk hv st' kk=>?_;obtain ⟨t,rfl⟩:=hv;have I1:Inv X pins Z H {s with heap:=h',toks:=tk}:=I.turned (fun b o hb e=>kk b o (by simpa using hb) e) f0 f1 f3 f4 f5;refine ⟨_,rfl,ZjL (s:={s with heap:=h',toks:=tk}) (n := "range_iterator") st' rfl rfl (by decide) ⟨.int (lo+i),H,I1,⟨t,?_⟩,⟨rfl,rfl⟩,st',fun b hb=>(hf b hb).1⟩⟩;rw [Int.mul_one]
 done:=by
   intro X hP hw hK hc i pins s Z H E I hf st hg;subst hP hw hK;obtain ⟨f0,f1,f2,f3,f4,f5⟩:=hf it (by simp);exact wpAny_pyNext_range_end (I.ok.hd hc) st (by have:n<=i:=hg;lia) fun h' eb=>⟨rfl,I.turned (t':=s.toks) (fun b o hb e=>eb b o hb e) f0 f1 f3 f4 f5⟩
 self:=fun _ _ _ _ _ st h=>wpAny_pyIter_rangeiter st h
section
variable {X:Cx}{tg:Expr}
def Zn3{pins:List (Yi×Obj)}{Z:St}{H:Hp}{s:Yb}{R:It->Hp->Prop}{E:Yj->Yb->Prop}{lo hi:Int}{t u v:Tok}{tk:Nat}(I:Inv X pins Z H s)(h1:-(2 ^ 62)<=lo)(h2:lo<2 ^ 62)(h3:-(2 ^ 62)<=hi)(h4:hi<2 ^ 62)
 (q:R (Itr lo (hi - lo).toNat) H):YA (model X.prog X.w) X.A (pyIter (.ref s.heap.objs.size)) (PIE X pins Z tg R) E {s with heap:=s.heap.push {cls:=.type "range",data:=.fields #[.int lo t,.int hi u,.int 1 v]},toks:=tk}:=by
 refine wpAny_pyIter_range (IsRange.new ..) (small_one h1 h2 h3 h4) ?_;have I1:Inv X pins Z H {s with heap:=s.heap.push {cls:=.type "range",data:=.fields #[.int lo t,.int hi u,.int 1 v]},toks:=tk}:=I.kept λb o e=>Od _ e;refine⟨(s.heap.push {cls:=.type "range",data:=.fields #[.int lo t,.int hi u,.int 1 v]}).objs.size,[(s.heap.push {cls:=.type "range",data:=.fields #[.int lo t,.int hi u,.int 1 v]}).objs.size],_,_,H,rfl,
  I1.kept (t':=tk) λb o e=>Od _ e,Zks _ lo (hi - lo).toNat,?_,λb hb=>?_,q⟩
 . have e1:lo+((0:Nat):Int) * 1=lo:=by simp
   have e2:(((hi - lo).toNat:Nat):Int) - ((0:Nat):Int)=Builtin.Range.rangeSize lo hi 1:=by rw[rangeSize_one];split<;>lia
   show IsRangeIter _ _ (lo+((0:Nat):Int) * 1) ((((hi - lo).toNat:Nat):Int) - ((0:Nat):Int)) 1;rw[e1,e2];exact Oj _ rfl
 . have e:b=(s.heap.push {cls:=.type "range",data:=.fields #[.int lo t,.int hi u,.int 1 v]}).objs.size:=by simpa using hb
   subst e;exact I1.fpOk (Oq _) (I1.hok.fresh (Oq _))
def Zww(ta:TA):TI:=λZ H R=>ta Z H λvs H1=>∃j:Int,vs=[.int j]/\-(2 ^ 62)<=j/\j<2 ^ 62/\R (Itr 0 j.toNat) H1
def Zm2{a:Expr}{ta:TA}{p pos:Pos}(hg:Gl X "range")(hm:X.mg "range" = Wo)(ha:PA X [a] ta)(hs:Yz [a] X.env=[(Wq,eval a X.env)]:=by rfl):PI X tg (.Call (.Name "range" p) [a] [] pos) (Zww ta):=by
 intro pins s Z H R I h;refine Call_ (Zcm I hg hm boot_range (PyProof.Rows.callWith_type1 (thn (ha pos pins s Z H _ I h) λus s1 ⟨vs,H1,I1,r1,q1⟩=>?_) hs rfl));obtain⟨j,e,q1,q2,q⟩:=q1;subst e;cases r1 with
 |cons r rr=>cases rr;obtain⟨t,rfl⟩:=r;exact call_range_1 (Zn3 I1 (by lia) (by lia) q1 q2 (by simpa using q))
def Zxw(wi:TI)(g:TG)(tb:TS):TS:=λD Z H=>wi Z H λJ H1=>∃W:Nat->Nat->St->Hp->Prop,(∃m,W 0 m Z H1)/\∀i m Z H,W i m Z H ->
 (J.stop i H/\D.nx Z H)\/(J.go i H/\∃N:St->Hp->Prop,(∀σ' H',N σ' H'->∃m',m'<m/\W (i+1) m' σ' H')/\∀x H',J.yld i H x H'->g x Z H' λσ2 H2=>tb {D with nx:=N,ct:=N,bk:=D.nx} σ2 H2)
noncomputable def ZgB(fp:List Yi)(h:YF):List (Yi×Obj):=fp.filterMap λb=>(h.get? b).map λo=>(b,o)
def ZcL(hb:b∈fp)(e:h.get? b=Wn o):(b,o)∈ZgB fp h:=List.mem_filterMap.mpr ⟨b,hb,by rw[e];rfl⟩
def Znb(hp:p∈ZgB fp h):p.1∈fp/\h.get? p.1=Wn p.2:=by
 obtain⟨b,hb,e⟩:=List.mem_filterMap.mp hp;cases q:h.get? b with
 |none=>rw[q]at e;cases e
 |some o=>rw[q]at e;have e':(b,o)=p:=YE e;subst e';exact⟨hb,q⟩
def Inv.pinned(I:Inv X pins Z H s)(hf:∀b∈fp,ZdO X pins H b)(ho:∀b∈fp,∃o,s.heap.get? b=Wn o/\∀v,o.data≠.cell v):Inv X (pins++ZgB fp s.heap) Z H s:=
 I.pins_of λp hp=>(OD.mp hp).elim (λz=>I.pin p (Ov _ z)) λz=>by obtain⟨hb,e⟩:=Znb z;obtain⟨f0,f1,f2,_⟩:=hf p.1 hb;obtain⟨o,e',d⟩:=ho p.1 hb;rw[e]at e';cases e';exact⟨e,f0,f1,f2,d⟩
def Inv.unpinned(I:Inv X (pins++pl) Z H s):Inv X pins Z H s:=I.pins_of λp hp=>I.pin p (Ov _ (Yr _ hp))
def Zti(hp:PassesOwn (model X.prog X.w) X.A X.env X.xe)(hc:X.calm=Wp)(hi:PI X tg iter wi)(hg:PG X tg g)(hb:PSs X body tb)
 (hs:∀x,foldedSetIterable iter X.env x=pure x:=by intro _;rfl):PS X (.For tg iter body [] pos) (Zxw wi g tb):=by
 intro pins s Z H D I h;refine wpAny_For (thn (hi pins s Z H _ I h) λv s1 h1=>thn h1 λitv s2 h2=>?_) hs;obtain⟨it,fp,tn,J,H2,e,I2,T,st2,f2,W,⟨m0,w0⟩,turn⟩:=h2;subst e;have stat:∀{H':Hp},(∀b∈fp,H' b=Wo)->∀b∈fp,ZdO X pins H' b:=λhn b hb=>⟨hn b hb,(f2 b hb).2⟩
 refine codeAny_forLoop_any (λn s'=>∃i σ' H',Inv X pins σ' H' s'/\tn i s'.heap/\(∀b∈fp,H' b=Wo)/\W i n σ' H') ?_ m0 ⟨0,Z,H2,I2,st2,λb hb=>(f2 b hb).1,w0⟩;rintro n s3 ⟨i,σ3,H3,I3,st3,fr3,w3⟩;rcases turn i n σ3 H3 w3 with ⟨stop,qn⟩|⟨go,N,hN,step⟩
 . refine wpAny_passesOwn hp (thn (T.done X rfl rfl rfl hc i pins s3 σ3 H3 X.xe I3 (stat fr3) st3 stop) λr s4 ⟨hr,I4⟩=>?_);subst hr;exact wpAny_execs_nil ⟨σ3,H3,I4,qn⟩
 . refine wpAny_passesOwn hp (thn (T.item X rfl rfl rfl hc i pins s3 σ3 H3 X.xe I3 (stat fr3) st3 go) λr s4 ⟨u,hr,h4⟩=>?_);subst hr;refine wpAny_passesOwn hp (thn h4 λ_ s5 ⟨x,H5,I5,r5,y5,st5,fr5⟩=>?_);have I5':=I5.pinned (stat fr5) (T.obj _ _ st5);refine wpAny_passesOwn hp (thn (hg _ s5 σ3 H5 x u _ I5' r5 (step x H5 y5)) λ_ s6 ⟨σ6,H6,I6,q6⟩=>?_);refine wpAny_passesOwn hp (thn (hb _ s6 σ6 H6 _ I6 q6) λf s7 q7=>?_);have again:∀{σ7:St}{H7:Hp},Inv X (pins++ZgB fp s5.heap) σ7 H7 s7->N σ7 H7->∃m,m<n/\∃i σ' H',Inv X pins σ' H' s7/\tn i s7.heap/\(∀b∈fp,H' b=Wo)/\W i m σ' H':=λ{σ7 H7} I7 n7=>by obtain⟨m',hm,w7⟩:=hN σ7 H7 n7;refine⟨m',hm,i+1,σ7,H7,I7.unpinned,T.keep _ _ _ st5 λb hb o e=>(I7.pin (b,o) (Ov _ (Ov _ (ZcL hb e)))).1,λb hb=>?_,w7⟩;obtain⟨o,e,d⟩:=T.obj _ _ st5 b hb;exact(I7.pin (b,o) (Ov _ (Ov _ (ZcL hb e)))).2.1
   cases f with
   |next=>obtain⟨σ7,H7,I7,n7⟩:=q7;exact again I7 n7
   |cont=>obtain⟨σ7,H7,I7,n7⟩:=q7;exact again I7 n7
   |brk=>obtain⟨σ7,H7,I7,q7⟩:=q7;exact⟨σ7,H7,I7.unpinned,q7⟩
   |ret v=>obtain⟨x7,σ7,H7,I7,r7,q7⟩:=q7;exact⟨x7,σ7,H7,I7.unpinned,r7,q7⟩
end
abbrev R2:=V->V->Hp->VK->Prop
def OpR(X:Cx)(f:Yj->Yj->Sem Yj)(r:R2):Prop:=
 ∀(pins:List (Yi×Obj)) (s:Yb) (Z:St) (H:Hp) (x y:V) (v u:Yj) (Q:VK),Inv X pins Z H s->RelV x v->RelV y u->r x y H Q ->
  YA (model X.prog X.w) X.A (f v u) (EP X pins Z Q) X.xe s
def UnR(X:Cx)(f:Yj->Sem Yj)(r:V->Hp->VK->Prop):Prop:=
 ∀(pins:List (Yi×Obj)) (s:Yb) (Z:St) (H:Hp) (x:V) (v:Yj) (Q:VK),Inv X pins Z H s->RelV x v->r x H Q ->
  YA (model X.prog X.w) X.A (f v) (EP X pins Z Q) X.xe s
def Zad(X:Cx)(f:Yj)(r:List V->Hp->VK->Prop):Prop:=
 ∀(pins:List (Yi×Obj)) (s:Yb) (Z:St) (H:Hp) (xs:List V) (us:List Yj) (Q:VK),Inv X pins Z H s->Zj xs us->r xs H Q ->
  YA (model X.prog X.w) X.A (call f us) (EP X pins Z Q) X.xe s
def Zys(X:Cx)(r:V->Hp->(Bool->Hp->Prop)->Prop):Prop:=
 ∀(pins:List (Yi×Obj)) (s:Yb) (Z:St) (H:Hp) (x:V) (v:Yj) (Q:Bool->Hp->Prop),Inv X pins Z H s->RelV x v->r x H Q ->
  YA (model X.prog X.w) X.A (truthy v) (TP X pins Z Q) X.xe s
def tOp(r:R2)(ta tb:TE):TE:=λZ H Q=>ta Z H λx H1=>tb Z H1 λy H2=>r x y H2 Q
noncomputable def tUn(r:V->Hp->VK->Prop)(ta:TE):TE:=λZ H Q=>ta Z H λx H1=>r x H1 Q
noncomputable def rI(C:Int->Int->Prop)(g:Int->Int->V):R2:=λx y H Q=>∃i j,x=.int i/\y=.int j/\C i j/\Q (g i j) H
noncomputable def rI0(g:Int->Int->V):R2:=λx y H Q=>∃i j,x=.int i/\y=.int j/\Q (g i j) H
def rU(g:Int->V):V->Hp->VK->Prop:=λx H Q=>∃i,x=.int i/\Q (g i) H
section
variable {X:Cx}{a b c:Expr}{ta tb tc:TE}{pos:Pos}
def ZuI(ha:PE X a ta)(hb:PE X b tb){pins:List (Yi×Obj)}{s:Yb}{Z:St}{H:Hp}{R:V->V->Hp->Prop}(I:Inv X pins Z H s)
 (h:ta Z H λx H1=>tb Z H1 λy H2=>R x y H2) {Q:Yj->Yb->Prop}{f:Yj->Yj->Sem Yj}
 (hf:∀v u s2 x y H2,Inv X pins Z H2 s2->RelV x v->RelV y u->R x y H2->YA (model X.prog X.w) X.A (f v u) Q X.xe s2) :
 YA (model X.prog X.w) X.A (eval a X.env) (λv s₁=>YA (model X.prog X.w) X.A (eval b X.env) (λu s₂=>YA (model X.prog X.w) X.A (f v u) Q X.xe s₂) X.xe s₁) X.xe s:=by
 refine thn (ha pins s Z H _ I h) λv s1 ⟨x,H1,I1,r1,q1⟩=>?_;refine thn (hb pins s1 Z H1 _ I1 q1) λu s2 ⟨y,H2,I2,r2,q2⟩=>?_;exact hf v u s2 x y H2 I2 r1 r2 q2
def ZvR{op:Operator}{r:R2}(ho:OpR X (binaryOp op) r)(ha:PE X a ta)(hb:PE X b tb):PE X (.BinOp a op b pos) (tOp r ta tb):=by intro pins s Z H Q I h;exact wpAny_BinOp (ZuI ha hb I h λv u s2 x y H2 I2 rx ry q=>ho pins s2 Z H2 x y v u Q I2 rx ry q)
def ZvP{op:UnaryOp}{r:V->Hp->VK->Prop}(ho:UnR X (unaryOp op) r)(ha:PE X a ta):PE X (.UnaryOp op a pos) (tUn r ta):=by intro pins s Z H Q I h;exact UnaryOp_ (thn (ha pins s Z H _ I h) λv s1 ⟨x,H1,I1,r1,q1⟩=>ho pins s1 Z H1 x v Q I1 r1 q1)
def opI{f:Yj->Yj->Sem Yj}{C:Int->Int->Prop}{g:Int->Int->Int}
 (rule:∀(i j:Int) (t u:Tok) (s:Yb) (Q:Yj->Yb->Prop) (E:Yj->Yb->Prop),C i j->Q (.int (g i j) s.toks) {s with toks:=s.toks+1}->YA (model X.prog X.w) X.A (f (.int i t) (.int j u)) Q E s) :
 OpR X f (rI C λi j=>.int (g i j)):=by
 intro pins s Z H x y v u Q I rx ry h;obtain⟨i,j,rfl,rfl,hc,q⟩:=h;obtain⟨t,rfl⟩:=rx;obtain⟨t',rfl⟩:=ry;exact rule i j t t' s _ _ hc ⟨.int (g i j),H,I.tok _,⟨_,rfl⟩,q⟩
def Zv1{g:Int->Int->Int}
 (rule:∀(i j:Int) (t u:Tok) (s:Yb) (Q:Yj->Yb->Prop) (E:Yj->Yb->Prop),Q (.int (g i j) s.toks) {s with toks:=s.toks+1}->YA (model X.prog X.w) X.A (f (.int i t) (.int j u)) Q E s) :
 OpR X f (rI0 λi j=>.int (g i j)):=by
 intro pins s Z H x y v u Q I rx ry h;obtain⟨i,j,rfl,rfl,q⟩:=h;obtain⟨t,rfl⟩:=rx;obtain⟨t',rfl⟩:=ry;exact rule i j t t' s _ _ ⟨.int (g i j),H,I.tok _,⟨_,rfl⟩,q⟩
def Zq5{g:Int->Int->Bool}
 (rule:∀(i j:Int) (t u:Tok) (s:Yb) (Q:Yj->Yb->Prop) (E:Yj->Yb->Prop),Q (.bool (g i j)) s->YA (model X.prog X.w) X.A (f (.int i t) (.int j u)) Q E s) :
 OpR X f (rI0 λi j=>.bl (g i j)):=by
 intro pins s Z H x y v u Q I rx ry h;obtain⟨i,j,rfl,rfl,q⟩:=h;obtain⟨t,rfl⟩:=rx;obtain⟨t',rfl⟩:=ry;exact rule i j t t' s _ _ ⟨.bl (g i j),H,I,rfl,q⟩
def Zyu(i j:Int):Prop:=0<j/\j<1073741824
def Zyt(i j:Int):Prop:=0<=j/\j<=1000000/\i.natAbs<2 ^ 64
def ZtG:OpR X (binaryOp .Add) (rI0 λi j=>.int (i+j)):=Zv1 λ_ _ _ _ _ _ _ q=>add_int q
def Ztz:OpR X (binaryOp .Sub) (rI0 λi j=>.int (i - j)):=Zv1 λ_ _ _ _ _ _ _ q=>sub_int q
def ZqU:OpR X (binaryOp .FloorDiv) (rI Zyu λi j=>.int (i / j)):=opI λi j _ _ _ _ _ hc q=>by have h1:(0:Int)<j:=hc.1;have h2:j<1073741824:=hc.2;exact floordiv_int (by lia) (by rw[Int.fdiv_eq_ediv_of_nonneg i (by lia)];exact q) (.inl (PyProof.noPylong_small (by lia)))
def ZtB:OpR X (binaryOp .Mod) (rI (λ_ j=>0<j) λi j=>.int (i % j)):=opI λi j _ _ _ _ _ hc q=>by have h1:(0:Int)<j:=hc;exact mod_int' (by lia) (by rw[Int.fmod_eq_emod_of_nonneg i (by lia)];exact q)
def ZtA:OpR X (binaryOp .Pow) (rI Zyt λi j=>.int (i ^ j.toNat)):=opI λ_ _ _ _ _ _ _ hc q=>pow_int_small hc.1 hc.2.1 hc.2.2 q
def unI{g:Int->Int}
 (rule:∀(i:Int) (t:Tok) (s:Yb) (Q:Yj->Yb->Prop) (E:Yj->Yb->Prop),Q (.int (g i) s.toks) {s with toks:=s.toks+1}->YA (model X.prog X.w) X.A (f (.int i t)) Q E s) :
 UnR X f (rU λi=>.int (g i)):=by
 intro pins s Z H x v Q I rx h;obtain⟨i,rfl,q⟩:=h;obtain⟨t,rfl⟩:=rx;exact rule i t s _ _ ⟨.int (g i),H,I.tok _,⟨_,rfl⟩,q⟩
def ZsI:UnR X (unaryOp .USub) (rU λi=>.int (-i)):=unI λ_ _ _ _ _ q=>neg_int q
def Zpi(I:Inv X pins Z H s)(q:Q (.bl k) H)(e:k=k'):EP X pins Z Q (.bool k') s:=by subst e;exact⟨.bl k,H,I,rfl,q⟩
def ZvU:OpR X (YL .Lt) (rI0 λi j=>.bl (Wt (i<j))):=Zq5 λ_ _ _ _ _ _ _ q=>lt_int q
def ZvV:OpR X (YL .LtE) (rI0 λi j=>.bl (Wt (i<=j))):=Zq5 λ_ _ _ _ _ _ _ q=>le_int q
def ZvW:OpR X (YL .Gt) (rI0 λi j=>.bl (Wt (j<i))):=Zq5 λ_ _ _ _ _ _ _ q=>gt_int q
def ZvX:OpR X (YL .GtE) (rI0 λi j=>.bl (Wt (j<=i))):=Zq5 λ_ _ _ _ _ _ _ q=>ge_int q
def ZtC:OpR X (YL .Is) (λx y H Q=>y=.non/\Q (.bl (Wt (x=.non))) H):=by
 intro pins s Z H x y v u Q I rx ry h;obtain⟨rfl,q⟩:=h;cases ry;refine is_none_gen (Zpi I q ?_);cases x<;>first
  |(cases rx;rfl)
  |(obtain⟨t,rfl⟩:=rx;rfl)
def ZqS:OpR X (YL .IsNot) (λx y H Q=>y=.non/\Q (.bl (!Wt (x=.non))) H):=by
 intro pins s Z H x y v u Q I rx ry h;obtain⟨rfl,q⟩:=h;cases ry;refine isnot_none_gen (Zpi I q ?_);cases x<;>first
  |(cases rx;rfl)
  |(obtain⟨t,rfl⟩:=rx;rfl)
def ZlV{op:CmpOp}{r:R2}(ho:OpR X (YL op) r)(ha:PE X a ta)(hb:PE X b tb)(hm:behindInMarks op b=Wq):PE X (.Compare a [op] [b] pos) (tOp r ta tb):=by intro pins s Z H Q I h;exact wpAny_Compare1 (ZuI ha hb I h λv u s2 x y H2 I2 rx ry q=>ho pins s2 Z H2 x y v u Q I2 rx ry q) hm
noncomputable def Zr7(t:TE):TT:=λZ H Q=>t Z H λx H'=>∃k,x=.bl k/\Q k H'
def ZlP{op:CmpOp}{r:R2}(ho:OpR X (YL op) r)(ha:PE X a ta)(hb:PE X b tb)(hm:behindInMarks op b=Wq):PT X (.Compare a [op] [b] pos) (Zr7 (tOp r ta tb)):=by
 intro pins s Z H Q I h;refine wpAny_isTrue_Compare1 (thn (ha pins s Z H _ I h) λv s1 ⟨x,H1,I1,r1,q1⟩=>thn (hb pins s1 Z H1 _ I1 q1) λu s2 ⟨y,H2,I2,r2,q2⟩=>thn (ho pins s2 Z H2 x y v u _ I2 r1 r2 q2) λc s3 ⟨z,H3,I3,r3,k,e,q3⟩=>?_) hm
 subst e;cases r3;exact wpAny_truthy_bool ⟨H3,I3,q3⟩
def ZnR(r r':R2)(ta tb tc:TE):TE:=λZ H Q=>ta Z H λx H1=>tb Z H1 λy H2=>r x y H2 λz H3=>∃k,z=.bl k /\
 (if k=Wp then tc Z H3 λw' H4=>r' y w' H4 Q else Q (.bl Wq) H3)
def ZoB(ho:OpR X (YL op) r)(ho':OpR X (YL op') r')(ha:PE X a ta)(hb:PE X b tb)(hc:PE X c tc)
 (hm:lastMarks [op,op'] [b,c]=Wq:=by with_unfolding_all rfl):PE X (.Compare a [op,op'] [b,c] pos) (ZnR r r' ta tb tc):=by
 intro pins s Z H Q I h;refine Compare_chain (thn (ha pins s Z H _ I h) λv s1 ⟨x,H1,I1,r1,q1⟩=>chain_link (thn (hb pins s1 Z H1 _ I1 q1) λu s2 ⟨y,H2,I2,r2,q2⟩=>thn (ho pins s2 Z H2 x y v u _ I2 r1 r2 q2) λd s3 ⟨z,H3,I3,r3,k,e,q3⟩=>?_)) hm
 subst e;cases r3;refine wpAny_truthy_bool ?_;cases k with
 |false=>exact ite_ff ⟨.bl Wq,H3,I3,rfl,q3⟩
 |true=>exact ite_tt (chain_last (thn (hc pins s3 Z H3 _ I3 q3) λw' s4 ⟨z',H4,I4,r4,q4⟩=>ho' pins s4 Z H4 y z' u w' Q I4 r2 r4 q4))
def Zoi(ho:OpR X (YL op) r)(ho':OpR X (YL op') r')(ha:PE X a ta)(hb:PE X b tb)(hc:PE X c tc)
 (hm:lastMarks [op,op'] [b,c]=Wq:=by with_unfolding_all rfl):PT X (.Compare a [op,op'] [b,c] pos) (Zr7 (ZnR r r' ta tb tc)):=by
 intro pins s Z H Q I h;refine isTrue_chain (thn (ha pins s Z H _ I h) λv s1 ⟨x,H1,I1,r1,q1⟩=>test_link (thn (hb pins s1 Z H1 _ I1 q1) λu s2 ⟨y,H2,I2,r2,q2⟩=>thn (ho pins s2 Z H2 x y v u _ I2 r1 r2 q2) λd s3 ⟨z,H3,I3,r3,k,e,q3⟩=>?_)) hm
 subst e;cases r3;refine wpAny_truthy_bool ?_;cases k with
 |false=>obtain⟨k',e',q'⟩:=q3;cases e';exact ite_ff ⟨H3,I3,q'⟩
 |true=>refine ite_tt (test_last (thn (hc pins s3 Z H3 _ I3 q3) λw' s4 ⟨z',H4,I4,r4,q4⟩=>thn (ho' pins s4 Z H4 y z' u w' _ I4 r2 r4 q4) λd' s5 ⟨z2,H5,I5,r5,k2,e2,q5⟩=>?_));subst e2;cases r5;exact wpAny_truthy_bool ⟨H5,I5,q5⟩
def ZuR(K:Yk)(x:V)(H:Hp)(k:Bool):Prop:=
 match x with
 |.non=>k=Wq
 |.bl b=>k=b
 |.int i=>k=(i != 0)
 |.str y=>y.length<=sizeLine/\k=((y.length:Int) != 0)
 |.byt y=>y.size<=sizeLine/\k=((y.size:Int) != 0)
 |.ref p=>(∃xs,SqL K H p xs/\k=!xs.isEmpty)\/(∃xs,SqT K H p xs/\k=!xs.isEmpty)\/∃kvs,H p=Wn (.dK kvs)/\k=!kvs.isEmpty
 |_=>False
def Zk2(r:KV kvs vs):(!vs.isEmpty)=!kvs.isEmpty:=by cases r<;>rfl
def ZgM(r:Zj xs its):(!its.toArray.isEmpty)=!xs.isEmpty:=by cases r<;>simp
def ZbG:(sizeLine:Nat)<2 ^ 63:=by rw[YB];decide
def ZsM:Zys X (λx H Q=>∃k,ZuR X.K x H k/\Q k H):=by
 intro pins s Z H x v Q I rx h;obtain⟨k,e,q⟩:=h;have hl:=ZbG;have hs:sizeLine=16777216:=YB;cases x with
 |non=>cases rx;have e':k=Wq:=e;subst e';exact truthy_none ⟨H,I,q⟩
 |bl b=>cases rx;have e':k=b:=e;subst e';exact wpAny_truthy_bool ⟨H,I,q⟩
 |int i=>obtain⟨t,rfl⟩:=rx;have e':k=(i != 0):=e;subst e';exact PySem.P.truthy_int ⟨H,I,q⟩
 |str y=>obtain⟨t,rfl⟩:=rx;obtain⟨hy,e'⟩:y.length<=sizeLine/\k=((y.length:Int) != 0):=e;subst e';exact PySem.P.truthy_str (by lia) ⟨H,I.tok _,q⟩
 |byt y=>obtain⟨t,rfl⟩:=rx;obtain⟨hy,e'⟩:y.size<=sizeLine/\k=((y.size:Int) != 0):=e;subst e';exact PySem.W.truthy_bytes (by lia) ⟨H,I.tok _,q⟩
 |ref p=>
  cases rx;have e':(∃xs,SqL X.K H p xs/\k=!xs.isEmpty)\/(∃xs,SqT X.K H p xs/\k=!xs.isEmpty)\/∃kvs,H p=Wn (.dK kvs)/\k=!kvs.isEmpty:=e;rcases e' with ⟨xs,hx,e'⟩|⟨xs,hx,e'⟩|⟨kvs,hx,e'⟩
  . subst e';obtain⟨its,r,pl,hz⟩:=I.list hx;have hlen:=r.length;exact wpAny_truthy_list pl.isList (by simp only[Of];lia) ⟨H,I.tok _,by rw[ZgM r];exact q⟩
  . subst e';obtain⟨its,r,pl,hz⟩:=I.tuple hx;have hlen:=r.length;exact truthy_tuple pl (by simp only[Of];lia) ⟨H,I.tok _,by rw[ZgM r];exact q⟩
  . subst e';obtain⟨hz,hS,vs,r,m⟩:kvs.length<=sizeLine/\(p==Ye)=Wq/\∃vs,KV kvs vs/\s.heap.DictOf (ZO X.prog X.w) p vs:=I.hok p _ hx;have hlen:kvs.length=vs.length:=Paired.length r;exact wpAny_truthy_dict hS m (by lia) ⟨H,I.tok _,by rw[Zk2 r];exact q⟩
 |_=>exact(show False from e).elim
def Zoh(ha:PE X a ta)(he:∀whole,isTrue a X.env whole=(do let v <- whole;standAt a.pos;holding [v] (truthy v))):
 PT X a (λZ H Q=>ta Z H λx H'=>∃k,ZuR X.K x H' k/\Q k H'):=by
 intro pins s Z H Q I h;exact isTrue_plain (thn (ha pins s Z H _ I h) λv s1 ⟨x,H1,I1,r1,q1⟩=>ZsM pins s1 Z H1 x v Q I1 r1 q1) (he _)
def ZkI:OpR X (binaryOp .Add) (λx y H Q=>∃i j,x=.str i/\y=.str j/\i.length+j.length<=sizeLine/\Q (.str (i++j)) H):=by intro pins s Z H x y v u Q I rx ry h;obtain⟨i,j,rfl,rfl,hz,q⟩:=h;obtain⟨t,rfl⟩:=rx;obtain⟨t',rfl⟩:=ry;exact add_str (λt' tk=>⟨.str (i++j),H,I.tok _,⟨_,rfl⟩,q⟩) hz
def vals1{x:V}{us:List Yj}(r:Zj [x] us):∃u,us=[u]/\RelV x u:=by
 cases r with
 |cons r1 r2=>cases r2;exact⟨_,rfl,r1⟩
def vals2{x y:V}{us:List Yj}(r:Zj [x,y] us):∃u w',us=[u,w']/\RelV x u/\RelV y w':=by
 cases r with
 |cons r1 r2=>
  cases r2 with
  |cons r3 r4=>cases r4;exact⟨_,_,rfl,r1,r3⟩
end
structure ObjM(h:YF)(x dx C:Yi)(mA:Str->Option Yj):Prop where
 obj:h.get? x=Wn (Wc C dx)
 ns:h.Ns1 dx mA
 ne:dx≠x
def Zne{h:YF}(n:h.Ns1 dx mA):∃od,h.get? dx=Wn od/\∀name,PySem.W.lookIn name od=Wn (mA name):=by
 obtain⟨o,es,ep,ho,hd,hk,_,hm⟩:=n;refine⟨o,ho,λname=>?_⟩;have e:=hm name;unfold nsFind findBy at e;rw[<- Array.find?_toList]at e;unfold PySem.W.lookIn;rw[hd];dsimp only;split
 . rename_i y q;rw[q]at e;exact congrArg Wn e
 . rename_i q;rw[q]at e;have a:es.toList.any (·.refKey)=Wq:=by rw[List.any_eq_false];intro y hy;obtain⟨z,t,hkey⟩:=hk y (Array.mem_toList_iff.mp hy);simp[DictEntry.refKey,hkey]
   have a':¬ es.toList.any (·.refKey)=Wp:=by rw[a];exact Ow
   rw[if_neg a'];exact congrArg Wn e
def ObjM.look(I:ObjM h x dx C mA):∃od,PySem.W.InstAt h x (Wc C dx) C (Wn od)/\∀name,PySem.W.lookIn name od=Wn (mA name):=
 let ⟨od,ho,hl⟩:=Zne I.ns
 ⟨od,⟨I.obj,rfl,rfl,ho⟩,hl⟩
section
variable {prog:Yh}{w:Yg}{A:YG}{E:Yj->Yb->Prop}{s:Yb}{K:Yk}{x dx C f:Yi}{mA:Str->Option Yj}{name:Str}{v:Yj}
def Zrt(X:K.In s.heap)(I:ObjM s.heap x dx C mA)(hg:PySem.W.plainGet K C name=Wp)(hh:PySem.W.hasDictIn K C=Wp)
 (ha:YI K (.ref C) name=Wn Wo) (hv:mA name=Wn v) (hv':PySem.W.handedIn v=Wp) (h:Q v {s with toks:=s.toks+1}) :
 YA (model prog w) A (getAttr (.ref x) name expr) Q E s:=by
 obtain⟨od,J,hl⟩:=I.look;exact PySem.W.get_value X J (PySem.W.plainGet_of hg).1 (PySem.W.findObj_own hh ha rfl (by rw[hl,hv])) hv' h
def Zpb(X:K.In s.heap)(I:ObjM s.heap x dx C mA)(hg:PySem.W.plainGet K C name=Wp)
 (hf:YI K (.ref C) name=Wn (Wn (.ref f))) (ht:PySem.W.isFn K (.ref f)=Wp) (hv:mA name=Wo) (h:Q (.ref f,[.ref x]) s) :
 YA (model prog w) A (getMethod (.ref x) name pl) Q E s:=by
 obtain⟨od,J,hl⟩:=I.look;exact PySem.W.method_fn X J (PySem.W.plainGet_of hg).1 (PySem.W.plainGet_of hg).2 hf (beq_iff_eq.mp ht) (by show(PySem.W.lookIn name od).map (·.isSome)=Wn Wq;rw[hl,hv];rfl) h
def Zqh(X:K.In s.heap)(I:ObjM s.heap x dx C mA)
 (hs:YI K (.ref C) "__setattr__" = Wn (Wn (.builtin "object.__setattr__"))) (hp:PySem.W.plainOver K C=Wp) (ht:PySem.W.takerIn K C name=Wn Wo) (hh:PySem.W.hasDictIn K C=Wp)
 (hw:PySem.Within mA ns) (hsz:ns.length<=sizeLine)
 (h:∀h',ObjM h' x dx C (λy=>if y=name then Wn v else mA y)->Heap.SameBut dx s.heap h'->Q () {s with heap:=h',toks:=s.toks+2}) :
 YA (model prog w) A (setAttr (.ref x) name v) Q E s:=by
 obtain⟨od,J,hl⟩:=I.look;refine PySem.W.set_plain X J hs (PySem.W.osa_open (s:={s with toks:=s.toks+1}) (r:=Wo) X J hp ht λb=>?_);obtain⟨cd,hc,hd'⟩:=PySem.W.any_some hh;have hx:s.heap.get? x=Wn ⟨.ref C,Wn dx,.plain,#[]⟩:=I.obj;refine Ya (Yc (Ya (Ya (wpAny_loadPart hx (Ya (PySem.W.Looks.here (s:={s with toks:=s.toks+1}) (PySem.W.looks_clsIn X hc) ?_))))));rw[hd'];refine Yc (a:=Wn dx) (Ya (Yc (Ya ?_)));refine wpAny_nsSet1 (s:={s with toks:=s.toks+1}) I.ns λh' hn2 hs2=>?_;obtain⟨oD,esD,epD,hoD,hdD,hcD⟩:=hn2.count (PySem.Within.cons name v hw);refine Ya (wpAny_lookBehind hoD (by rw[hdD];exact pastItsLine_dict (OE hcD (by rw[Os];lia))) ?_);exact Yc (h _ ⟨(hs2.2 _ (YK I.ne)).trans I.obj,hn2,I.ne⟩ hs2)
def ZoW(X:K.In s.heap)(hm:PySem.W.makesIn K C=Wp)
 (hi:YI K (.ref C) "__init__" = Wn (Wn (.ref f))) (hf:PySem.W.typeIn K (.ref f)=Wn (.type "function"))
 (h:codeAny (model prog w) (A.under (.builtin "type.__call__" ⟨.ref C::vs,kw⟩)) (.call (.ref f) ⟨.ref (s.heap.objs.size+1)::vs,kw⟩) (PySem.W.InitBack (s.heap.objs.size+1) R)
  {s with heap:=(s.heap.push YS).push (Wc C s.heap.objs.size)}) :
 codeAny (model prog w) A (.call (.ref C) ⟨vs,kw⟩) R s:=by
 obtain⟨hh,g,d,t,os⟩:=s;exact PySem.W.make_core (PySem.W.makes_of X hm) (PySem.W.looks_findIn X hi) (λself=>PySem.W.bind_fn X self hf) (.inl rfl) h
end
noncomputable def Zci(f:Str)(v:V):List (Str×V)->List (Str×V)
 |[]=>[(f,v)]
 |(g,x)::r=>if g=f then(g,v)::r else(g,x)::Zci f v r
theorem ZfN(f g:Str)(v:V):∀fs:List (Str×V),(Zci f v fs).lookup g=if g=f then Wn v else fs.lookup g
 |[]=>by
  show We g [(f,v)]=_;by_cases h:g=f
  . have hb:(g==f)=Wp:=beq_iff_eq.mpr h;simp only[We,hb,if_pos h]
  . have hb:(g==f)=Wq:=beq_eq_false_iff_ne.mpr h;simp only[We,hb,if_neg h]
 |(k,x)::r=>by
  have ih:=ZfN f g v r;rw[show Zci f v ((k,x)::r)=(if k=f then(k,v)::r else(k,x)::Zci f v r)from rfl];by_cases hk:k=f
  . rw[if_pos hk];by_cases h:g=k
    . have hb:(g==k)=Wp:=beq_iff_eq.mpr h;simp only[We,hb,if_pos (h.trans hk)]
    . have hb:(g==k)=Wq:=beq_eq_false_iff_ne.mpr h;simp only[We,hb,if_neg (λe:g=f=>h (e.trans hk.symm))]
  . rw[if_neg hk];by_cases h:g=k
    . have hb:(g==k)=Wp:=beq_iff_eq.mpr h;simp only[We,hb,if_neg (λe:g=f=>hk (h.symm.trans e))]
    . have hb:(g==k)=Wq:=beq_eq_false_iff_ne.mpr h;simp only[We,hb];exact ih
theorem Zfx(f:Str)(v:V):∀fs:List (Str×V),f∈(Zci f v fs).map (·.1)/\∀g,g∈fs.map (·.1)->g∈(Zci f v fs).map (·.1)
 |[]=>⟨by simp[Zci],λg h=>by simp at h⟩
 |(k,x)::r=>by
  obtain⟨i1,i2⟩:=Zfx f v r;rw[show Zci f v ((k,x)::r)=(if k=f then(k,v)::r else(k,x)::Zci f v r)from rfl];by_cases hk:k=f
  . rw[if_pos hk];subst hk;exact⟨by simp,λg h=>by simpa using h⟩
  . rw[if_neg hk];refine⟨?_,λg h=>?_⟩
    . rw[Op];exact Oh _ i1
    . rw[Op]at h ⊢;rcases O2.mp h with e|e
      . exact O2.mpr (.inl e)
      . exact Oh _ (i2 g e)
theorem ZfO(f:Str)(v:V):∀fs:List (Str×V),(Zci f v fs).length<=fs.length+1
 |[]=>by simp[Zci]
 |(k,x)::r=>by
  have ih:=ZfO f v r;rw[show Zci f v ((k,x)::r)=(if k=f then(k,v)::r else(k,x)::Zci f v r)from rfl];by_cases hk:k=f
  . rw[if_pos hk,Os,Os];lia
  . rw[if_neg hk,Os,Os];lia
def Zd6.some_of(r:Zd6 (Wn v) o):∃u,o=Wn u/\RelV v u:=by
 cases o with
 |none=>exact(show False from r).elim
 |some u=>exact⟨u,rfl,r⟩
def Zd6.none_of(r:Zd6 Wo o):o=Wo:=by
 cases o with
 |none=>rfl
 |some u=>exact(show False from r).elim
def Zno(r:RelV v u):PySem.W.handedIn u=Wp:=by
 cases v with
 |non=>cases (show u=Value.none from r);rfl
 |bl b=>cases (show u=Value.bool b from r);rfl
 |int i=>obtain⟨t,e⟩:=(show ∃t,u=Value.int i t from r);cases e;rfl
 |str x=>obtain⟨t,e⟩:=(show ∃t,u=Value.str x t from r);cases e;rfl
 |byt b=>obtain⟨t,e⟩:=(show ∃t,u=Value.bytes b t from r);cases e;rfl
 |flt b=>obtain⟨t,e⟩:=(show ∃t,u=Value.float b t from r);cases e;rfl
 |ref a=>cases (show u=YC a from r);rfl
 |ty n=>cases (show u=Value.type n from r);rfl
section
variable {P:Yh}{w:Yg}{H H':Hp}{h h':YF}{a C dx:Yi}{fs fs':List (Str×V)}
def Ziz(hok:HOk P w H h)(e:H a=Wn (.ins C dx fs)):∃mA,ObjM h a dx C mA/\(∀f,Zd6 (fs.lookup f) (mA f))/\PySem.Within mA (fs.map (·.1))/\fs.length<=1000/\H dx=Wn (.own a):=by
 obtain⟨d,z,ne,ob,mA,n,r,q⟩:=(show ZS P w H h a (.ins C dx fs)from hok a _ e)
 exact⟨mA,⟨ob,n,ne⟩,r,q,z,d⟩
end
structure Cls(K:Yk)(C:Yi):Prop where
 pg:PySem.W.plainGet K C Str.empty=Wp
 hd:PySem.W.hasDictIn K C=Wp
 po:PySem.W.plainOver K C=Wp
 sa:YI K (.ref C) "__setattr__" = Wn (Wn (.builtin "object.__setattr__"))
def Cls.get{K:Yk}(c:Cls K C)(f:Str):PySem.W.plainGet K C f=Wp:=c.pg
def ZaV(K:Yk)(C:Yi)(f:Str):Prop:=YI K (.ref C) f=Wn Wo
def ZaV.taker{K:Yk}(n:ZaV K C f):PySem.W.takerIn K C f=Wn Wo:=by unfold PySem.W.takerIn;rw[show YI K (.ref C) f=Wn Wo from n];rfl
structure Meth(K:Yk)(C:Yi)(m:Str)(f:Yi):Prop where
 at_:YI K (.ref C) m=Wn (Wn (.ref f))
 fn:PySem.W.isFn K (.ref f)=Wp
 kp:YZ K (.ref f)=Wp
section
variable {X:Cx}{pins:List (Yi×Obj)}{Z:St}{H:Hp}{s:Yb}{a C dx:Yi}{fs:List (Str×V)}{f:Str}{v:V}{A:YG}{E:Yj->Yb->Prop}
def ZgR(I:Inv X pins Z H s)(e:H a=Wn (.ins C dx fs))(c:Cls X.K C)(n:ZaV X.K C f)(l:fs.lookup f=Wn v)
 (h:∀u s',Inv X pins Z H s'->RelV v u->Q u s'):YA (model X.prog X.w) A (getAttr (.ref a) f b) Q E s:=by
 obtain⟨mA,O_,r,_,_,_⟩:=Ziz I.hok e;obtain⟨u,hu,ru⟩:=Zd6.some_of (v:=v) (o:=mA f) (by rw[<- l];exact r f);exact Zrt I.kIn O_ (c.get f) c.hd n hu (Zno ru) (h u _ (I.tok _) ru)
def ZgQ(I:Inv X pins Z H s)(e:H a=Wn (.ins C dx fs))(c:Cls X.K C)(k:Meth X.K C m g)(l:fs.lookup m=Wo)
 (h:Q (.ref g,[.ref a]) s):YA (model X.prog X.w) A (getMethod (.ref a) m pl) Q E s:=by
 obtain⟨mA,O_,r,_,_,_⟩:=Ziz I.hok e;have hn:mA m=Wo:=Zd6.none_of (by rw[<- l];exact r m);exact Zpb I.kIn O_ (c.get m) k.at_ k.fn hn h
def Zgu(I:Inv X pins Z H s)(e:H a=Wn (.ins C dx fs))(c:Cls X.K C)(n:ZaV X.K C f)(hl:fs.length<1000)(ry:RelV y u)
 (h:∀s',Inv X pins Z (upd H a (.ins C dx (Zci f y fs))) s'->Q () s'):YA (model X.prog X.w) A (setAttr (.ref a) f u) Q E s:=by
 obtain⟨mA,O_,r,wi,_,ho⟩:=Ziz I.hok e;have hz:(fs.map (·.1)).length<=sizeLine:=by rw[Yt,YB];lia
 refine Zqh I.kIn O_ c.sa c.po n.taker c.hd wi hz λh' O' sb=>h _ ?_;have hd:∃o,h'.get? dx=Wn o:=let ⟨o,_,_,e',_⟩:=O'.ns;⟨o,e'⟩;refine I.write (x:=a) (e:=dx) (by rw[e];exact True.intro) (.inr ho) (λb q hb z=>(sb.2 b hb).trans z) hd ?_;refine⟨by rw[Zk O_.ne];exact ho,?_,O_.ne,O'.obj,_,O'.ns,λg=>?_,λg hg=>?_⟩
 . have:=ZfO f y fs;lia
 . show Zd6 ((Zci f y fs).lookup g) (if g=f then Wn u else mA g);rw[ZfN];by_cases q:g=f
   . rw[if_pos q,if_pos q];exact ry
   . rw[if_neg q,if_neg q];exact r g
 . by_cases q:g=f
   . rw[q];exact(Zfx f y fs).1
   . refine(Zfx f y fs).2 g (wi g λz=>hg ?_);show(if g=f then Wn u else mA g)=Wo;rw[if_neg q];exact z
def Inv.made(I:Inv X pins Z H s):Inv X pins Z (upd (upd H s.heap.objs.size (.own (s.heap.objs.size+1))) (s.heap.objs.size+1) (.ins C s.heap.objs.size []))
 {s with heap:=(s.heap.push YS).push (Wc C s.heap.objs.size)}:=by
 have e1:(s.heap.push YS).get? s.heap.objs.size=Wn YS:=Oj s.heap rfl;have e2:((s.heap.push YS).push (Wc C s.heap.objs.size)).get? (s.heap.objs.size+1)=Wn (Wc C s.heap.objs.size):=by
  have:=Oj (s.heap.push YS) (o:=Wc C s.heap.objs.size) rfl
  rwa [Heap.size_push]at this
 have e3:(s.heap.push YS).Ns s.heap.objs.size (λ_=>Wo):=⟨YS,#[],_,e1,rfl,(λe he=>absurd he (by simp)),λ_=>rfl⟩
 have I1:=I.laid (a:=s.heap.objs.size) (o:=.own (s.heap.objs.size+1)) (h':=s.heap.push YS) (t':=s.toks) (λb u q=>Od _ q) (Oq _) ⟨_,e1⟩;refine I1.laid (a:=s.heap.objs.size+1) (o:=.ins C s.heap.objs.size []) (t':=s.toks) (λb u q=>Od _ q) (Nat.le_of_eq (Heap.size_push _ _)) ?_;have ne:s.heap.objs.size≠s.heap.objs.size+1:=Ou (OH _);refine⟨by rw[Zk ne,Zh],Yw _,ne,e2,λ_=>Wo,(Heap.Ns1.of_empty e3).at λo q=>Od _ q,λ_=>True.intro,λy hy=>absurd rfl hy⟩
def ZrU(hb:attributeBase e f env (eval e env)=eval e env)
 (h:YA (model prog w) A (eval e env) (λo s₁=>YA (model prog w) A (getAttr o f Wp) Q E s₁) E s):YA (model prog w) A (eval (.Attribute e f pos) env) Q E s:=
 Attribute_any_ h (by rw[arm_eval_Attribute,hb])
end
def Zxx(K:Yk)(ta:TE)(f:Str):TE:=λZ H Q=>ta Z H λx H1=>∃a C dx fs v,x=.ref a/\H1 a=Wn (.ins C dx fs)/\Cls K C/\ZaV K C f/\fs.lookup f=Wn v/\Q v H1
def ZxG(K:Yk)(ta tv:TE)(f:Str):TS:=λD Z H=>tv Z H λy H1=>ta Z H1 λx H2=>∃a C dx fs,x=.ref a/\H2 a=Wn (.ins C dx fs)/\Cls K C/\ZaV K C f/\fs.length<1000 /\
 D.nx Z (upd H2 a (.ins C dx (Zci f y fs)))
def Zw8(X:Cx)(op:Operator)(rd:V->V->Hp->VK->Prop):Prop:=∀(pins:List (Yi×Obj)) (s:Yb) (Z:St) (H:Hp) (x y:V) (u v:Yj) (Q:VK),Inv X pins Z H s->RelV x u->RelV y v->rd x y H Q->YA (model X.prog X.w) X.A (inplaceOp op u v) (EP X pins Z Q) X.xe s
def Zqi(K:Yk)(ta tv:TE)(rd:V->V->Hp->VK->Prop)(f:Str):TS:=λD Z H=>ta Z H λx H1=>∃a C dx fs v,x=.ref a/\H1 a=Wn (.ins C dx fs)/\Cls K C/\ZaV K C f/\fs.lookup f=Wn v /\
 tv Z H1 λy H2=>rd v y H2 λz H3=>∃dx' fs',H3 a=Wn (.ins C dx' fs')/\fs'.length<1000/\D.nx Z (upd H3 a (.ins C dx' (Zci f z fs')))
section
variable {X:Cx}{o e value:Expr}{f:Str}{pos pos' tpos:Pos}{ta tv:TE}
def Ztt(he:PE X e ta)(hb:attributeBase e f X.env (eval e X.env)=eval e X.env):PE X (.Attribute e f pos) (Zxx X.K ta f):=by intro pins s Z H Q I h;refine ZrU hb (thn (he pins s Z H _ I h) λu s1 ⟨x,H1,I1,rx,a,C,dx,fs,v,ex,ea,c,n,l,q⟩=>?_);subst ex;obtain rfl:u=YC a:=rx;exact ZgR I1 ea c n l λu' s2 I2 ru=>⟨v,H1,I2,ru,q⟩
def Ztj(ha:PE X o ta)(hv:PE X value tv)(hs:swapsWith value (Wn (.Attribute o f pos')) pos.line X.env=pure Wq):PS X (.Assign [.Attribute o f pos'] value pos) (ZxG X.K ta tv f):=by intro pins s Z H D I h;refine plainObj_wpAny_Assign_Attribute (thn (hv pins s Z H _ I h) λu s1 ⟨y,H1,I1,ry,q⟩=>thn (ha pins s1 Z H1 _ I1 q) λov s2 ⟨x,H2,I2,rx,a,C,dx,fs,ex,ea,c,n,l,q2⟩=>?_) hs;subst ex;obtain rfl:ov=YC a:=rx;exact Zgu I2 ea c n l ry λs3 I3=>⟨Z,_,I3,q2⟩
def ZmY(ha:PE X o ta)(hv:PE X value tv)(hop:Zw8 X op rd):PS X (.AugAssign (.Attribute o f tpos) op value pos) (Zqi X.K ta tv rd f):=by intro pins s Z H D I h;refine wpAny_AugAssign_AttributeAny (thn (ha pins s Z H _ I h) λov s1 ⟨x,H1,I1,rx,a,C,dx,fs,v,ex,ea,c,n,l,q⟩=>?_);subst ex;obtain rfl:ov=YC a:=rx;refine ZgR I1 ea c n l λu s2 I2 ru=>thn (hv pins s2 Z H1 _ I2 q) λw3 s3 ⟨y,H2,I3,ry,q3⟩=>thn (hop pins s3 Z H2 v y u w3 _ I3 ru ry q3) λw4 s4 ⟨z,H3,I4,rz,dx',fs',ea',l',q4⟩=>?_;exact Zgu I4 ea' c n l' rz λs5 I5=>⟨Z,_,I5,q4⟩
def ZvK:V->V->Hp->VK->Prop:=λx y H Q=>∃i j,x=.int i/\y=.int j/\Q (.int (i+j)) H
def Zui:Zw8 X .Add ZvK:=by
 rintro pins s Z H x y u v Q I rx ry ⟨i,j,rfl,rfl,q⟩;obtain⟨t,rfl⟩:=(show ∃t,u=Value.int i t from rx)
 obtain⟨t',rfl⟩:=(show ∃t',v=Value.int j t' from ry)
 exact PyProof.Rows.iadd_int ⟨.int (i+j),H,I.tok _,⟨_,rfl⟩,q⟩
end
structure Room(k:Nat)(A:YG):Prop where
 hd:A.handled=Wo
 dp:A.depth+k+5<recursionLimit
 un:A.units+4 * k+1300<cLine
 gd:A.guards=Wn []
def Room.mono(r:Room k A)(h:j<=k):Room j A:=⟨r.hd,by have:=r.dp;lia,by have:=r.un;lia,r.gd⟩
theorem Room.deeper(r:Room (k+1) A)(env:Env):Room k (A.deeper env):=⟨r.hd,by have:=r.dp;show A.depth+1+k+5<_;lia,by have:=r.un;show A.units+3+4 * k+1300<_;lia,r.gd⟩
def ZkV{A:YG}:(A.under (.builtin "type.__call__" ⟨.ref C::us,kw⟩)).depth=A.depth+1:=by first|rfl|simp[Around.under,Code.weight,Code.isCreation,Code.isGuard,Code.isCaller,Code.frames,Code.isFrame,guardIds]
def ZkU{A:YG}:(A.under (.builtin "type.__call__" ⟨.ref C::us,kw⟩)).units=A.units+1:=by first|rfl|simp[Around.under,Code.cUnits,Code.frames,Code.isFrame]
def Room.make(r:Room (k+1) A)(C:Yi)(us:List Yj)(kw:List (Str×Yj)):Room k (A.under (.builtin "type.__call__" ⟨.ref C::us,kw⟩)):=⟨r.hd,by have:=r.dp;rw[ZkV];lia,by have:=r.un;rw[ZkU];lia,by first|exact r.gd|simpa[Around.under,Code.weight,Code.isCreation,Code.isGuard,Code.isCaller,Code.frames,Code.isFrame,guardIds]using r.gd⟩
theorem Room.depth(r:Room k A):A.depth<recursionLimit:=by have:=r.dp;lia
noncomputable def ZsS:TA:=λ_ H Q=>Q [] H
noncomputable def Zvp(ta:TE)(tr:TA):TA:=λZ H Q=>ta Z H λx H1=>tr Z H1 λxs H2=>Q (x::xs) H2
section
variable {X:Cx}{e:Expr}{es:List Expr}{te:TE}{t:TA}{pos:Pos}
def Zck:PA X [] ZsS:=λ_ _ _ _ H Q I h=>Calls.spliced_nil ⟨[],H,I,.nil,h⟩
def Zah(ha:PE X e te)(hr:PA X es t)(hs:Yz (e::es) X.env=(Wq,eval e X.env)::Yz es X.env:=by rfl):PA X (e::es) (Zvp te t):=by intro pos pins s Z H Q I h;rw[hs];show YA _ _ (spliced ((Wq,eval e X.env)::YR pos (Yz es X.env))) _ _ s;refine Calls.spliced_cons (thn (ha pins s Z H _ I h) λu s1 ⟨x,H1,I1,r1,q1⟩=>?_);exact thn (hr pos pins s1 Z H1 _ I1 q1) λus s2 ⟨xs,H2,I2,r2,q2⟩=>⟨x::xs,H2,I2,.cons r1 r2,q2⟩
def Zxo(t:TA):TE:=λZ H Q=>t Z H λxs H1=>xs.length<=sizeLine/\∀p,H1 p=Wo->Q (.ref p) (upd H1 p (.tup xs))
def Zxt(t:TA):TE:=λZ H Q=>t Z H λxs H1=>xs.length<=sizeLine/\∀p,H1 p=Wo->Q (.ref p) (upd H1 p (.lst xs))
def Zto{x1}(h:PA X es t):PE X (.Tuple es x1 pos) (Zxo t):=by intro pins s Z H Q I hq;refine wpAny_Tuple_spliced (thn (h pos pins s Z H _ I hq) λus s1 ⟨xs,H1,I1,r,z,q⟩=>⟨by rw[<- r.length];exact z,?_⟩);have hf:H1 s1.heap.objs.size=Wo:=I1.hok.fresh (Oq _);refine⟨.ref s1.heap.objs.size,upd H1 s1.heap.objs.size (.tup xs),I1.laid (t':=s1.toks) (λb u e=>Od _ e) (Oq _) ?_,rfl,q _ hf⟩;exact⟨z,us,r,⟨_,Oj _ rfl,rfl,rfl,_,rfl⟩⟩
def Zow(h:PA X es t):PE X (.List es pos) (Zxt t):=by intro pins s Z H Q I hq;refine wpAny_List_spliced (thn (h pos pins s Z H _ I hq) λus s1 ⟨xs,H1,I1,r,z,q⟩=>⟨by rw[<- r.length];exact z,?_⟩);have hf:H1 s1.heap.objs.size=Wo:=I1.hok.fresh (Oq _);refine⟨.ref s1.heap.objs.size,upd H1 s1.heap.objs.size (.lst xs),I1.laid (t':=s1.toks) (λb u e=>Od _ e) (Oq _) ?_,rfl,q _ hf⟩;exact⟨z,us,0,r,Oj _ rfl⟩
end
abbrev Sp:=List V->Hp->VK->XK->Prop
abbrev CXT:=List Env->Hp->Yb->XK->Yj->Yb->Prop
structure Env0(P:Yh)(w:Yg)(K:Yk)(mg:Str->Option Yj)(base:YF)(A:YG)(outer:List Env)(s:Yb)(H:Hp):Prop where
 frames:A.frames=Wn outer
 mod:Mod K mg base
 bs:∀b o,base.get? b=Wn o->s.heap.get? b=Wn o/\H b=Wo
 bsz:base.objs.size<=s.heap.objs.size
 funs:s.heap.FunFrames base outer
 frf:∀b∈frs outer,H b=Wo
 hok:HOk P w H s.heap
 bare:AllBare s.gens
def CE(outer:List Env)(P:Yh)(w:Yg)(H:Hp)(s:Yb)(Q:VK)(u:Yj)(s':Yb):Prop:=∃v H',s'.os=s.os/\AllBare s'.gens/\Un (frs outer) [] H H' s.heap s'.heap/\HOk P w H' s'.heap/\RelV v u/\Q v H'
def CR(CX:CXT)(outer:List Env)(P:Yh)(w:Yg)(H:Hp)(s:Yb)(Q:VK)(E:XK)(r:Result)(s':Yb):Prop:=
 match r with
 |.ok (.ret u)=>CE outer P w H s Q u s'
 |.ok _=>False
 |.error e=>CX outer H s E e s'
structure FnOk(P:Yh)(w:Yg)(K:Yk)(mg:Str->Option Yj)(base:YF)(CX:CXT)(k:Nat)(f:Yi)(fd:FuncData)(ps:List Str)(sp:Sp):Prop where
 len:∀vs H Q E,sp vs H Q E->vs.length=ps.length
 run:∀(A:YG) (outer:List Env) (s:Yb) (H:Hp) (args:Args) (us:List Yj) (vs:List V) (Q:VK) (E:XK),Room k A->Env0 P w K mg base A outer s H->BindsTo s fd args (ps.zip us)->Zj vs us->sp vs H Q E ->
  codeAny (model P w) A (.call (.ref f) args) (CR CX outer P w H s Q E) s
def FnOk.imp{P:Yh}{w:Yg}{K:Yk}{mg:Str->Option Yj}{base:YF}{CX:CXT}{k:Nat}{f:Yi}{fd:FuncData}{ps:List Str}{sp sp':Sp}(F:FnOk P w K mg base CX k f fd ps sp)
 (h:∀vs H Q E,sp' vs H Q E->sp vs H Q E):FnOk P w K mg base CX k f fd ps sp':=
 ⟨λvs H Q E q=>F.len vs H Q E (h _ _ _ _ q),λA outer s H args us vs Q E hr he hb hv hs=>F.run A outer s H args us vs Q E hr he hb hv (h _ _ _ _ hs)⟩
def Env0.make{P:Yh}{w:Yg}{K:Yk}{mg:Str->Option Yj}{base:YF}{A:YG}{outer:List Env}{s:Yb}{H:Hp}(e:Env0 P w K mg base A outer s H)(C:Yi)(us:List Yj)(kw:List (Str×Yj)):
 Env0 P w K mg base (A.under (.builtin "type.__call__" ⟨.ref C::us,kw⟩)) outer s H:=⟨by first|exact e.frames|(simpa[Around.under,Code.envs,Code.isFrame,pushEnvs]using e.frames),e.mod,e.bs,e.bsz,e.funs,e.frf,e.hok,e.bare⟩
section
variable {X:Cx}{pins:List (Yi×Obj)}{Z:St}{H:Hp}{s s':Yb}
def Inv.env0(I:Inv X pins Z H s):Env0 X.prog X.w X.K X.mg X.base X.A X.stack s H:=⟨I.ok.frames,I.ok.mod,I.bs,OE I.ok.bsz I.sz,I.stack,I.stkFree,I.hok,I.bare⟩
def Inv.after(I:Inv X pins Z H s)(h:CE X.stack X.prog X.w H s Q u s'):EP X pins Z Q u s':=by obtain⟨v,H',os,bare,un,hok,r,q⟩:=h;obtain⟨hh,g,d,t,os'⟩:=s';obtain rfl:os'=s.os:=os;exact⟨v,H',I.call (h':=hh) (g':=g) (d':=d) (t':=t) (ch:=[]) un hok bare (λb z=>absurd z (by simp)),r,q⟩
end
noncomputable def Zvq(sp:Sp)(dvs:List V)(E:XK)(t:TA):TE:=λZ H Q=>t Z H λvs H1=>sp (vs++dvs) H1 Q E
def Zr9(C:Yi)(m:Str)(sp:Sp)(dvs:List V)(E:XK)(ta:TE)(t:TA):TE:=λZ H Q=>ta Z H λx H1=>∃a dx fs,x=.ref a/\H1 a=Wn (.ins C dx fs)/\fs.lookup m=Wo /\
 t Z H1 λvs H2=>sp (x::(vs++dvs)) H2 Q E
def Zsa(C:Yi)(sp:Sp)(dvs:List V)(E:XK)(t:TA):TE:=λZ H Q=>t Z H λvs H1=>∀x dx,H1 x=Wo->H1 dx=Wo->dx≠x ->
 sp (.ref x::(vs++dvs)) (upd (upd H1 dx (.own x)) x (.ins C dx [])) (λv H2=>v=.non/\Q (.ref x) H2) E
def Binds(K:Yk)(fd:FuncData)(ps:List Str)(ds:List Yj):Prop:=∀(s:Yb) (us:List Yj),K.In s.heap->(us++ds).length=ps.length->BindsTo s fd ⟨us,[]⟩ (ps.zip (us++ds))
def Binds.all{K:Yk}(h:∀us:List Yj,us.length=ps.length->bindArgs fd ⟨us,[]⟩=pure (ps.zip us)):Binds K fd ps []:=λs us _ hl=>by rw[Ys]at hl ⊢;exact .of_eq (h us hl)
def ZbT(CX:CXT)(X:Cx)(E:XK):Prop:=∀(pins:List (Yi×Obj)) (Z:St) (H:Hp) (s:Yb) (e:Yj) (s':Yb),Inv X pins Z H s->CX X.stack H s E e s'->X.xe e s'
section
variable {X:Cx}{CX:CXT}{k:Nat}{f C:Yi}{fd:FuncData}{ps:List Str}{sp:Sp}{dvs:List V}{ds:List Yj}{E:XK}{x m:Str}{p pos apos:Pos}{e o:Expr}{es:List Expr}{ta:TE}{t:TA}
def Zky(F:FnOk X.prog X.w X.K X.mg X.base CX k f fd ps sp)(hr:Room k X.A)(hb:Binds X.K fd ps ds)(hd:Zj dvs ds)(hx:ZbT CX X E)
 (I:Inv X pins Z H s) (r:Zj vs us) (h:sp (vs++dvs) H Q E):YA (model X.prog X.w) X.A (call (.ref f) us) (EP X pins Z Q) X.xe s:=by
 have r2:Zj (vs++dvs) (us++ds):=r.append hd;have hl:(us++ds).length=ps.length:=by rw[<- r2.length];exact F.len _ _ _ _ h
 refine wpAny_call (codeAny_mono (F.run X.A X.stack s H ⟨us,[]⟩ (us++ds) (vs++dvs) Q E hr I.env0 (hb s us I.kIn hl) r2 h) λr s' hq=>?_);cases r with
 |error e=>exact hx pins Z H s e s' I hq
 |ok fl=>
  cases fl with
  |ret u=>exact I.after hq
  |next=>exact False.elim hq
  |brk=>exact False.elim hq
  |cont=>exact False.elim hq
def ZqO(F:FnOk X.prog X.w X.K X.mg X.base CX k f fd ps sp)(hr:Room k X.A)(hg:Gl X x)(hm:X.mg x=Wn (.ref f))(hk:YZ X.K (.ref f)=Wp)(hb:Binds X.K fd ps ds)(hd:Zj dvs ds)(hx:ZbT CX X E)
 (ha:PA X (e::es) t) (hdb:(x==("__debug__" : Str))=Wq:=by decide) (he:Yz (e::es) X.env=(Wq,eval e X.env)::Yz es X.env:=by rfl) (hpl:(YR pos (Yz es X.env)).any (·.1)=Wq:=by rfl) :
 PE X (.Call (.Name x p) (e::es) [] pos) (Zvq sp dvs E t):=by
 intro pins s Z H Q I h;refine YW (Zbv I hg hm ?_ hdb);refine PySem.W.callWith_K (h₀:=X.base) I.ok.mod.kin hk (thn (ha pos pins s Z H _ I h) λus s1 ⟨vs,H1,I1,r,q⟩=>⟨I1.kIn,?_⟩) he hpl;exact Zky F hr hb hd hx I1 r q
def ZqJ(he:PE X o ta)(c:Cls X.K C)(hm:Meth X.K C m f)(F:FnOk X.prog X.w X.K X.mg X.base CX k f fd ps sp)(hr:Room k X.A)(hb:Binds X.K fd ps ds)(hd:Zj dvs ds)(hx:ZbT CX X E)(ha:PA X (e::es) t)
 (hst:Yz (e::es) X.env=(Wq,eval e X.env)::Yz es X.env:=by rfl) (hpl:(YR pos (Yz es X.env)).any (·.1)=Wq:=by rfl)
 (ht:eval (.Call (.Attribute o m apos) (e::es) [] pos) X.env=(do
  let ov <- eval o X.env
  standAt apos.atName
  let (f,first) <- holding [ov] (getMethod ov m pl)
  callWith pos f first (YR pos (Yz (e::es) X.env)) (backToKw pos (keywordEach [] X.env))):=by rfl) :
 PE X (.Call (.Attribute o m apos) (e::es) [] pos) (Zr9 C m sp dvs E ta t):=by
 intro pins s Z H Q I h;refine PySem.W.methodCall_KW (pl:=pl) (thn (he pins s Z H _ I h) λu s1 ⟨x,H1,I1,rx,a,dx,fs,ex,ea,l,q⟩=>?_) ht;subst ex;obtain rfl:u=YC a:=rx;refine ZgQ I1 ea c hm l ?_;refine PySem.W.callWith_K (first:=[.ref a]) (h₀:=X.base) I.ok.mod.kin hm.kp (thn (ha pos pins s1 Z H1 _ I1 q) λus s2 ⟨vs,H2,I2,r,q2⟩=>⟨I2.kIn,?_⟩) hst hpl;exact Zky (us:=.ref a::us) (vs:=.ref a::vs) F hr hb hd hx I2 (.cons rfl r) q2
def Zou(he:PE X o ta)(c:Cls X.K C)(hm:Meth X.K C m f)(F:FnOk X.prog X.w X.K X.mg X.base CX k f fd ps sp)(hr:Room k X.A)(hb:Binds X.K fd ps ds)(hd:Zj dvs ds)(hx:ZbT CX X E)
 (ht:eval (.Call (.Attribute o m apos) [] [] pos) X.env=(do
  let ov <- eval o X.env
  standAt apos.atName
  let (f,first) <- holding [ov] (getMethod ov m pl)
  callWith pos f first (YR pos (Yz [] X.env)) (backToKw pos (keywordEach [] X.env))):=by rfl) :
 PE X (.Call (.Attribute o m apos) [] [] pos) (Zr9 C m sp dvs E ta ZsS):=by
 intro pins s Z H Q I h;refine PySem.W.methodCall_KW (pl:=pl) (thn (he pins s Z H _ I h) λu s1 ⟨x,H1,I1,rx,a,dx,fs,ex,ea,l,q⟩=>?_) ht;subst ex;obtain rfl:u=YC a:=rx;refine ZgQ I1 ea c hm l ?_;exact PySem.W.callWith_K0 (first:=[.ref a]) I1.kIn hm.kp (Zky (us:=[.ref a]) (vs:=[.ref a]) F hr hb hd hx I1 (.cons rfl .nil) q)
structure Mk(K:Yk)(C f:Yi):Prop where
 makes:PySem.W.makesIn K C=Wp
 init:YI K (.ref C) "__init__" = Wn (Wn (.ref f))
 fn:PySem.W.isFn K (.ref f)=Wp
 kp:YZ K (.ref C)=Wp
def Zjl(M:Mk X.K C f)(F:FnOk X.prog X.w X.K X.mg X.base CX k f fd ps sp)(hr:Room (k+1) X.A)(hb:Binds X.K fd ps ds)(hd:Zj dvs ds)
 (hx:ZbT CX X E) (I:Inv X pins Z H s) (r:Zj vs us)
 (h:∀x dx,H x=Wo->H dx=Wo->dx≠x->sp (.ref x::(vs++dvs)) (upd (upd H dx (.own x)) x (.ins C dx [])) (λv H2=>v=.non/\Q (.ref x) H2) E) :
 YA (model X.prog X.w) X.A (call (.ref C) us) (EP X pins Z Q) X.xe s:=by
 have hq:=h (s.heap.objs.size+1) s.heap.objs.size (I.hok.fresh (Nat.le_succ _)) (I.hok.fresh (Oq _)) (Ou (OH _));have I2:=Inv.made (C:=C) I;have r2:Zj (V.ref (s.heap.objs.size+1)::(vs++dvs)) (YC (s.heap.objs.size+1)::(us++ds)):=.cons rfl (r.append hd);have hl:(YC (s.heap.objs.size+1)::us++ds).length=ps.length:=by have e:=r2.length;rw[F.len _ _ _ _ hq]at e;exact e.symm
 refine wpAny_call (ZoW (f:=f) I.kIn M.makes M.init (beq_iff_eq.mp M.fn) (codeAny_mono (F.run _ X.stack _ _ ⟨YC (s.heap.objs.size+1)::us,[]⟩ (YC (s.heap.objs.size+1)::(us++ds)) _ _ E (hr.make C us [])
  (I2.env0.make C us []) (hb _ (YC (s.heap.objs.size+1)::us) I2.kIn hl) r2 hq) λr s' hq'=>?_))
 cases r with
 |error e=>exact hx pins Z _ _ e s' I2 hq'
 |ok fl=>
  cases fl with
  |ret u=>obtain⟨v,H',I3,rv,ev,q3⟩:=I2.after hq';subst ev;exact⟨rv,⟨V.ref (s.heap.objs.size+1),H',I3,rfl,q3⟩⟩
  |next=>exact False.elim hq'
  |brk=>exact False.elim hq'
  |cont=>exact False.elim hq'
def ZqL(M:Mk X.K C f)(F:FnOk X.prog X.w X.K X.mg X.base CX k f fd ps sp)(hr:Room (k+1) X.A)(hg:Gl X x)(hm:X.mg x=Wn (.ref C))(hb:Binds X.K fd ps ds)(hd:Zj dvs ds)(hx:ZbT CX X E)
 (ha:PA X (e::es) t) (hdb:(x==("__debug__" : Str))=Wq:=by decide) (he:Yz (e::es) X.env=(Wq,eval e X.env)::Yz es X.env:=by rfl) (hpl:(YR pos (Yz es X.env)).any (·.1)=Wq:=by rfl) :
 PE X (.Call (.Name x p) (e::es) [] pos) (Zsa C sp dvs E t):=by
 intro pins s Z H Q I h;refine YW (Zbv I hg hm ?_ hdb);refine PySem.W.callWith_K (h₀:=X.base) I.ok.mod.kin M.kp (thn (ha pos pins s Z H _ I h) λus s1 ⟨vs,H1,I1,r,q⟩=>⟨I1.kIn,?_⟩) he hpl;exact Zjl M F hr hb hd hx I1 r q
def Zov(M:Mk X.K C f)(F:FnOk X.prog X.w X.K X.mg X.base CX k f fd ps sp)(hr:Room (k+1) X.A)(hg:Gl X x)(hm:X.mg x=Wn (.ref C))(hb:Binds X.K fd ps ds)(hd:Zj dvs ds)(hx:ZbT CX X E)
 (hdb:(x==("__debug__" : Str))=Wq:=by decide):PE X (.Call (.Name x p) [] [] pos) (Zsa C sp dvs E ZsS):=by
 intro pins s Z H Q I h;refine YW (Zbv I hg hm ?_ hdb);exact PySem.W.callWith_K0 I.kIn M.kp (Zjl (us:=[]) M F hr hb hd hx I .nil h)
end
structure FnScope(N P:List Str)(sc:Scope):Prop where
 kind:sc.kind=.function
 co:sc.isCoroutine=Wq
 gen:sc.isGenerator=Wq
 nd:N.Nodup
 pre:N.take P.length=P
 par:∀x∈P,sc.names.lookup x=Wn .local\/sc.names.lookup x=Wn .cell
 nofree:∀y∈sc.names,y.2≠.free
theorem ZhZ{kindOf:Str->Option NameKind}:∀{binds:List (Str×Yj)}{m:Str->Option Yj},(∀v,(x,v) ∉ binds)->bindL kindOf binds m x=m x
 |[],_,_=>rfl
 |(n,v)::r,m,h=>by
  unfold bindL;rw[ZhZ λw hw=>h w (Oh _ hw)];split
  . have:x≠n:=by rintro rfl;exact h v Oi
    simp[this]
  . rfl
theorem Zh1{kindOf:Str->Option NameKind}:∀{binds:List (Str×Yj)}{m:Str->Option Yj},(∀v,(x,v) ∉ binds)->bindC kindOf binds m x=m x
 |[],_,_=>rfl
 |(n,v)::r,m,h=>by
  unfold bindC;rw[Zh1 λw hw=>h w (Oh _ hw)];split
  . rfl
  . have:x≠n:=by rintro rfl;exact h v Oi
    simp[this]
theorem Zh0{kindOf:Str->Option NameKind}:∀{P:List Str}{vs:List Yj}{i:Nat}{m:Str->Option Yj},P.Nodup->P[i]? = Wn x->vs[i]? = Wn v->kindOf x=Wn .local ->
 bindL kindOf (P.zip vs) m x=Wn v
 |[],_,_,_,_,h,_,_=>by simp at h
 |_::_,[],_,_,_,_,h,_=>by simp at h
 |p::P,w::vs,0,m,nd,h1,h2,hk=>by simp at h1 h2;subst h1;subst h2;show bindL kindOf ((p,w)::P.zip vs) m p=_;unfold bindL;rw[ZhZ λv hv=>(List.nodup_cons.mp nd).1 (List.of_mem_zip hv).1,if_pos hk];simp
 |p::P,w::vs,i+1,m,nd,h1,h2,hk=>by show bindL kindOf ((p,w)::P.zip vs) m x=_;unfold bindL;exact Zh0 (i:=i) (List.nodup_cons.mp nd).2 (by simpa using h1) (by simpa using h2) hk
theorem Zh2{kindOf:Str->Option NameKind}:∀{P:List Str}{vs:List Yj}{i:Nat}{m:Str->Option Yj},P.Nodup->P[i]? = Wn x->vs[i]? = Wn v->kindOf x≠Wn .local ->
 bindC kindOf (P.zip vs) m x=Wn v
 |[],_,_,_,_,h,_,_=>by simp at h
 |_::_,[],_,_,_,_,h,_=>by simp at h
 |p::P,w::vs,0,m,nd,h1,h2,hk=>by simp at h1 h2;subst h1;subst h2;show bindC kindOf ((p,w)::P.zip vs) m p=_;unfold bindC;rw[Zh1 λv hv=>(List.nodup_cons.mp nd).1 (List.of_mem_zip hv).1,if_neg hk];simp
 |p::P,w::vs,i+1,m,nd,h1,h2,hk=>by show bindC kindOf ((p,w)::P.zip vs) m x=_;unfold bindC;exact Zh2 (i:=i) (List.nodup_cons.mp nd).2 (by simpa using h1) (by simpa using h2) hk
noncomputable def start(N:List Str)(vs:List V):St:=vs.map Wn++YJ (N.length - vs.length) Wo
def Zle(CX:CXT)(P:Yh)(w:Yg)(K:Yk)(mg:Str->Option Yj)(base:YF)(N:List Str)(qual:Str)(scope:Scope)(f:Yi)(cd:Yj)(A:YG)(outer:List Env)(s:Yb)(H:Hp)(E:XK):Cx where
 prog:=P
 w:=w
 K:=K
 mg:=mg
 base:=base
 A:=A.deeper (envOfC qual scope s.heap.objs.size f cd)
 N:=N
 s₀:=s
 H₀:=H
 env:=envOfC qual scope s.heap.objs.size f cd
 outer:=outer
 stack:=envOfC qual scope s.heap.objs.size f cd::outer
 ex:=[]
 calm:=Wp
 fn:=λ_=>Wp
 pn:=[]
 xe:=λe s'=>YA (model P w) (A.deeper (envOfC qual scope s.heap.objs.size f cd)) (leaving (envOfC qual scope s.heap.objs.size f cd) e) (λ_ s''=>CX outer H s E e s'') (λe' s''=>CX outer H s E e' s'') s'
def Zj6{sc:Scope}(h:sc.names.lookup x=Wn .cell):∃c,(cellsFrom n sc.names []).lookup x=Wn c:=by have q:=PySem.W.cellsFrom_some sc.names n [] (.inl h);exact Option.isSome_iff_exists.mp q
def Znm{CX:CXT}{P:Yh}{w:Yg}{K:Yk}{mg:Str->Option Yj}{base:YF}{N ps:List Str}{qual:Str}{scope:Scope}{f:Yi}{cd:Yj}{A:YG}{outer:List Env}{s s1:Yb}{H:Hp}{E:XK}{us:List Yj}{vs:List V}
 (S_:FnScope N ps scope) (hd:A.handled=Wo) (e0:Env0 P w K mg base A outer s H) (hl:vs.length=ps.length) (r:Zj vs us)
 (x:InCallC s s.heap.objs.size (bindL (envOfC qual scope s.heap.objs.size f cd).kindOf (ps.zip us) λ_=>Wo) (cellsFrom (s.heap.objs.size+1) scope.names []) (bindC (envOfC qual scope s.heap.objs.size f cd).kindOf (ps.zip us) λ_=>Wo) s1) :
 Inv (Zle CX P w K mg base N qual scope f cd A outer s H E) [] (start N vs) H s1:=by
 have hpl:ps.length<=N.length:=by have:=congrArg List.length S_.pre;rw[List.length_take]at this;lia
 obtain⟨h1,tk,rfl,hk⟩:=x.done;have noA:∀b:Yi,b ∉ (Zle CX P w K mg base N qual scope f cd A outer s H E).ex:=λb z=>absurd (show b∈([]:List Yi)from z) (by simp);refine⟨⟨e0.mod,S_.kind,rfl,rfl,Oq _,λy z c h1 h2=>?_,λy hy=>?_,λy c _ h=>?_,λ_=>hd,Around.frames_deeper e0.frames,.inr ⟨rfl,rfl⟩,λb z=>absurd z (noA b),e0.bs,e0.bsz,λb _ _=>noA b,λb z=>absurd z (noA b),e0.funs,e0.frf⟩,
  rfl,e0.bare,Un.kept hk,⟨_,x.toInCall.ns,λi y v h1 h2 h3=>?_⟩,λy c h=>⟨_,x.cell y c h⟩,e0.hok.fresh (Oq _),λy c h=>?_,λp hp=>absurd (show p∈([]:List (Yi×Obj))from hp) (by simp),e0.hok.kept hk,?_⟩
 . exact name_of_addr x.apart (YH h1) (YH h2)
 . have hy:scope.names.lookup y=Wn .cell\/scope.names.lookup y=Wn .free:=hy;rcases hy with hy|hy
   . exact Zj6 hy
   . exact absurd rfl (S_.nofree _ (YH hy))
 . exact Nat.le_of_lt (x.above y c (YH h))
 . have hi:i<vs.length:=by
    unfold start at h2;by_cases hi:i<vs.length
    . exact hi
    . rw[Om (by simpa using hi)]at h2;rw[List.getElem?_replicate]at h2;split at h2<;>cases h2
   have ha:vs[i]? = Wn v:=by
    unfold start at h2;rw[Oe (by simpa using hi),On]at h2;cases e:vs[i]? with
    |none=>rw[e]at h2;cases h2
    |some a=>rw[e]at h2;cases h2;rfl
   obtain⟨u,hu,rv⟩:=r.get ha;have hp:ps[i]? = Wn y:=by rw[<- S_.pre,List.getElem?_take_of_lt (by lia)];exact h1
   have ndP:ps.Nodup:=by rw[<- S_.pre];exact S_.nd.sublist (List.take_sublist _ _)
   refine⟨u,rv,?_⟩;rcases S_.par y (O1 hp)with k|k
   . exact .inl ⟨k,Zh0 ndP hp hu k⟩
   . obtain⟨c,e⟩:=Zj6 (n:=s.heap.objs.size+1) k;refine .inr ⟨.inl k,c,e,?_⟩;have q:=x.cell y c e;rw[Zh2 ndP hp hu (by show scope.names.lookup y≠_;rw[k];decide)]at q;exact q
 . exact e0.hok.fresh (Nat.le_of_lt (x.above y c (YH h)))
 . unfold start;show _=N.length;rw[OA,Yt,List.length_replicate]
   lia
def ZwD{CX:CXT}{P:Yh}{w:Yg}{K:Yk}{mg:Str->Option Yj}{base:YF}{k:Nat}{f:Yi}{name qual:Str}{params:Arguments}{body:List Stmt}{scope:Scope}{dV kV doc pm cdv ct oc:Yj}{an od:Option Yi}
 {osl:Array (Option Yj)}{N ps:List Str}{sp:Sp} (lk:K.lookup f=Wn ⟨oc,od,.func (PySem.W.fnOf name qual params body scope dV kV doc pm an cdv ct),osl⟩) (hcd:PySem.W.codeIn K cdv qual=Wp) (S_:FnScope N ps scope)
 (len:∀vs H Q E,sp vs H Q E->vs.length=ps.length)
 (hbody:∀(A:YG) (outer:List Env) (s:Yb) (H:Hp) (vs:List V) (Q:VK) (E:XK),Room k (A.deeper (envOfC qual scope s.heap.objs.size f cdv))->sp vs H Q E ->
  ∃t,PSs (Zle CX P w K mg base N qual scope f cdv A outer s H E) body t/\t {nx:=λ_ H'=>Q .non H',rt:=Q} (start N vs) H) :
 FnOk P w K mg base CX (k+1) f (PySem.W.fnOf name qual params body scope dV kV doc pm an cdv ct) ps sp:=by
 refine⟨len,λA outer s H args us vs Q E hr e0 hb r hsp=>?_⟩;have hl:=len _ _ _ _ hsp;have KX:K.In s.heap:=e0.mod.kin.keeps λb o e=>(e0.bs b o e).1;have lim:s.heap.NoLimit:=e0.mod.nolimit.keeps λb o e=>(e0.bs b o e).1;have hkind:∀y∈ps.zip us,scope.names.lookup y.1=Wn .local\/(scope.names.lookup y.1=Wn .cell/\((cellsFrom (s.heap.objs.size+1) scope.names []).lookup y.1).isSome=Wp):=λ⟨n,v⟩ hy=>by
  rcases S_.par n (List.of_mem_zip hy).1 with q|q
  . exact .inl q
  . exact .inr ⟨q,PySem.W.cellsFrom_some _ _ _ (.inl q)⟩
 refine codeAny_call_function hr.depth (KX _ _ lk) rfl S_.co S_.gen rfl (PySem.W.codeRec_of KX hcd) (hb _ _ _ _ ?_);refine wpAny_newFunctionEnv_cells S_.kind hkind λenv he s1 x=>?_;subst he;refine⟨lim.keeps x.toInCall.keep,codeAny_func ?_⟩;obtain⟨t,ht,hq⟩:=hbody A outer s H vs Q E (hr.deeper _) hsp;have I:Inv (Zle CX P w K mg base N qual scope f cdv A outer s H E) [] (start N vs) H s1:=Znm S_ hr.hd e0 hl r x;refine Yf (ht [] s1 (start N vs) H _ I hq) (λfl s' hs=>?_) λe s' hs=>hs;have fin:∀{σ':St}{H':Hp}{v:V}{u:Yj},Inv (Zle CX P w K mg base N qual scope f cdv A outer s H E) [] σ' H' s'->RelV v u->Q v H'->CE outer P w H s Q u s':=λ{σ' H' v u} J rv q=>⟨v,H',J.os,J.bare,J.base,J.hok,rv,q⟩
 cases fl with
 |ret u=>obtain⟨v,σ',H',J,rv,q⟩:=hs;exact fin J rv q
 |next=>obtain⟨σ',H',J,q⟩:=hs;exact fin (v:=V.non) (u:=Value.none) J rfl q
 |brk=>obtain⟨_,_,_,q⟩:=hs;exact False.elim q
 |cont=>obtain⟨_,_,_,q⟩:=hs;exact False.elim q
section
variable {X:Cx}{x:Str}{p pos:Pos}{e:Expr}{es:List Expr}{t:TA}{id T:String}{r:List V->Hp->VK->Prop}
noncomputable def tCB(r:List V->Hp->VK->Prop)(t:TA):TE:=λZ H Q=>t Z H λvs H1=>r vs H1 Q
def ZbD(hc:Zad X (.builtin id) r)(hg:Gl X x)(hm:X.mg x=Wo)(hv:bootBuiltins x=Wn (.builtin id))(ha:PA X (e::es) t)(hn:x ≠ "__name__" := by decide)(hdb:(x==("__debug__" : Str))=Wq:=by decide)
 (he:Yz (e::es) X.env=(Wq,eval e X.env)::Yz es X.env:=by rfl) (hpl:(YR pos (Yz es X.env)).any (·.1)=Wq:=by rfl):PE X (.Call (.Name x p) (e::es) [] pos) (tCB r t):=by
 intro pins s Z H Q I h;refine YW (Zcm I hg hm hv ?_ hn hdb);exact PyProof.Rows.callWith_builtin1 (thn (ha pos pins s Z H _ I h) λus s1 ⟨vs,H1,I1,r1,q1⟩=>hc pins s1 Z H1 vs us Q I1 r1 q1) he hpl
def Zft(hc:Zad X (.type T) r)(hg:Gl X x)(hm:X.mg x=Wo)(hv:bootBuiltins x=Wn (.type T))(ha:PA X (e::es) t)(hn:x ≠ "__name__" := by decide)(hdb:(x==("__debug__" : Str))=Wq:=by decide)
 (he:Yz (e::es) X.env=(Wq,eval e X.env)::Yz es X.env:=by rfl) (hpl:(YR pos (Yz es X.env)).any (·.1)=Wq:=by rfl):PE X (.Call (.Name x p) (e::es) [] pos) (tCB r t):=by
 intro pins s Z H Q I h;refine YW (Zcm I hg hm hv ?_ hn hdb);exact PyProof.Rows.callWith_type1 (thn (ha pos pins s Z H _ I h) λus s1 ⟨vs,H1,I1,r1,q1⟩=>hc pins s1 Z H1 vs us Q I1 r1 q1) he hpl
end
end L2
namespace HT
open PySem PyProof.Rows
section
variable {prog:Yh}{w:Yg}{A:YG}{E:Yj->Yb->Prop}{s:Yb}
def ZrH(ht:IsTup s.heap t vs.toArray)(hb:IsTup s.heap b ws.toArray)(hv:vs≠[])
 (h1:ws=[]->Q (.ref t) s) (h2:ws≠[]->Q (.ref s.heap.objs.size) {s with heap:=s.heap.push {cls:=.type "tuple",data:=.seq (vs++ws).toArray}})
 (hsz:vs.length+ws.length<=sizeLine):YA (model prog w) A (binaryOp .Add (.ref t) (.ref b)) Q E s:=by
 obtain⟨⟨cls,dd,data,sl⟩,ho,hc,n,hd⟩:=id ht;obtain⟨⟨cls2,dd2,data2,sl2⟩,ho2,hc2,n2,hd2⟩:=id hb;simp only at hc hd hc2 hd2;subst hc hd hc2 hd2;have e:vs.toArray++ws.toArray=(vs++ws).toArray:=by simp
 by_cases hw:ws=[]
 . exact concat_meets ⟨_,ho,rfl⟩ ⟨_,ho2,rfl⟩ noFill_tuple_add seq_tuple_add PySem.F.slot_tuple_add PySem.F.entry_tuple_add (PySem.F.args_tuple_add_2 _ _)
    (tuple_addW1 t b vs.toArray ws.toArray n n2 dd dd2 sl sl2 (by simpa using hv) (by simp[hw])) ⟨ho,ho2,h1 hw⟩
 . refine concat_meets ⟨_,ho,rfl⟩ ⟨_,ho2,rfl⟩ noFill_tuple_add seq_tuple_add PySem.F.slot_tuple_add PySem.F.entry_tuple_add (PySem.F.args_tuple_add_2 _ _)
    (tuple_addW2 t b vs.toArray ws.toArray n n2 dd dd2 sl sl2 (by simpa using hv) (by simpa using hw) (by rw[Of,Of];exact hsz)) ⟨ho,ho2,?_⟩
   rw[e];exact h2 hw
noncomputable def sIx(n d:Nat):Option Int->Nat
 |none=>d
 |some v=>if v<0 then(v+(n:Int)).toNat else min v.toNat n
def Zs2(n d:Nat)(hd:d<=n)(o:Option Int):sIx n d o<=n:=by
 cases o with
 |none=>exact hd
 |some v=>
  show(if v<0 then(v+(n:Int)).toNat else min v.toNat n)<=n;by_cases hv:v<0
  . rw[if_pos hv];lia
  . rw[if_neg hv];exact Nat.min_le_right _ _
def Zmr(v:Int)(n d:Nat):(if v<0 then max (v+(n:Int)) 0 else min v (n:Int))=((sIx n d (Wn v):Nat):Int):=by
 show(if v<0 then max (v+(n:Int)) 0 else min v (n:Int))=(((if v<0 then(v+(n:Int)).toNat else min v.toNat n):Nat):Int)
 by_cases hv:v<0
 . simp only[if_pos hv];lia
 . simp only[if_neg hv];lia
def Zlq(lo hi:Option Int)(n:Nat):Builtin.Slice.sliceAdjust lo hi 1 (n:Int)=(((sIx n 0 lo:Nat):Int),((sIx n n hi:Nat):Int)):=by
 have h1:¬ ((1:Int)<0):=by lia
 unfold Builtin.Slice.sliceAdjust;simp only[h1,if_false];refine Prod.ext ?_ ?_
 . cases lo with
   |none=>rfl
   |some v=>exact Zmr v n 0
 . cases hi with
   |none=>rfl
   |some v=>exact Zmr v n n
def ZkG(i j:Nat):Builtin.Slice.slicePlaces (i:Int) (j:Int) 1=j - i:=by
 unfold Builtin.Slice.slicePlaces;have h1:(1:Int) > 0:=by lia
 simp only[h1,if_true,Int.ediv_one];split<;>lia
def Zgs(p:IsPart v o)(h:Q o s):YA (model prog w) A (Builtin.Slice.slicePartIndex v) Q E s:=by
 cases p with
 |none=>exact slicePart_none h
 |int i t=>exact slicePart_int h
def Zcr{sl:Yi}{vl vu:Yj}{lo hi:Option Int}{n:Nat}{Q:Int×Int×Nat->Yb->Prop}(hs:s.heap.IsSliceOf sl vl vu .none)(pl:IsPart vl lo)(pu:IsPart vu hi)
 (h:Q (((sIx n 0 lo:Nat):Int),1,sIx n n hi - sIx n 0 lo) s):YA (model prog w) A (Builtin.Slice.sliceApplied (.ref sl) (pure (n:Int))) Q E s:=by
 obtain⟨os,hos,hcs,hds⟩:=id hs;unfold Builtin.Slice.sliceApplied Builtin.Slice.sliceFields;refine Ya (Ya (YQ hos hds (x:=vl) rfl (Ya (YQ hos hds (x:=vu) rfl (Ya (YQ hos hds (x:=.none) rfl (Yc ?_)))))));refine Ya (slicePart_none ?_);show YA _ _ (if ((1:Int)==0)=Wp then _ else _) _ _ s;rw[if_neg (by decide)];refine Ya (Zgs pl (Ya (Zgs pu (Ya (Yc ?_)))));show YA _ _ (match Builtin.Slice.sliceAdjust lo hi 1 (n:Int)with|(lo,hi)=>pure (lo,(1:Int),Builtin.Slice.slicePlaces lo hi 1)) _ _ s;rw[Zlq lo hi n];show YA _ _ (pure (((sIx n 0 lo:Nat):Int),(1:Int),Builtin.Slice.slicePlaces ((sIx n 0 lo:Nat):Int) ((sIx n n hi:Nat):Int) 1)) _ _ s;rw[ZkG];exact Yc h
def Zoo(xs:Array Yj)(i k:Nat):((List.range k).filterMap λ(m:Nat)=>xs[((i:Int)+(m:Int) * 1).toNat]?).toArray=((xs.toList.drop i).take k).toArray:=by
 have e:(λ(m:Nat)=>xs[((i:Int)+(m:Int) * 1).toNat]?)=λm=>xs[i+m]? := by
  funext m;have:((i:Int)+(m:Int) * 1).toNat=i+m:=by lia
  rw[this]
 rw[e];have:=pick_run xs i k;rw[List.filterMap_map]at this;have e2:((λx=>xs[x]?) ∘ λx=>i+x)=λm=>xs[i+m]? := rfl;rw[e2]at this;rw[this]
def Ze0{t sl:Yi}{items:Array Yj}{vl vu:Yj}{lo hi:Option Int}{Q:Yj->Yb->Prop}(ht:IsTup s.heap t items)(hs:s.heap.IsSliceOf sl vl vu .none)(pl:IsPart vl lo)(pu:IsPart vu hi)
 (hw:¬ (sIx items.size 0 lo=0/\sIx items.size items.size hi=items.size))
 (h:Q (.ref s.heap.objs.size) {s with heap:=s.heap.push {cls:=.type "tuple",data:=.seq ((items.toList.drop (sIx items.size 0 lo)).take (sIx items.size items.size hi - sIx items.size 0 lo)).toArray}})
 (hsz:items.size<=sizeLine):YA (model prog w) A (getItem (.ref t) (.ref sl)) Q E s:=by
 have htake:sizeOk (.seq ((items.toList.drop (sIx items.size 0 lo)).take (sIx items.size items.size hi - sIx items.size 0 lo)).toArray):=by
  show((items.toList.drop (sIx items.size 0 lo)).take (sIx items.size items.size hi - sIx items.size 0 lo)).toArray.size<=sizeLine;rw[Of,List.length_take,List.length_drop,Array.length_toList]
  lia
 have hj:sIx items.size items.size hi<=items.size:=Zs2 _ _ (Oq _) hi;obtain⟨os,hos,hcs,hds⟩:=id hs;have hTs:s.TypeIs (.ref sl) "slice" := ⟨os,hos,hcs⟩
 unfold getItem
 try with_reducible refine Wa ?_
 first|refine Ya (Yc ?_)|skip
 refine Ya (wpAny_sequenceKey ht.typeIs (by decide) ?_);refine Ya (YX (name:=O "__getitem__") ht.typeIs Wf
  (Wb Wf ht.typeIs entry_tuple_getitem ?_ (args_tuple_getitem _ _)))
 show YA _ _ (Builtin.Tuple.tupleItemsOf (.ref t) >>= _) _ _ s;refine Ya (tupleItemsOf_ ht ?_);refine Ya (wpAny_typeOf hTs ?_);rw[if_pos (by decide)];refine Ya (Zcr hs pl pu ?_);have hno:¬ ((((sIx items.size 0 lo:Nat):Int)==0&&(1:Int)==1&&(sIx items.size items.size hi - sIx items.size 0 lo)==items.size)=Wp):=by intro q;rw[Oa,Oa]at q;have q1:((sIx items.size 0 lo:Nat):Int)=0:=eq_of_beq q.1.1;have q2:sIx items.size items.size hi - sIx items.size 0 lo=items.size:=eq_of_beq q.2;exact hw ⟨by lia,by lia⟩
 show YA _ _ (if (((sIx items.size 0 lo:Nat):Int)==0&&(1:Int)==1&&(sIx items.size items.size hi - sIx items.size 0 lo)==items.size)=Wp then _ else _) _ _ s;rw[if_neg hno,Zoo]
 first
  |exact Ya (m:=Builtin.Tuple.tupleExact _) (Yq (Yc ⟨_,rfl,Yc h⟩) htake)
  |exact Ya (m:=Builtin.Tuple.tupleExact _) (Yq (Ya (Yc (Yc ⟨_,rfl,Yc h⟩))) htake)
  |exact Ya (Ya (m:=Builtin.Tuple.tupleExact _) (Yq (Yc (Yc ⟨_,rfl,Yc h⟩)) htake))
  |exact Ya (Ya (m:=Builtin.Tuple.tupleExact _) (Yq (Yc ⟨_,rfl,Yc h⟩) htake))
end
end HT
namespace L2
open PySem PySem.Spec PyProof.Rows
abbrev TO:=St->Hp->(Option Int->Hp->Prop)->Prop
def PO(X:Cx)(e:Option Expr)(t:TO):Prop:=
 ∀(pins:List (Yi×Obj)) (s:Yb) (Z:St) (H:Hp) (Q:Option Int->Hp->Prop),Inv X pins Z H s->t Z H Q ->
  YA (model X.prog X.w) X.A (evalPart e X.env) (λu s'=>∃o H',Inv X pins Z H' s'/\IsPart u o/\Q o H') X.xe s
noncomputable def Zqd:TO:=λ_ H Q=>Q Wo H
noncomputable def Zvj(t:TE):TO:=λZ H Q=>t Z H λx H1=>∃i,x=.int i/\Q (Wn i) H1
section
variable {X:Cx}{e:Expr}{te:TE}{lo hi:Option Expr}{tl th:TO}{pos p2:Pos}
def ZqD:PO X Wo Zqd:=by intro pins s Z H Q I h;rw[evalPart_none];exact Yc ⟨Wo,H,I,.none,h⟩
def ZqC(h:PE X e te):PO X (Wn e) (Zvj te):=by intro pins s Z H Q I hw;rw[evalPart_some];refine thn (h pins s Z H _ I hw) λu s1 ⟨x,H1,I1,r1,q1⟩=>?_;obtain⟨i,rfl,q⟩:=q1;obtain⟨t,rfl⟩:=r1;exact⟨Wn i,H1,I1,.int i t,q⟩
def SlR(X:Cx)(r:V->Option Int->Option Int->Hp->VK->Prop):Prop:=
 ∀(pins:List (Yi×Obj)) (s:Yb) (Z:St) (H:Hp) (x:V) (v vl vu:Yj) (lo hi:Option Int) (sl:Yi) (Q:VK),Inv X pins Z H s->RelV x v->s.heap.IsSliceOf sl vl vu .none->IsPart vl lo->IsPart vu hi->r x lo hi H Q ->
  ∃T id,typeLookup (.type T) "__getitem__" = pure (Wn (.builtin id))/\s.TypeIs v T/\YA (model X.prog X.w) X.A (getItem v (.ref sl)) (EP X pins Z Q) X.xe s
noncomputable def tSl(r:V->Option Int->Option Int->Hp->VK->Prop)(te:TE)(tl th:TO):TE:=λZ H Q=>te Z H λx H1=>tl Z H1 λl H2=>th Z H2 λu H3=>r x l u H3 Q
def Zos(hr:SlR X r)(he:PE X e te)(hl:PO X lo tl)(hu:PO X hi th):PE X (.Subscript e (.Slice lo hi Wo p2) pos) (tSl r te tl th):=by intro pins s Z H Q I h;refine Subscript_ (thn (he pins s Z H _ I h) λv s1 ⟨x,H1,I1,r1,q1⟩=>?_);refine wpAny_Slice (thn (hl pins s1 Z H1 _ I1 q1) λvl s2 ⟨l,H2,I2,pl,q2⟩=>thn (hu pins s2 Z H2 _ I2 q2) λvu s3 ⟨u,H3,I3,pu,q3⟩=>?_);rw[evalPart_none];refine Yc ?_;have I4:Inv X pins Z H3 {s3 with heap:=s3.heap.push {cls:=.type "slice",data:=.fields #[vl,vu,.none]}}:=I3.kept (t':=s3.toks) λb ob q=>Od _ q;obtain⟨T,id,hT,ht,hg⟩:=hr pins {s3 with heap:=s3.heap.push {cls:=.type "slice",data:=.fields #[vl,vu,.none]}} Z H3 x v vl vu l u s3.heap.objs.size Q I4 r1 (Heap.IsSliceOf.new ..) pl pu q3;show YA (model X.prog X.w) X.A (subscriptTail e (.Slice lo hi Wo p2) v (.ref s3.heap.objs.size)) (EP X pins Z Q) X.xe {s3 with heap:=s3.heap.push {cls:=.type "slice",data:=.fields #[vl,vu,.none]}};exact tail_any (ops:=[.ref s3.heap.objs.size,v]) ht hT hg (by with_unfolding_all rfl)
def Zj0(xs:List V)(lo hi:Option Int):List V:=(xs.drop (HT.sIx xs.length 0 lo)).take (HT.sIx xs.length xs.length hi - HT.sIx xs.length 0 lo)
def ZfV(xs:List V)(lo hi:Option Int):(Zj0 xs lo hi).length<=xs.length:=by
 unfold Zj0;rw[List.length_take,List.length_drop]
 lia
def ZxL(K:Yk):V->Option Int->Option Int->Hp->VK->Prop:=λx lo hi H Q=>∃a xs,x=.ref a/\SqT K H a xs /\
 ¬ (HT.sIx xs.length 0 lo=0/\HT.sIx xs.length xs.length hi=xs.length)/\∀p,H p=Wo->Q (.ref p) (upd H p (.tup (Zj0 xs lo hi)))
def ZsY:SlR X (ZxL X.K):=by
 intro pins s Z H x v vl vu lo hi sl Q I rx hs pl pu h;obtain⟨a,xs,rfl,hx,hw,q⟩:=h;cases rx;obtain⟨its,r,ht,hz⟩:=I.tuple hx;have hlen:its.toArray.size=xs.length:=by rw[Of];exact r.length.symm
 refine⟨"tuple",_,PyProof.Rows.slot_tuple_getitem.lookup,ht.typeIs,?_⟩;refine HT.Ze0 ht hs pl pu (by rw[hlen];exact hw) ?_ (by rw[hlen];exact hz);rw[hlen];refine⟨.ref s.heap.objs.size,_,I.laid (t':=s.toks) (o:=.tup (Zj0 xs lo hi)) (λb ob q=>Od _ q) (Oq _) ?_,rfl,q _ (I.hok.fresh (Oq _))⟩;exact⟨OE (ZfV xs lo hi) hz,_,(r.drop (HT.sIx xs.length 0 lo)).take (HT.sIx xs.length xs.length hi - HT.sIx xs.length 0 lo),ZaW.fresh _ _⟩
def ZvI(K:Yk):R2:=λx y H Q=>∃a b xs ys,x=.ref a/\y=.ref b/\SqT K H a xs/\SqT K H b ys/\xs≠[]/\xs.length+ys.length<=sizeLine /\
 (ys=[]->Q (.ref a) H)/\(ys≠[]->∀p,H p=Wo->Q (.ref p) (upd H p (.tup (xs++ys))))
def Zj.nil_iff(r:Zj xs us):us=[]↔xs=[]:=by
 cases r with
 |nil=>simp
 |cons _ _=>simp
def ZqV:OpR X (binaryOp .Add) (ZvI X.K):=by intro pins s Z H x y v u Q I rx ry h;obtain⟨a,b,xs,ys,rfl,rfl,ha,hb,hx,hz,q1,q2⟩:=h;cases rx;cases ry;obtain⟨its,r1,p1,_⟩:=I.tuple ha;obtain⟨its2,r2,p2,_⟩:=I.tuple hb;refine HT.ZrH p1 p2 (λz=>hx (r1.nil_iff.mp z)) (λz=>⟨.ref a,H,I,rfl,q1 (r2.nil_iff.mp z)⟩) (λz=>?_) (by rw[<- r1.length,<- r2.length];exact hz);refine⟨.ref s.heap.objs.size,_,I.laid (t':=s.toks) (o:=.tup (xs++ys)) (λb ob q=>Od _ q) (Oq _) ?_,rfl,q2 (λw=>z (r2.nil_iff.mpr w)) _ (I.hok.fresh (Oq _))⟩;exact⟨by rw[OA];exact hz,_,r1.append r2,ZaW.fresh _ _⟩
end
noncomputable def ixN(n:Nat)(i:Int):Option Nat:=if 0<=i then(if i<n then Wn i.toNat else Wo)else if -(n:Int)<=i then Wn (i+n).toNat else Wo
def atI(xs:List α)(i:Int):Option α:=(ixN xs.length i).bind λj=>xs[j]?
def Zme(h:ixN n i=Wn j):seqIndex? i n=Wn j/\j<n/\-(n:Int)<=i/\i<n:=by
 unfold ixN at h;by_cases h0:0<=i
 . rw[if_pos h0]at h;by_cases h1:i<n
   . rw[if_pos h1]at h;have e:i.toNat=j:=YE h;exact⟨by rw[seqIndex_of h0 h1,e],by lia,by lia,h1⟩
   . rw[if_neg h1]at h;cases h
 . rw[if_neg h0]at h;by_cases h1:-(n:Int)<=i
   . rw[if_pos h1]at h;have e:(i+n).toNat=j:=YE h;exact⟨by rw[seqIndex_neg (by lia) h1,e],by lia,h1,by lia⟩
   . rw[if_neg h1]at h;cases h
def Zi2(h:atI xs i=Wn v):∃j,seqIndex? i xs.length=Wn j/\xs[j]? = Wn v/\j<xs.length/\-(xs.length:Int)<=i/\i<xs.length:=by
 unfold atI at h;cases e:ixN xs.length i with
 |none=>rw[e]at h;cases h
 |some j=>rw[e]at h;obtain⟨h1,h2,h3,h4⟩:=Zme e;exact⟨j,h1,h,h2,h3,h4⟩
def Zi4(b:Expr):Prop:=∀o i,subscripted b Wq o i=operate [o,i] (getItem o i)
def IxR(X:Cx)(r:R2):Prop:=
 ∀(value slice:Expr) (pins:List (Yi×Obj)) (s:Yb) (Z:St) (H:Hp) (x y:V) (v u:Yj) (Q:VK),Inv X pins Z H s->RelV x v->RelV y u->r x y H Q ->
  subscripted slice Wq v u=operate [v,u] (getItem v u)->YA (model X.prog X.w) X.A (subscriptTail value slice v u) (EP X pins Z Q) X.xe s
def MtR(X:Cx)(id:String)(r:V->List V->Hp->VK->Prop):Prop:=
 ∀(pins:List (Yi×Obj)) (s:Yb) (Z:St) (H:Hp) (x:V) (xs:List V) (v:Yj) (us:List Yj) (Q:VK),Inv X pins Z H s->RelV x v->Zj xs us->r x xs H Q ->
  YA (model X.prog X.w) X.A (call (.builtin id) (v::us)) (EP X pins Z Q) X.xe s
section
variable {X:Cx}{a b:Expr}{ta tb:TE}{pos:Pos}
def Zsi{r:R2}(hr:IxR X r)(ha:PE X a ta)(hb:PE X b tb)(hs:Zi4 b):PE X (.Subscript a b pos) (tOp r ta tb):=by intro pins s Z H Q I h;exact Subscript_ (ZuI ha hb I h λv u s2 x y H2 I2 rx ry q=>hr a b pins s2 Z H2 x y v u Q I2 rx ry q (hs _ _))
def ZxS(K:Yk):R2:=λx y H Q=>∃p xs i v,x=.ref p/\y=.int i/\SqL K H p xs/\atI xs i=Wn v/\Q v H
def ZxP(K:Yk):R2:=λx y H Q=>∃p xs i v,x=.ref p/\y=.int i/\SqT K H p xs/\atI xs i=Wn v/\Q v H
def ZxQ:R2:=λx y H Q=>∃z i c,x=.str z/\y=.int i/\z.length<=sizeLine/\atI z.cps.toList i=Wn c/\Q (.str ⟨#[c]⟩) H
def Zrm:IxR X (ZxS X.K):=by
 intro value slice pins s Z H x y v u Q I rx ry h hs;obtain⟨p,xs,i,z,rfl,rfl,hq,he,q⟩:=h;cases rx;obtain⟨t,rfl⟩:=ry;obtain⟨its,r,pl,hz⟩:=I.list hq;obtain⟨j,h1,h2,h3,h4,h5⟩:=Zi2 he;obtain⟨w,ew,rw'⟩:=r.get h2;have hl:=r.length;have hn:=ZbG;have fin:EP X pins Z Q w s:=⟨z,H,I,rw',q⟩
 by_cases h0:0<=i
 . have hj:i.toNat=j:=by rw[seqIndex_of h0 h5]at h1;exact YE h1
   exact item_listR pl.isList h0 (by lia) (by rw[hj];simpa using ew) fin hs
 . have hj:(i+(its.toArray.size:Int)).toNat=j:=by rw[seqIndex_neg (by lia) h4]at h1;rw[Of,<- hl];exact YE h1
   exact subscriptTail_builtinR (x:=w) pl.isList.typeIs slot_list_getitem.lookup
    (wpAny_getItem_list_neg (Q:=λr s'=>r=w/\EP X pins Z Q r s') pl.isList (by lia) (by rw[Of]<;>lia) (by lia) (by rw[hj];simpa using ew) ⟨rfl,fin⟩) hs
def Zub:IxR X (ZxP X.K):=by
 intro value slice pins s Z H x y v u Q I rx ry h hs;obtain⟨p,xs,i,z,rfl,rfl,hq,he,q⟩:=h;cases rx;obtain⟨t,rfl⟩:=ry;obtain⟨its,r,pl,hz⟩:=I.tuple hq;obtain⟨j,h1,h2,h3,h4,h5⟩:=Zi2 he;obtain⟨w,ew,rw'⟩:=r.get h2;have hl:=r.length;have hn:=ZbG;have fin:EP X pins Z Q w s:=⟨z,H,I,rw',q⟩
 exact subscriptTail_builtinR (x:=w) pl.typeIs slot_tuple_getitem.lookup
  (getItem_tuple (j:=j) (Q:=λr s'=>r=w/\EP X pins Z Q r s') pl (by lia) (by lia) (by rw[Of,<- hl];exact h1) (by simpa using ew) ⟨rfl,fin⟩) hs
theorem Zuc:IxR X ZxQ:=by
 intro value slice pins s Z H x y v u Q I rx ry h hs;obtain ⟨z,i,c,rfl,rfl,hz,he,q⟩:=h;obtain ⟨t,rfl⟩:=rx;obtain ⟨t',rfl⟩:=ry;obtain ⟨j,h1,h2,h3,h4,h5⟩:=Zi2 he;have hl:z.cps.toList.length=z.length:=by simp [Str.length]
 rw [hl] at h1 h4 h5;have hn:=ZbG;exact tail_any (typeIs_str s z t) slot_str_getitem.lookup (getItem_str (c:=c) (by
   have e1:Wt (i < -(2 ^ 63:Int))=Wq:=decide_eq_false (by lia);have e2:Wt (i ≥ 2 ^ 63)=Wq:=decide_eq_false (by lia);rw [e1,e2,Bool.or_false]) (by rw [h1];simpa using h2) ⟨.str ⟨#[c]⟩,H,I.tok _,⟨_,rfl⟩,q⟩) hs
def ZkT(its:List Yj)(n j:Nat)(u:Yj):Obj.mapSeq (·.setIfInBounds j u) {cls:=.type "list",data:=.seq its.toArray n}={cls:=.type "list",data:=.seq (its.set j u).toArray n}:=by simp[Obj.mapSeq]
theorem Inv.lst(I:Inv X pins Z H s)(h:H p=Wn (.lst xs)):
 ∃(its:List Yj) (n:Nat),Zj xs its/\s.heap.get? p=Wn {cls:=.type "list",data:=.seq its.toArray n}/\xs.length<=sizeLine:=by
 obtain⟨z,its,n,r,e⟩:=I.hok p _ h;exact⟨its,n,r,e,z⟩
def Inv.lstUpd{pins:List (Yi×Obj)}{Z:St}{H:Hp}{s:Yb}{p:Yi}{xs ys:List V}{its its':List Yj}{n n':Nat}{f:Obj->Obj}(I:Inv X pins Z H s)(h:H p=Wn (.lst xs))
 (ho:s.heap.get? p=Wn {cls:=.type "list",data:=.seq its.toArray n}) (hf:f {cls:=.type "list",data:=.seq its.toArray n}={cls:=.type "list",data:=.seq its'.toArray n'}) (r:Zj ys its') (hz:ys.length<=sizeLine) (t:Nat) :
 Inv X pins Z (upd H p (.lst ys)) {s with heap:=s.heap.update p f,toks:=t}:=by
 have e:(s.heap.update p f).get? p=Wn {cls:=.type "list",data:=.seq its'.toArray n'}:=by rw[YV f ho (by rw[hf]<;>rfl),hf]
 refine I.write (x:=p) (e:=p) (by rw[h];trivial) (.inl rfl) (λb u hb q=>(YM _ _ (YK hb)).trans q) ⟨_,e⟩ ?_;exact⟨hz,its',n',r,e⟩
def ZvF:V->V->V->Hp->(Hp->Prop)->Prop:=λo i v H Q=>∃p xs k j,o=.ref p/\i=.int k/\H p=Wn (.lst xs)/\ixN xs.length k=Wn j/\Q (upd H p (.lst (xs.set j v)))
def set_list:ZnD X ZvF:=by
 intro pins s Z H o i v ov iv u Q I ro ri rv h;obtain⟨p,xs,k,j,rfl,rfl,hp,hj,q⟩:=h;cases ro;obtain⟨t,rfl⟩:=ri;obtain⟨its,n,r,ho,hz⟩:=I.lst hp;obtain⟨h1,h2,h3,h4⟩:=Zme hj;have hl:=r.length;have hn:=ZbG;have I':Inv X pins Z (upd H p (.lst (xs.set j v))) {s with heap:=s.heap.update p (Obj.mapSeq (·.setIfInBounds j u))}:=I.lstUpd hp ho (ZkT its n j u) (r.set rv j) (by rw[List.length_set];exact hz) s.toks
 by_cases h0:0<=k
 . have hk:k.toNat=j:=by rw[seqIndex_of h0 h4]at h1;exact YE h1
   exact PySem.W.ki_setAt ho h0 (by lia) (by rw[Of,<- hl];exact h4) (by rw[hk];exact⟨_,I',q⟩)
 . have hk:(k+(its.toArray.size:Int)).toNat=j:=by rw[seqIndex_neg (by lia) h3]at h1;rw[Of,<- hl];exact YE h1
   exact PySem.W.ki_setBack ho (by lia) (by rw[Of,<- hl];exact h3) (by lia) (by rw[hk];exact⟨_,I',q⟩)
def Zij(lo hi:Option Int)(n:Nat):(sliceBounds lo hi Wo n).1=((HT.sIx n 0 lo:Nat):Int)/\(sliceBounds lo hi Wo n).2.1=((HT.sIx n n hi:Nat):Int)/\(sliceBounds lo hi Wo n).2.2=1:=by
 refine⟨?_,?_,rfl⟩
 . cases lo with
   |none=>simp[sliceBounds,HT.sIx]
   |some i=>
    simp only[sliceBounds,HT.sIx,Option.getD_none,show(1:Int) > 0 by decide,if_true];by_cases h:i<0
    . simp only[h,if_true]<;>lia
    . simp only[h,if_false]<;>lia
 . cases hi with
   |none=>simp[sliceBounds,HT.sIx]
   |some i=>
    simp only[sliceBounds,HT.sIx,Option.getD_none,show(1:Int) > 0 by decide,if_true];by_cases h:i<0
    . simp only[h,if_true]<;>lia
    . simp only[h,if_false]<;>lia
def Zhp(its:List Yj)(lo hi:Option Int):slicePick its.toArray lo hi Wo=((its.drop (HT.sIx its.length 0 lo)).take (HT.sIx its.length its.length hi - HT.sIx its.length 0 lo)).toArray:=by obtain⟨h1,h2,h3⟩:=Zij lo hi its.toArray.size;unfold slicePick;rw[h1,h2,h3];simp only[sliceRange_one,pick_run,Of]<;>rfl
def ZxN(K:Yk):V->Option Int->Option Int->Hp->VK->Prop:=λx lo hi H Q=>∃a xs,x=.ref a/\SqL K H a xs/\∀p,H p=Wo->Q (.ref p) (upd H p (.lst (Zj0 xs lo hi)))
def Zqg:SlR X (ZxN X.K):=by intro pins s Z H x v vl vu lo hi sl Q I rx hs pl pu h;obtain⟨a,xs,rfl,hx,q⟩:=h;cases rx;obtain⟨its,r,ht,hz⟩:=I.list hx;have hlen:=r.length;refine⟨"list",_,slot_list_getitem.lookup,ht.isList.typeIs,?_⟩;refine wpAny_getItem_list_slice ht.isList hs pl pu .none (by simp) ?_ (by rw[Of]<;>lia);rw[Zhp,<- hlen];refine⟨.ref s.heap.objs.size,_,I.laid (t':=s.toks) (o:=.lst (Zj0 xs lo hi)) (λb ob q=>Od _ q) (Oq _) ?_,rfl,q _ (I.hok.fresh (Oq _))⟩;exact⟨OE (ZfV xs lo hi) hz,_,0,(r.drop (HT.sIx xs.length 0 lo)).take (HT.sIx xs.length xs.length hi - HT.sIx xs.length 0 lo),Oj _ rfl⟩
noncomputable def Zee:V->Bool
 |.non=>Wp
 |.bl _=>Wp
 |.int _=>Wp
 |.str _=>Wp
 |_=>Wq
noncomputable def eqV:V->V->Bool
 |.non,.non=>Wp
 |.bl a,.bl b=>a==b
 |.bl a,.int b=>(if a then 1 else 0)==b
 |.int a,.bl b=>a==(if b then 1 else 0)
 |.int a,.int b=>a==b
 |.str a,.str b=>a==b
 |_,_=>Wq
def ZuB(ry:RelV y u)(rx:RelV x v)(fy:Zee y=Wp)(fx:Zee x=Wp):SeqAt.EqAt A s u v (eqV y x):=by
 cases y with
 |non=>
  cases ry;cases x with
  |non=>cases rx;exact SeqAt.EqAt.same _
  |bl b=>cases rx;exact SeqAt.EqAt.none_bool b
  |int b=>obtain⟨t,rfl⟩:=rx;exact SeqAt.EqAt.none_int b t
  |str b=>obtain⟨t,rfl⟩:=rx;exact SeqAt.EqAt.none_str b t
  |_=>exact absurd (show Wq=Wp from fx) Ow
 |bl a=>
  cases ry;cases x with
  |non=>cases rx;exact SeqAt.EqAt.bool_none a
  |bl b=>cases rx;exact SeqAt.EqAt.bool_bool a b
  |int b=>obtain⟨t,rfl⟩:=rx;exact SeqAt.EqAt.bool_int a b t
  |str b=>obtain⟨t,rfl⟩:=rx;exact SeqAt.EqAt.bool_str a b t
  |_=>exact absurd (show Wq=Wp from fx) Ow
 |int a=>
  obtain⟨t',rfl⟩:=ry;cases x with
  |non=>cases rx;exact SeqAt.EqAt.int_none a t'
  |bl b=>cases rx;exact SeqAt.EqAt.int_bool a t' b
  |int b=>obtain⟨t,rfl⟩:=rx;exact SeqAt.EqAt.int_int a t' b t
  |str b=>obtain⟨t,rfl⟩:=rx;exact SeqAt.EqAt.int_str a t' b t
  |_=>exact absurd (show Wq=Wp from fx) Ow
 |str a=>
  obtain⟨t',rfl⟩:=ry;cases x with
  |non=>cases rx;exact SeqAt.EqAt.str_none a t'
  |bl b=>cases rx;exact SeqAt.EqAt.str_bool a t' b
  |int b=>obtain⟨t,rfl⟩:=rx;exact SeqAt.EqAt.str_int a t' b t
  |str b=>obtain⟨t,rfl⟩:=rx;exact SeqAt.EqAt.str_str a t' b t
  |_=>exact absurd (show Wq=Wp from fx) Ow
 |_=>exact absurd (show Wq=Wp from fy) Ow
def eqU(x:V)(u:Yj):Bool:=match u with
 |.none=>eqV .non x
 |.bool b=>eqV (.bl b) x
 |.int i _=>eqV (.int i) x
 |.str z _=>eqV (.str z) x
 |_=>Wq
def Zps(r:RelV y u)(f:Zee y=Wp):eqU x u=eqV y x:=by
 cases y with
 |non=>cases r;rfl
 |bl b=>cases r;rfl
 |int i=>obtain⟨t,rfl⟩:=r;rfl
 |str z=>obtain⟨t,rfl⟩:=r;rfl
 |_=>exact absurd (show Wq=Wp from f) Ow
theorem Zfp:∀{xs:List V}{us:List Yj},Zj xs us->xs.all Zee=Wp->us.any (eqU x)=xs.any λy=>eqV y x
 |_,_,.nil,_=>rfl
 |y::xs,u::us,.cons r t,f=>by rw[List.all_cons,Oa]at f;rw[YY,YY,Zps r f.1,Zfp t f.2]
theorem Zdf(rx:RelV x v)(fx:Zee x=Wp):∀{xs:List V}{us:List Yj},Zj xs us->xs.all Zee=Wp->∀u∈us,SeqAt.EqAt A s u v (eqU x u)
 |_,_,.nil,_=>λu hu=>by cases hu
 |y::xs,u::us,.cons r t,f=>λu' hu=>by
  rw[List.all_cons,Oa]at f;rcases O2.mp hu with rfl|hu
  . rw[Zps r f.1];exact ZuB r rx f.1 fx
  . exact Zdf rx fx t f.2 u' hu
def inV(x:V)(xs:List V):Bool:=xs.any λy=>eqV y x
def rIn(K:Yk)(neg:Bool):R2:=λx y H Q=>∃p xs,y=.ref p/\(SqL K H p xs\/SqT K H p xs)/\Zee x=Wp/\xs.all Zee=Wp/\Q (.bl (if neg then !inV x xs else inV x xs)) H
def Zm8:OpR X (YL .In) (rIn X.K Wq):=by
 intro pins s Z H x y v u Q I rx ry h;obtain⟨p,xs,rfl,hq,fx,fs,q⟩:=h;cases ry;rcases hq with hq|hq
 . obtain⟨its,r,pl,hz⟩:=I.list hq;refine SeqAt.in_listAt (eqU x) pl.isList (λw hw=>Zdf rx fx r fs w (by simpa using hw)) ⟨.bl _,H,I,rfl,?_⟩;rw[show its.toArray.any (eqU x)=its.any (eqU x) by simp,Zfp r fs];exact q
 . obtain⟨its,r,pl,hz⟩:=I.tuple hq;refine SeqAt.in_tupleAt (eqU x) pl (λw hw=>Zdf rx fx r fs w (by simpa using hw)) ⟨.bl _,H,I,rfl,?_⟩;rw[show its.toArray.any (eqU x)=its.any (eqU x) by simp,Zfp r fs];exact q
def Zin:OpR X (YL .NotIn) (rIn X.K Wp):=by
 intro pins s Z H x y v u Q I rx ry h;obtain⟨p,xs,rfl,hq,fx,fs,q⟩:=h;cases ry;rcases hq with hq|hq
 . obtain⟨its,r,pl,hz⟩:=I.list hq;refine SeqAt.notIn_listAt (eqU x) pl.isList (λw hw=>Zdf rx fx r fs w (by simpa using hw)) ⟨.bl _,H,I,rfl,?_⟩;rw[show its.toArray.any (eqU x)=its.any (eqU x) by simp,Zfp r fs];exact q
 . obtain⟨its,r,pl,hz⟩:=I.tuple hq;refine SeqAt.notIn_tupleAt (eqU x) pl (λw hw=>Zdf rx fx r fs w (by simpa using hw)) ⟨.bl _,H,I,rfl,?_⟩;rw[show its.toArray.any (eqU x)=its.any (eqU x) by simp,Zfp r fs];exact q
def ZiQ:Zad X (.builtin "len") (λxs H Q=>∃p ys,xs=[.ref p]/\(SqL X.K H p ys\/SqT X.K H p ys)/\Q (.int ys.length) H):=by
 intro pins s Z H xs us Q I r h;obtain⟨p,ys,rfl,hq,q⟩:=h;obtain⟨u,rfl,rx⟩:=vals1 r;cases rx;have hn:=ZbG;rcases hq with hq|hq
 . obtain⟨its,r',pl,hz⟩:=I.list hq;have hlen:=r'.length;exact Calls.call_len_list pl.isList (by simp only[Of]<;>lia) ⟨.int ys.length,H,I.tok _,⟨s.toks+1,by rw[Of,hlen]⟩,q⟩
 . obtain⟨its,r',pl,hz⟩:=I.tuple hq;have hlen:=r'.length;exact len_tuple pl (by simp only[Of]<;>lia) ⟨.int ys.length,H,I.tok _,⟨s.toks+1,by rw[Of,hlen]⟩,q⟩
def ZiP:Zad X (.builtin "len") (λxs H Q=>∃z,xs=[.str z]/\z.length<=sizeLine/\Q (.int z.length) H):=by intro pins s Z H xs us Q I r h;obtain⟨z,rfl,hz,q⟩:=h;obtain⟨u,rfl,t,rfl⟩:=vals1 r;have hn:=ZbG;exact len_str (by lia) ⟨.int z.length,H,I.tok _,⟨_,rfl⟩,q⟩
def ZiO:Zad X (.type "list") (λxs H Q=>∃p ys,xs=[.ref p]/\(SqL X.K H p ys\/SqT X.K H p ys)/\∀l,H l=Wo->Q (.ref l) (upd H l (.lst ys))):=by
 intro pins s Z H xs us Q I r h;obtain⟨p,ys,rfl,hq,q⟩:=h;obtain⟨u,rfl,rx⟩:=vals1 r;cases rx;have fin:∀(its:List Yj),Zj ys its->ys.length<=sizeLine->∀(h':YF) (c':Nat),(∀b o',s.heap.get? b=Wn o'->h'.get? b=Wn o') ->
  h'.get? s.heap.objs.size=Wn {cls:=.type "list",dict:=Wo,data:=.seq its.toArray c',slots:=#[]}->EP X pins Z Q (.ref s.heap.objs.size) {s with heap:=h'}:=λits r' hz h' c' kp e=>
  ⟨.ref s.heap.objs.size,_,I.laid (t':=s.toks) kp (Oq _) (show ZS X.prog X.w _ h' _ (.lst ys)from⟨hz,its,c',r',e⟩),rfl,q _ (I.hok.fresh (Oq _))⟩
 rcases hq with hq|hq
 . obtain⟨its,r',pl,hz⟩:=I.list hq;have hlen:=r'.length;obtain⟨o,ho,hc,n,hd⟩:=pl.isList;exact call_list_seq p (.inl rfl) ho hc hd (λh' c' kp e=>fin its r' hz h' c' kp e) (by simp only[Of]<;>lia)
 . obtain⟨its,r',pl,hz⟩:=I.tuple hq;have hlen:=r'.length;obtain⟨o,ho,hc,n,hd⟩:=pl;exact call_list_seq p (.inr rfl) ho hc hd (λh' c' kp e=>fin its r' hz h' c' kp e) (by simp only[Of]<;>lia)
def Zel:Zad X (.type "tuple") (λxs H Q=>∃p ys,xs=[.ref p]/\((SqL X.K H p ys/\∀l,H l=Wo->Q (.ref l) (upd H l (.tup ys)))\/(SqT X.K H p ys/\Q (.ref p) H))):=by
 intro pins s Z H xs us Q I r h;obtain⟨p,ys,rfl,h⟩:=h;obtain⟨u,rfl,rx⟩:=vals1 r;cases rx;rcases h with ⟨hq,q⟩|⟨hq,q⟩
 . obtain⟨its,r',pl,hz⟩:=I.list hq;have hlen:=r'.length;refine call_tuple_list pl.isList (λh' kp=>?_) (by simp only[Of]<;>lia);have I1:Inv X pins Z H {s with heap:=h'}:=I.kept (t':=s.toks) kp;have I2:Inv X pins Z (upd H h'.objs.size (.tup ys)) {s with heap:=h'.push {cls:=.type "tuple",data:=.seq its.toArray}}:=I1.laid (t':=s.toks) (λb o e=>Od _ e) (Oq _) (show ZS X.prog X.w _ _ _ (.tup ys)from⟨hz,its,r',ZaW.fresh _ _⟩)
   exact⟨.ref h'.objs.size,_,I2,rfl,q _ (I1.hok.fresh (Oq _))⟩
 . obtain⟨its,r',pl,hz⟩:=I.tuple hq;exact call_tuple_same pl ⟨.ref p,H,I,rfl,q⟩
def tyV(K:Yk)(T:String)(x:V)(H:Hp):Prop:=match x with
 |.str _=>T = "str"
 |.int _=>T = "int"
 |.ref p=>(T = "list" /\ ∃xs,SqL K H p xs)\/(T = "tuple" /\ ∃o,K.lookup p=Wn o/\o.cls=.type "tuple" /\ o.dict=Wo) \/
  (T = "dict" /\ ((∃kvs,H p=Wn (.dK kvs))\/∃kvs,H p=Wn (.dT kvs)))\/(T = "set" /\ ∃S_ n,H p=Wn (.set S_ n))
 |_=>False
def ZnM(I:Inv X pins Z H s)(r:RelV x v)(ty:tyV X.K T x H):
 s.TypeIs v T/\∀a,v=.ref a->∃ob,s.heap.get? a=Wn ob/\ob.dict=Wo:=by
 cases x with
 |str z=>obtain⟨t,rfl⟩:=r;cases (show T = "str" from ty);exact⟨typeIs_str s z t,λ_ e=>nomatch e⟩
 |int i=>obtain⟨t,rfl⟩:=r;cases (show T = "int" from ty);exact⟨typeIs_int s i t,λ_ e=>nomatch e⟩
 |ref p=>
  cases r;rcases ty with ⟨rfl,xs,hq⟩|⟨rfl,o,hk,hc,hd⟩|⟨rfl,hk⟩|⟨rfl,S_,n,hk⟩
  . obtain⟨its,_,pl,_⟩:=I.list hq;refine⟨pl.isList.typeIs,λa e=>?_⟩;cases e;obtain⟨o,n,e,c,hd,_⟩:=pl;exact⟨o,e,hd⟩
  . refine⟨⟨o,I.kIn p o hk,hc⟩,λa e=>?_⟩;cases e;exact⟨o,I.kIn _ o hk,hd⟩
  . have z:∃o,s.heap.get? p=Wn o/\o.ExactDict:=by
     rcases hk with ⟨kvs,hk⟩|⟨kvs,hk⟩
     . obtain⟨_,_,_,_,o,_,_,e,ex,_⟩:=I.hok p _ hk;exact⟨o,e,ex⟩
     . obtain⟨_,_,o,_,_,e,ex,_⟩:=I.hok p _ hk;exact⟨o,e,ex⟩
    obtain⟨o,e,ex⟩:=z;refine⟨⟨o,e,ex.1⟩,λa e2=>?_⟩;cases e2;exact⟨o,e,ex.2.1⟩
  . obtain⟨o,_,_,_,e,ex,_⟩:=I.hok p _ hk;refine⟨⟨o,e,ex.1⟩,λa e2=>?_⟩;cases e2;exact⟨o,e,ex.2.1⟩
 |_=>exact False.elim ty
noncomputable def Zxz(K:Yk)(T:String)(r:V->List V->Hp->VK->Prop)(to:TE):TE:=λZ H Q=>to Z H λx H1=>tyV K T x H1/\r x [] H1 Q
noncomputable def tBM(K:Yk)(T:String)(r:V->List V->Hp->VK->Prop)(to:TE)(t:TA):TE:=λZ H Q=>to Z H λx H1=>tyV K T x H1/\t Z H1 λxs H2=>r x xs H2 Q
variable {o e:Expr}{es:List Expr}{to:TE}{t:TA}{name:Str}{apos cpos:Pos}{T id:String}{r:V->List V->Hp->VK->Prop}
def Ztw(pa:PlainAttrs T)(slot:Slot T name id)(hty:typeOf (.builtin id)=pure (.type "method_descriptor"))(hm:MtR X id r)(ho:PE X o to)
 (hbase:attributeBase o name X.env (eval o X.env)=eval o X.env:=by rfl) (hline:(apos.endLine==cpos.line)=Wp:=by rfl):PE X (.Call (.Attribute o name apos) [] [] cpos) (Zxz X.K T r to):=by
 intro pins s Z H Q I h;refine wpAny_Call_method0_late hbase hline (thn (ho pins s Z H _ I h) λv s1 ⟨x,H1,I1,r1,ty,q1⟩=>?_);obtain⟨h1,h2⟩:=ZnM I1 r1 ty;exact⟨T,id,pa,slot,hty,h1,h2,Calls.callWith_builtin rfl (PySem.evalArgs_none (hm pins s1 Z H1 x [] v [] Q I1 r1 .nil q1))⟩
def ZvS(pa:PlainAttrs T)(slot:Slot T name id)(hty:typeOf (.builtin id)=pure (.type "method_descriptor"))(hm:MtR X id r)(ho:PE X o to)(ha:PA X (e::es) t)
 (hbase:attributeBase o name X.env (eval o X.env)=eval o X.env:=by rfl)
 (hfew:((YR cpos (Yz (e::es) X.env)).all (λx=>!x.1)&&(backToKw cpos (keywordEach [] X.env)).all (λx=>x.1.isSome)
  && Wt ((e::es).length+([]:List Keyword).length+(if ([]:List Keyword).isEmpty then 0 else 1)<30))=Wp:=by rfl)
 (hline:(apos.endLine==cpos.line)=Wp:=by rfl) (hs:Yz (e::es) X.env=(Wq,eval e X.env)::Yz es X.env:=by rfl) (hplain:(YR cpos (Yz es X.env)).any (·.1)=Wq:=by rfl) :
 PE X (.Call (.Attribute o name apos) (e::es) [] cpos) (tBM X.K T r to t):=by
 intro pins s Z H Q I h;refine wpAny_Call_method_late hbase hfew hline rfl (thn (ho pins s Z H _ I h) λv s1 ⟨x,H1,I1,r1,ty,q1⟩=>?_);obtain⟨h1,h2⟩:=ZnM I1 r1 ty;refine⟨T,id,pa,slot,hty,h1,h2,?_⟩;have hA:=ha cpos pins s1 Z H1 _ I1 q1;rw[hs]at hA ⊢;refine Calls.callWith_builtin (by show(Wq || (YR cpos (Yz es X.env)).any (·.1))=Wq;rw[hplain]<;>rfl) (Calls.evalArgs_plain ?_);exact thn hA λus s2 ⟨vs,H2,I2,r2,q2⟩=>hm pins s2 Z H2 x vs v us Q I2 r1 r2 q2
end
def MtM(X:Cx)(id:String)(r:V->List V->Hp->VK->Prop):Prop:=
 ∀(pins:List (Yi×Obj)) (s:Yb) (Z:St) (H:Hp) (x:V) (xs:List V) (v:Yj) (us:List Yj) (Q:VK),Inv X pins Z H s->RelV x v->Zj xs us->r x xs H Q ->
  YA (model X.prog X.w) X.A (call (.builtin id) (v::us)) (EP X pins Z Q) X.xe s
def Zj.one:∀{x:V}{us:List Yj},Zj [x] us->∃u,us=[u]/\RelV x u
 |_,_,.cons r .nil=>⟨_,rfl,r⟩
def Zj.zero:∀{us:List Yj},Zj [] us->us=[]
 |_,.nil=>rfl
theorem Zj.dropLast(h:Zj xs us):Zj xs.dropLast us.dropLast:=by
 induction h with
 |nil=>exact .nil
 |cons r t ih=>
  cases t with
  |nil=>exact .nil
  |cons q t'=>exact .cons r ih
theorem Zj.reverse(h:Zj xs us):Zj xs.reverse us.reverse:=by
 induction h with
 |nil=>exact .nil
 |cons r t ih=>rw[List.reverse_cons,List.reverse_cons];exact Zj.append ih (.cons r .nil)
def Zlb(l:List α):l.eraseIdx (l.length - 1)=l.dropLast:=by
 induction l with
 |nil=>rfl
 |cons a r ih=>
  cases r with
  |nil=>rfl
  |cons b r=>
   have e:(a::b::r).length - 1=((b::r).length - 1)+1:=by
    have h1:(a::b::r).length=r.length+2:=rfl;have h2:(b::r).length=r.length+1:=rfl
    lia
   rw[e,List.eraseIdx_cons_succ,ih]
   all_goals rfl
section
variable {X:Cx}{pins:List (Yi×Obj)}{Z:St}{H:Hp}{s:Yb}{l b:Yi}{xs ys zs:List V}
def Inv.lset{its its':List Yj}{n:Nat}{f:Array Yj->Array Yj}{t':Nat}(I:Inv X pins Z H s)(hH:H l=Wn (.lst xs))
 (e:s.heap.get? l=Wn {cls:=.type "list",data:=.seq its.toArray n}) (hf:f its.toArray=its'.toArray) (hv:Zj ys its') (hz:ys.length<=sizeLine) :
 Inv X pins Z (upd H l (.lst ys)) {s with heap:=s.heap.update l (Obj.mapSeq f),toks:=t'}:=by
 have q:=PySem.IsL.update e f;rw[hf]at q;refine I.write (x:=l) (e:=l) (by rw[hH];exact trivial) (.inl rfl) (λb' u hb hu=>(YM s.heap (Obj.mapSeq f) (YK hb)).trans hu) ⟨_,q⟩ ?_;exact⟨hz,its',_,hv,q⟩
def Inv.lnew(I:Inv X pins Z H s)(hv:Zj ys its)(hz:ys.length<=sizeLine):
 Inv X pins Z (upd H s.heap.objs.size (.lst ys)) {s with heap:=s.heap.push {cls:=.type "list",data:=.seq its.toArray},toks:=t'}:=
 I.laid (λ_ _ q=>Od _ q) (Oq _) ⟨hz,its,0,hv,Oj _ rfl⟩
theorem Inv.fresh(I:Inv X pins Z H s):H s.heap.objs.size=Wo:=I.hok.fresh (Oq _)
def Inv.lstM(I:Inv X pins Z H s)(hH:H l=Wn (.lst xs)):xs.length<=sizeLine/\∃(its:List Yj) (n:Nat),Zj xs its/\xs.length=its.length/\s.heap.get? l=Wn {cls:=.type "list",data:=.seq its.toArray n}:=by obtain⟨z,its,n,r,e⟩:=I.hok l _ hH;exact⟨z,its,n,r,r.length,e⟩
def Zjv{n:Nat}(h:n<=sizeLine):Wh n=Wq:=by unfold Wh;exact decide_eq_false (by lia)
end
section
variable {X:Cx}
def Zqv:V->List V->Hp->VK->Prop:=λx vs H Q=>∃l xs y,x=.ref l/\vs=[y]/\H l=Wn (.lst xs)/\xs.length<sizeLine/\Q .non (upd H l (.lst (xs++[y])))
def ZhO:MtM X "list.append" Zqv:=by
 intro pins s Z H x vs v us Q I rx rv h;obtain⟨l,xs,y,rfl,rfl,hH,hz,q⟩:=h;cases rx;obtain⟨u,rfl,ru⟩:=rv.one;obtain⟨z,its,n,r,hl,e⟩:=I.lstM hH;refine call_meets F.slot_list_append ⟨_,e,rfl⟩ F.entry_list_append (F.args_list_append_2 _ _) (PySem.list_append l its.toArray n u (by rw[Of];lia)) ⟨e,?_⟩;refine⟨.non,_,I.lset (its':=its++[u]) hH e (by simp) (r.append (.cons ru .nil)) ?_,rfl,q⟩;rw[OA,List.length_singleton]
 lia
def Zqu:V->List V->Hp->VK->Prop:=λx vs H Q=>∃l b xs zs,x=.ref l/\vs=[.ref b]/\H l=Wn (.lst xs)/\H b=Wn (.lst zs)/\xs.length+zs.length<=sizeLine/\Q .non (upd H l (.lst (xs++zs)))
def Znc:MtM X "list.extend" Zqu:=by
 intro pins s Z H x vs v us Q I rx rv h;obtain⟨l,b,xs,zs,rfl,rfl,hH,hB,hz,q⟩:=h;cases rx;obtain⟨u,rfl,ru⟩:=rv.one;cases ru;obtain⟨z,its,n,r,hl,e⟩:=I.lstM hH;obtain⟨z2,its2,n2,r2,hl2,e2⟩:=I.lstM hB;have hsz:its.toArray.size+its2.toArray.size<=sizeLine:=by rw[Of,Of];lia
 have hlong:¬ (!its.toArray.isEmpty&&Wh (its.toArray.size+its2.toArray.size))=Wp:=by rw[Zjv hsz,Bool.and_false];exact Ow
 refine call_meets F.slot_list_extend ⟨_,e,rfl⟩ F.entry_list_extend (F.args_list_extend_2 _ _)
  (AutoSeq1.list_extend_list_list_0 l its.toArray n b its2.toArray n2 hlong (by rw[Of];lia) (by lia)) ⟨e,e2,?_⟩
 refine⟨.non,_,I.lset (its':=its++its2) hH e (by simp) (r.append r2) ?_,rfl,q⟩;rw[OA]
 lia
def ZxO:V->List V->Hp->VK->Prop:=λx vs H Q=>∃l xs y,x=.ref l/\vs=[]/\H l=Wn (.lst xs)/\xs[xs.length - 1]? = Wn y/\Q y (upd H l (.lst xs.dropLast))
def ZtQ:MtM X "list.pop" ZxO:=by
 intro pins s Z H x vs v us Q I rx rv h;obtain⟨l,xs,y,rfl,rfl,hH,hy,q⟩:=h;cases rx;have hus:=rv.zero;subst hus;obtain⟨z,its,n,r,hl,e⟩:=I.lstM hH;obtain⟨u,hu,ru⟩:=r.get hy;have hy':its.toArray[its.toArray.size - 1]? = Wn u:=by show its.toArray[its.length - 1]? = Wn u;rw[<- Array.getElem?_toList,<- hl];exact hu
 refine call_meets F.slot_list_pop ⟨_,e,rfl⟩ F.entry_list_pop (F.args_list_pop_1 _) (MeetsSeq.list_pop_last l its.toArray n u hy' (by rw[Of];lia)) ⟨e,?_⟩;refine⟨y,_,I.lset (its':=its.dropLast) hH e ?_ r.dropLast ?_,ru,q⟩
 . show its.toArray.eraseIdxIfInBounds (its.toArray.size - 1)=its.dropLast.toArray;rw[Of,List.eraseIdxIfInBounds_toArray,Zlb]
 . rw[List.length_dropLast]
   lia
def Zob:V->List V->Hp->VK->Prop:=λx vs H Q=>∃l xs,x=.ref l/\vs=[]/\H l=Wn (.lst xs)/\Q .non (upd H l (.lst xs.reverse))
def ZkQ:MtM X "list.reverse" Zob:=by
 intro pins s Z H x vs v us Q I rx rv h;obtain⟨l,xs,rfl,rfl,hH,q⟩:=h;cases rx;have hus:=rv.zero;subst hus;obtain⟨z,its,n,r,hl,e⟩:=I.lstM hH;refine call_meets F.slot_list_reverse ⟨_,e,rfl⟩ F.entry_list_reverse (F.args_list_reverse_1 _) (AutoSeq1.list_reverse_list_0 l its.toArray n (by rw[Of];lia)) ⟨e,?_⟩;refine⟨.non,_,I.lset (its':=its.reverse) hH e (by simp) r.reverse ?_,rfl,q⟩;rw[List.length_reverse]
 lia
def Ztd:V->List V->Hp->VK->Prop:=λx vs H Q=>∃l xs,x=.ref l/\vs=[]/\H l=Wn (.lst xs)/\Q .non (upd H l (.lst []))
def ZoR:MtM X "list.clear" Ztd:=by intro pins s Z H x vs v us Q I rx rv h;obtain⟨l,xs,rfl,rfl,hH,q⟩:=h;cases rx;have hus:=rv.zero;subst hus;obtain⟨z,its,n,r,hl,e⟩:=I.lstM hH;refine call_meets F.slot_list_clear ⟨_,e,rfl⟩ F.entry_list_clear (F.args_list_clear_1 _) (AutoSeq1.list_clear_list_0 l its.toArray n (by rw[Of];lia)) ⟨e,?_⟩;exact⟨.non,_,I.lset (its':=[]) (ys:=[]) hH e rfl .nil (Yw _),rfl,q⟩
def ZxU:R2:=λx y H Q=>∃l b xs zs,x=.ref l/\y=.ref b/\H l=Wn (.lst xs)/\H b=Wn (.lst zs)/\xs.length+zs.length<=sizeLine/\∀p,H p=Wo->Q (.ref p) (upd H p (.lst (xs++zs)))
def ZtF:OpR X (binaryOp .Add) ZxU:=by
 intro pins s Z H x y v u Q I rx ry h;obtain⟨l,b,xs,zs,rfl,rfl,hH,hB,hz,q⟩:=h;cases rx;cases ry;obtain⟨z,its,n,r,hl,e⟩:=I.lstM hH;obtain⟨z2,its2,n2,r2,hl2,e2⟩:=I.lstM hB;refine PySem.P.add_list e e2 ?_ (by rw[Of,Of];lia);have ea:its.toArray++its2.toArray=(its++its2).toArray:=by simp
 rw[ea];exact⟨.ref _,_,I.lnew (t':=s.toks) (r.append r2) (by rw[OA];lia),rfl,q _ I.fresh⟩
end
end L2
namespace Att
open PySem PySem.W PySem.Calls PyProof.Rows
def Zf6:∀(ns:List Int) (vs:List Yj),WellAll P h vs (ns.map WData.int)->IntsAre vs ns:=by
 intro ns;induction ns with
 |nil=>intro vs w;rw[Oy]at w;cases w;exact .nil
 |cons n ns ih=>
  intro vs w;rw[Op]at w;cases w with
  |cons a b=>cases a;exact .cons _ _ (ih _ b)
def ZmU{l:OpenLaw}{n:Nat}(hn:l.most=Wn n){P:Params}{h:YF}{args:List WData}{vals:List Yj}
 (hpre:l.row.toRowW.claim.pre args=Wp) (hwl:WellAll P h vals args) :
 ∃a vs ns,vals=[YC a]/\args=[WData.list (ns.map WData.int)]/\h.get? a=Wn {cls:=.type "list",data:=.seq vs.toArray}/\IntsAre vs ns/\ns.length<=n:=by
 have hsh:WShape.hasAll [] args [.list .int]=Wp:=(pre_splitW hpre).1;have hc:l.pre.holds [] {args:=args}=Wp:=(pre_splitW hpre).2;obtain⟨d,r,rfl,h1,h2⟩:=hasAllW_cons hsh;obtain rfl:=hasAllW_nil h2;obtain⟨xs,rfl,h3⟩:=hasW_list h1;obtain⟨ns,rfl⟩:=items_int h3;have hlen:ns.length<=n:=by
  unfold OpenLaw.pre at hc;have h4:(WTm.not (.lt (.lit (.int (n:Int))) (.len (.arg 0)))).holds [] {args:=[.list (ns.map .int)]}=Wp:=by have h4:=(holds_andW hc).1;rw[hn]at h4;exact h4
  have h5:=condW_of h4 (w_not (w_lt w_lit (w_len_list (w_arg rfl))));rw[Yt]at h5;refine Nat.le_of_not_lt λq=>?_;have q':(n:Int)<((ns.length:Nat):Int):=by lia
  first
   |(rw[decide_eq_true q']at h5;exact absurd h5 (by decide))
   |(simp at h5;lia)
 cases hwl with
 |cons w1 w2=>
  cases w2;cases w1 with
  |list ho hall=>exact⟨_,_,ns,rfl,rfl,ho,Zf6 ns _ hall,hlen⟩
def ZmZ(l:OpenLaw)(args:List WData):l.row.toRowW.claim.post args (.bool Wp) args=Wp:=
 postW_of (r:=l.row.toRowW) (X:=(Wp==Wp))
  (show WShape.has [] (.bool Wp) .bool=Wp by first|rfl|decide|simp[WShape.has,WShape.arms,WShape.armsAll])
  (show(WTm.eq .res (.lit (.bool Wp))).value [] {args:=args,res:=Wn (.bool Wp),after:=args}=Wn (.bool (Wp==Wp))from w_eq_bool (w_res rfl) w_lit) rfl
def Zkm{l:OpenLaw}{n:Nat}{q:Yh}{loose:List Str}{XP:(Str->Option Yj)->YF->Prop}{YP:Yg->YF->Prop}{d:DefRec}
 (hn:l.most=Wn n) (hdf:d.params.defaults=[])
 (call:∀(w:Yg) (s₀ s₁:Yb) (mg mb:Str->Option Yj) (fa:Yi) (o:Obj) (pm cd doc:Yj) (a:Yi) (vs:List Yj) (ns:List Int),
  Ground q loose [] XP w s₀ mg mb s₁.heap->YP w s₁.heap ->
  s₁.heap.get? fa=Wn o->o.data=.func (docDef d.name d.params d.body d.scope pm cd doc)->s₁.heap.CodeRec cd d.name->mg d.name=Wn (.ref fa) ->
  s₁.heap.get? a=Wn {cls:=.type "list",data:=.seq vs.toArray}->IntsAre vs ns->ns.length<=n->s₁.gens=#[] ->
  codeAny (model l.prog w) callerA (.call (.ref fa) ⟨[.ref a],[]⟩) (λr s'=>r=.ok (.ret (.bool Wp))/\OldK s₁.heap s'.heap/\s'.os=s₁.os/\AllBare s'.gens) s₁) :
 WalkO q loose XP YP l.row.toRowW d [] (λf vs=>PySem.call f vs):=by
 intro w s₀ s₁ mg mb G Y fa o pm cd doc dV kV ho hd hcd hD hmg hg args vals as hpre hlay hrd hwl hlo;obtain rfl:dV=.none:=Dflts.none hD hdf;obtain rfl:kV=.none:=Dflts.noKw hD;obtain⟨a,vs,ns,rfl,rfl,hobj,hints,hlen⟩:=ZmU hn hpre hwl;refine enter_call (codeAny_mono (call w s₀ s₁ mg mb fa o pm cd doc a vs ns G Y ho (fd_plain hd) hcd hmg hobj hints hlen hg) λr s' hq=>?_);obtain⟨rfl,h2,h3,h4⟩:=hq;exact⟨.inl ⟨.bool Wp,.bool Wp,[],rfl,λ_=>rfl,.bool Wp,ZmZ l _,λ_=>⟨List.Pairwise.nil,λ_ hm=>(nomatch hm)⟩⟩,h2,h3,h4⟩
end Att
namespace L2
open PySem PySem.Spec PyProof.Rows
theorem ZhG:∀{vs:List Yj}{ns:List Int},IntsAre vs ns->Zj (ns.map V.int) vs
 |_,_,.nil=>.nil
 |_,_,.cons n t h=>.cons ⟨t,rfl⟩ (ZhG h)
def ZrZ(H:Hp):Prop:=∀b,H b=Wo\/∃o xs,H b=Wn (.frz o (.lst xs))
theorem Zo0{P:Yh}{w:Yg}{K:Yk}{mg mb:Str->Option Yj}{CX:CXT}{k:Nat}{fa a:Yi}{fd:FuncData}{x:Str}{sp:Sp}{s₁:Yb}{vs:List Yj}{ns:List Int}
   (KX:K.In s₁.heap) (hns:s₁.heap.Ns Yd mg) (hb:s₁.heap.Ns builtinsNs mb) (hbb:∀ x:Str,x ≠ "__name__" -> mb x=bootBuiltins x) (hlim:s₁.heap.NoLimit) (hg:s₁.gens=#[])
   (ha:s₁.heap.get? a=Wn {cls:=.type "list",data:=.seq vs.toArray}) (hi:IntsAre vs ns) (hl:ns.length<=sizeLine) (hr:Room k callerA)
   (F:∀ base:YF,K.In base->base.Ns Yd mg->FnOk P w K mg base CX k fa fd [x] sp) (hbind:∀ (s:Yb) (u:Yj),BindsTo s fd ⟨[u],[]⟩ [(x,u)])
   (hsp:∀ H:Hp,ZrZ H->SqL K H a (ns.map V.int)->sp [.ref a] H (fun v _=>v=.bl Wp) fun _ _ _=>False)
   (hCX:∀ H e s',CX [] H s₁ (fun _ _ _=>False) e s'->False) :
   codeAny (model P w) callerA (.call (.ref fa) ⟨[.ref a],[]⟩) (fun r s'=>r=.ok (.ret (.bool Wp))/\OldK s₁.heap s'.heap/\s'.os=s₁.os/\AllBare s'.gens) s₁:=by
 have rv:=ZhG hi;have lenV:=hi.length;have core:∀ H:Hp,ZrZ H->SqL K H a (ns.map V.int)->HOk P w H s₁.heap->(∀ b,H b≠Wo->b=a)->(H a≠Wo->K.lookup a=Wo) ->
     codeAny (model P w) callerA (.call (.ref fa) ⟨[.ref a],[]⟩) (fun r s'=>r=.ok (.ret (.bool Wp))/\OldK s₁.heap s'.heap/\s'.os=s₁.os/\AllBare s'.gens) s₁:=by
   intro H hO hS hok hA hK;have base_of:∀ {b:Yi}{o:Obj},s₁.heap.get? b=Wn o->H b=Wo->(ZiB s₁.heap H).get? b=Wn o:=fun e n=>Zpa e n;have noA:∀ {b:Yi}{o:Obj}{es:Array DictEntry}{ep:Nat},s₁.heap.get? b=Wn o->o.data=.dict es ep->H b=Wo:=fun {b o es ep} e d=>by
     cases q:H b with
     | none=>rfl
     | some u =>
       have e':b=a:=hA b (by rw [q];simp);subst e';rw [ha] at e;cases e;have d':Data.seq vs.toArray _=Data.dict es ep:=d;cases d'
   have nsK:∀ {b:Yi}{m:Str->Option Yj},s₁.heap.Ns b m->(ZiB s₁.heap H).Ns b m:=fun {b m} ⟨o,es,ep,e,d,r⟩=>⟨o,es,ep,base_of e (noA e d),d,r⟩
   have hKb:K.In (ZiB s₁.heap H):=fun b o e=>base_of (KX b o e) (by
     cases q:H b with
     | none=>rfl
     | some u =>
       have e':b=a:=hA b (by rw [q];simp);subst e';rw [hK (by rw [q];simp)] at e;cases e)
   have hM:Mod K mg (ZiB s₁.heap H):=⟨hKb,nsK hns,⟨mb,nsK hb,hbb⟩,let ⟨mc,h1,h2⟩:=hlim;⟨mc,nsK h1,h2⟩⟩
   have e0:Env0 P w K mg (ZiB s₁.heap H) callerA [] s₁ H:=⟨rfl,hM,fun b o e=>Zq6 e,Nat.le_of_eq (Znn _ _),trivial,fun b hb=>absurd (show b∈([]:List Yi) from hb) (by simp),hok,.of_eq hg⟩
   refine codeAny_mono ((F _ hKb (nsK hns)).run callerA [] s₁ H ⟨[.ref a],[]⟩ [.ref a] [.ref a] _ _ hr e0 (hbind s₁ (.ref a)) (.cons rfl .nil) (hsp H hO hS)) fun r s' h=>?_;cases r with
   | error e=>exact (hCX H e s' h).elim
   | ok fl =>
     cases fl with
     | next=>exact False.elim h
     | brk=>exact False.elim h
     | cont=>exact False.elim h
     | ret u =>
       obtain ⟨v,H',os,bare,un,hok',r',q⟩:=h;have q':v=.bl Wp:=q;subst q';obtain rfl:u=Value.bool Wp:=r';refine ⟨rfl,OldK.of_keep fun b o e=>?_,os,bare⟩;cases q:H b with
       | none=>exact un.keep b o e q (by intro z;exact absurd (show b∈([]:List Yi) from z) (by simp)) (by simp)
       | some u =>
         rcases hO b with z|⟨ob,xs,z⟩
         . rw [q] at z;cases z
         . have z2:=un.frzs b ob _ z;obtain ⟨e1,_⟩:=hok b _ z;obtain ⟨e2,_⟩:=hok' b _ z2;rw [e] at e1;cases e1;exact e2
 cases hk:K.lookup a with
 | some o =>
   have e:=KX a o hk;rw [ha] at e;cases e;refine core (fun _=>Wo) (fun _=>.inl rfl) (.inr ⟨_,vs.toArray,_,hk,rfl,rfl,rfl,by rw [Of,lenV];exact hl,by simpa using rv⟩) (fun b u z=>by have z':(Wo:Option HO)=Wn u:=z;cases z') (fun b z=>absurd rfl z) fun z=>absurd rfl z
 | none =>
   refine core (fun b=>if b=a then Wn (.frz {cls:=.type "list",data:=.seq vs.toArray} (.lst (ns.map V.int))) else Wo) (fun b=>?_) (.inl (.inr ⟨{cls:=.type "list",data:=.seq vs.toArray},if_pos rfl⟩)) (fun b u z=>?_) (fun b z=>?_) fun _=>hk
   . by_cases hb:b=a
     . exact .inr ⟨_,_,if_pos hb⟩
     . exact .inl (if_neg hb)
   . by_cases hb:b=a
     . have z':=(if_pos hb).symm.trans z;cases z';subst hb;exact ⟨ha,by rw [Yt];exact hl,vs,_,rv,ha⟩
     . have z':=(if_neg hb).symm.trans z;cases z'
   . by_cases hb:b=a
     . exact hb
     . exact absurd (if_neg hb) z
def Zp5{l:PySem.W.OpenLaw}{n k:Nat}{q:Yh}{loose:List Str}{XP:(Str->Option Yj)->YF->Prop}{YP:Yg->YF->Prop}{d:DefRec}{K:Params->Yk}{CX:Yg->CXT}{sp:Yg->Sp}{x:Str}
 (hn:l.most=Wn n) (hn2:n<=sizeLine) (hdf:d.params.defaults=[]) (hr:Room k callerA)
 (hY:∀(w:Yg) (h:YF),YP w h->(K w.params).In h)
 (F:∀(w:Yg) (mg:Str->Option Yj) (fa:Yi) (h:YF),(K w.params).In h->h.Ns Yd mg->mg d.name=Wn (.ref fa) ->
  ∃fd:FuncData,(∀(s:Yb) (u:Yj),BindsTo s fd ⟨[u],[]⟩ [(x,u)]) /\
   ∀base:YF,(K w.params).In base->base.Ns Yd mg->FnOk l.prog w (K w.params) mg base (CX w) k fa fd [x] (sp w))
 (hsp:∀(w:Yg) (H:Hp) (a:Yi) (ns:List Int),ns.length<=n->ZrZ H->SqL (K w.params) H a (ns.map V.int)->sp w [.ref a] H (λv _=>v=.bl Wp) λ_ _ _=>False)
 (hCX:∀(w:Yg) (H:Hp) (s:Yb) (e:Yj) (s':Yb),CX w [] H s (λ_ _ _=>False) e s'->False) :
 PySem.W.WalkO q loose XP YP l.row.toRowW d [] (λf vs=>PySem.call f vs):=by
 refine Att.Zkm hn hdf λw s₀ s₁ mg mb fa o pm cd doc a vs ns G Y ho hd hcd hmg hobj hints hlen hg=>?_;have KX:=hY w _ Y;obtain⟨fd,hb,hF⟩:=F w mg fa _ KX G.T.g hmg;exact Zo0 KX G.T.g G.T.b G.T.builtins G.T.nolimit hg hobj hints (OE hlen hn2) hr hF hb (λH hO hS=>hsp w H a ns hlen hO hS) λH e s'=>hCX w H s₁ e s'
noncomputable def inClass(s:Stmt)(j:Nat):Stmt:=match s with
 |.ClassDef _ _ _ body _ _ _ _ _ _ _=>body.getD j (.Pass ⟨0,0,0,0⟩)
 |_=>.Pass ⟨0,0,0,0⟩
noncomputable def ZdZ(s:Stmt):Arguments:=match s with
 |.FunctionDef _ a _ _ _ _ _ _ _ _=>a
 |_=>{posonlyargs:=[],args:=[],vararg:=Wo,kwonlyargs:=[],kw_defaults:=[],kwarg:=Wo,defaults:=[]}
noncomputable def Zb0(s:Stmt):List Stmt:=match s with
 |.FunctionDef _ _ b _ _ _ _ _ _ _=>b
 |_=>[]
noncomputable def ZQ(s:Stmt):Scope:=match s with
 |.FunctionDef _ _ _ _ _ _ sc _ _ _=>sc
 |_=>{kind:=.function,names:=[],isGenerator:=false,isCoroutine:=false}
noncomputable abbrev E0:XK:=λ_ _ _=>False
structure Fun(K:Yk)(x qual:Str)(st:Stmt)(f:Yi)(fd:FuncData):Prop where
 ex:∃(oc:Yj) (od:Option Yi) (kV doc pm:Yj) (an:Option Yi) (cdv ct:Yj) (osl:Array (Option Yj)),
  fd=PySem.W.fnOf x qual (ZdZ st) (Zb0 st) (ZQ st) .none kV doc pm an cdv ct/\K.lookup f=Wn ⟨oc,od,.func fd,osl⟩/\PySem.W.codeIn K cdv qual=Wp
 kp:YZ K (.ref f)=Wp
section
variable {P:Yh}{w:Yg}{K:Yk}{mg:Str->Option Yj}{base:YF}
def Fun.binds{x qual:Str}{st:Stmt}{f:Yi}{fd:FuncData}{ps:List Str}(F:Fun K x qual st f fd)
 (h:∀(kV doc pm:Yj) (an:Option Yi) (cdv ct:Yj) (us:List Yj),us.length=ps.length->bindArgs (PySem.W.fnOf x qual (ZdZ st) (Zb0 st) (ZQ st) .none kV doc pm an cdv ct) ⟨us,[]⟩=pure (ps.zip us)):Binds K fd ps []:=by
 obtain⟨oc,od,kV,doc,pm,an,cdv,ct,osl,rfl,lk,hcd⟩:=F.ex;exact .all (h kV doc pm an cdv ct)
def Zpg{x qual:Str}{st:Stmt}{f:Yi}{oc:Yj}{od an:Option Yi}{osl:Array (Option Yj)}{kV doc pm cdv ct:Yj}(l:K.lookup f=Wn ⟨oc,od,.func (PySem.W.fnOf x qual (ZdZ st) (Zb0 st) (ZQ st) .none kV doc pm an cdv ct),osl⟩)
 (c:PySem.W.codeIn K cdv qual=Wp) (k:YZ K (.ref f)=Wp):Fun K x qual st f (PySem.W.fnOf x qual (ZdZ st) (Zb0 st) (ZQ st) .none kV doc pm an cdv ct):=⟨⟨oc,od,kV,doc,pm,an,cdv,ct,osl,rfl,l,c⟩,k⟩
end
def ZjK{A B_:Prop}(h:B_):if Wq=Wp then A else B_:=by rw[if_neg Ow];exact h
def ZjJ{A B_:Prop}(h:A):if Wp=Wp then A else B_:=by rw[if_pos rfl];exact h
set_option tactic.hygienic false
section
variable {κ:Type} [DecidableEq κ]
noncomputable def Zbz(kvs:List (κ×V))(k:κ):Option V:=(kvs.find? λkv=>Wt (kv.1=k)).map (·.2)
noncomputable def putK(kvs:List (κ×V))(k:κ)(v:V):List (κ×V):=if (kvs.any λkv=>Wt (kv.1=k))=Wp then kvs.map (λkv=>if kv.1=k then(kv.1,v)else kv)else kvs++[(k,v)]
def Zgn{p:κ×V}{r:List (κ×V)}{k:κ}(e:p.1=k):Zbz (p::r) k=Wn p.2:=by simp[Zbz,Wj,e]
def Zgo{p:κ×V}{r:List (κ×V)}{k:κ}(e:¬ p.1=k):Zbz (p::r) k=Zbz r k:=by simp[Zbz,Wj,e]
theorem Zi7(k:κ):∀kvs:List (κ×V),(kvs.any λkv=>Wt (kv.1=k))=(Zbz kvs k).isSome
 |[]=>rfl
 |p::r=>by
  rw[YY];by_cases e:p.1=k
  . simp only[Zgn e,decide_eq_true e,Bool.true_or,Option.isSome_some]
  . rw[Zgo e,decide_eq_false e,Bool.false_or];exact Zi7 k r
def Zdi(kvs:List (κ×V))(k:κ)(v:V):(putK kvs k v).length<=kvs.length+1:=by
 unfold putK;split
 . rw[Yt];lia
 . rw[OA,Os,List.length_nil];lia
def Zd6.isSome_eq{o:Option V}{u:Option Yj}(r:Zd6 o u):o.isSome=u.isSome:=by
 cases o with
 |none=>cases u with
  |none=>rfl
  |some _=>exact(show False from r).elim
 |some _=>cases u with
  |none=>exact(show False from r).elim
  |some _=>rfl
def KV.val{kvs:List (κ×V)}{vs:List (κ×Yj)}(r:KV kvs vs)(k:κ):Zd6 (Zbz kvs k) (valueAt vs k):=by
 unfold KV at r;induction r with
 |nil=>exact True.intro
 |@cons p q ps qs h t ih=>
  obtain⟨h1,h2⟩:=h;by_cases e:p.1=k
  . have e':q.1=k:=h1.symm.trans e;have b:valueAt (q::qs) k=Wn q.2:=by simp[valueAt,Wj,e']
    rw[Zgn e,b];exact h2
  . have e':¬ q.1=k:=λz=>e (h1.trans z);have b:valueAt (q::qs) k=valueAt qs k:=by simp[valueAt,Wj,e']
    rw[Zgo e,b];exact ih
theorem KV.any{kvs:List (κ×V)}{vs:List (κ×Yj)}(r:KV kvs vs)(k:κ):(kvs.any λkv=>Wt (kv.1=k))=vs.any λkv=>Wt (kv.1=k):=by
 unfold KV at r;induction r with
 |nil=>rfl
 |cons h t ih=>rw[YY,YY,ih,h.1]
def KV.repl{kvs:List (κ×V)}{vs:List (κ×Yj)}(r:KV kvs vs)(k:κ){y:V}{u:Yj}(ry:RelV y u):
 KV (kvs.map λkv=>if kv.1=k then(kv.1,y)else kv) (vs.map λkv=>if kv.1=k then(kv.1,u)else kv):=by
 unfold KV at r ⊢;induction r with
 |nil=>exact .nil
 |@cons p q ps qs h t ih=>
  rw[Op,Op];refine .cons ?_ ih;obtain⟨h1,h2⟩:=h;by_cases e:p.1=k
  . rw[if_pos e,if_pos (h1.symm.trans e)];exact⟨h1,ry⟩
  . rw[if_neg e,if_neg (λz=>e (h1.trans z))];exact⟨h1,h2⟩
def KV.put{kvs:List (κ×V)}{vs:List (κ×Yj)}(r:KV kvs vs)(k:κ){y:V}{u:Yj}(ry:RelV y u):KV (putK kvs k y) (stored vs k u):=by
 unfold putK stored;rw[r.any k];by_cases e:(vs.any λkv=>Wt (kv.1=k))=Wp
 . rw[if_pos e,if_pos e];exact r.repl k ry
 . rw[if_neg e,if_neg e];exact Paired.snoc r ⟨rfl,ry⟩
theorem KV.length(r:KV kvs vs):kvs.length=vs.length:=Paired.length r
end
def ZjI(r:RelV (kV k) u):(ZO P w).is k u=Wp:=by
 cases k with
 |inl i=>obtain⟨t,e⟩:=(show ∃t,u=Value.int i t from r);subst e;exact Zjy P w i t
 |inr x=>obtain⟨t,e⟩:=(show ∃t,u=Value.str x t from r);subst e;exact Zjx P w x t
section
variable {P:Yh}{w:Yg}{H:Hp}{h:YF}{a:Yi}
def Zvx(ok:HOk P w H h)(e:Rd H a u):ZS P w H h a u:=e.ok ok
def Zst(ok:HOk P w H h)(e:Rd H a (.dK kvs)):kvs.length<=sizeLine/\(a==Ye)=Wq/\∃vs,KV kvs vs/\h.DictOf (ZO P w) a vs:=show ZS P w H h a (.dK kvs)from Zvx ok e
def Zsu(ok:HOk P w H h)(e:H a=Wn (.dK kvs)):kvs.length<=sizeLine/\(a==Ye)=Wq/\∃vs,KV kvs vs/\h.DictOf (ZO P w) a vs:=Zst ok (.inl e)
end
section
variable {X:Cx}{pins:List (Yi×Obj)}{Z:St}{H:Hp}{s:Yb}{a:Yi}{y v:V}{u r:Yj}{o:Option V}{A:YG}{E:Yj->Yb->Prop}
def Inv.big(I:Inv X pins Z H s):Ye<s.heap.objs.size:=by have h:Yd<s.heap.objs.size:=(I.mod.glob.keeps I.bk).lt;exact Nat.lt_trans (by decide) h
def Zmo(I:Inv X pins Z H s)(mu:Mut (H a))(hs:Heap.SameBut a s.heap h')(he:∃q,h'.get? a=Wn q)(new:ZS X.prog X.w (upd H a ob) h' a ob):
 Inv X pins Z (upd H a ob) {s with heap:=h',toks:=t'}:=
 I.write (x:=a) (e:=a) mu (.inl rfl) (λb q hb z=>(hs.2 b hb).trans z) he new
def Zpv(z:kvs.length<=sizeLine)(hd:(a==Ye)=Wq)(rel:KV kvs vs)(dd:h'.DictOf (ZO P w) a vs):
 ZS P w H' h' a (.dK kvs):=⟨z,hd,vs,rel,dd⟩
end
def ZjZ(h:YF)(hb:Ye<h.objs.size):ZS P w H (h.push {cls:=.type "dict",data:=.dict #[]}) h.objs.size (.dK []):=⟨Yw _,beq_eq_false_iff_ne.mpr (YK (Ou hb)),[],.nil,Heap.DictOf.new h⟩
def ZsU:TE:=λ_ H Q=>∀p,H p=Wo->Q (.ref p) (upd H p (.dK []))
section
variable {X:Cx}{pos:Pos}
def ZoA:PE X (.Dict [] [] pos) ZsU:=λpins s Z H Q I h=>wpAny_Dict_empty ⟨.ref s.heap.objs.size,_,I.laid (a:=s.heap.objs.size) (o:=.dK []) (t':=s.toks) (λ_ _ q=>Od _ q) (Oq _) (ZjZ s.heap I.big),rfl,h _ (I.hok.fresh (Oq _))⟩
end
def Zif:List (TE×TE)->St->Hp->(List (V×V)->Hp->Prop)->Prop
 |[],_,H,Q=>Q [] H
 |(tk,tv)::r,Z,H,Q=>tk Z H λx H1=>tv Z H1 λy H2=>Zif r Z H2 λps H3=>Q ((x,y)::ps) H3
abbrev VV:List (V×V)->List (Yj×Yj)->Prop:=Paired λp q=>RelV p.1 q.1/\RelV p.2 q.2
def PPs(X:Cx)(pos:Pos)(keys:List (Option Expr))(values:List Expr)(trs:List (TE×TE)):Prop:=
 ∀(pins:List (Yi×Obj)) (s:Yb) (Z:St) (H:Hp) (Q:List (V×V)->Hp->Prop),Inv X pins Z H s->Zif trs Z H Q ->
  YA (model X.prog X.w) X.A (evalPairs (pairTrees keys values X.env pos)) (λvs s'=>∃ps H',Inv X pins Z H' s'/\VV ps vs/\Q ps H') X.xe s
def ZqB:PPs X pos [] [] []:=λpins s Z H Q I h=>pairTrees_nil_walk ⟨[],H,I,.nil,h⟩
def Zon(hk:PE X k tk)(hv:PE X v tv)(hr:PPs X pos ks vs trs):
 PPs X pos (Wn k::ks) (v::vs) ((tk,tv)::trs):=λpins s Z H Q I h=>
 pairTrees_cons_walk (thn (hk pins s Z H _ I h) λu s1 ⟨x,H1,I1,rx,q1⟩=>thn (hv pins s1 Z H1 _ I1 q1) λw2 s2 ⟨y,H2,I2,ry,q2⟩=>thn (hr pins s2 Z H2 _ I2 q2) λws s3 ⟨ps,H3,I3,rel,q3⟩=>⟨(x,y)::ps,H3,I3,.cons ⟨rx,ry⟩ rel,q3⟩)
def Zfv(kvs more:List (Key×V)):List (Key×V):=more.foldl (λacc kv=>putK acc kv.1 kv.2) kvs
def KV.merge:∀{more:List (Key×V)}{rs:List (Key×Yj)}{kvs:List (Key×V)}{vs:List (Key×Yj)},KV more rs->KV kvs vs->KV (Zfv kvs more) (merged vs rs):=by
 intro more rs kvs vs r;unfold KV at r;induction r generalizing kvs vs with
 |nil=>intro q;exact q
 |@cons p q ps qs h t ih=>
  intro r0;have e:KV (putK kvs p.1 p.2) (stored vs q.1 q.2):=by have:=r0.put p.1 h.2;rw[<- h.1];exact this
  exact ih e
theorem Zea:∀(more kvs:List (Key×V)),(Zfv kvs more).length<=kvs.length+more.length
 |[],kvs=>by show kvs.length<=kvs.length+0;lia
 |p::r,kvs=>by have h1:=Zea r (putK kvs p.1 p.2);have h2:=Zdi kvs p.1 p.2;show(Zfv (putK kvs p.1 p.2) r).length<=_;rw[Os];lia
theorem Zhb:∀{kvs:List (Key×V)}{ws:List (Yj×Yj)},VV (kvs.map λkv=>(kV kv.1,kv.2)) ws->∃rs,Carries (ZO P w) ws rs/\KV kvs rs
 |[],_,r=>by rw[Oy]at r;cases r;exact⟨[],True.intro,.nil⟩
 |p::kvs,_,r=>by
  rw[Op]at r;cases r with
  |@cons a b as bs h t=>obtain⟨rs,c,q⟩:=Zhb (P:=P) (w:=w) t;obtain⟨b1,b2⟩:=b;exact⟨(p.1,b2)::rs,⟨ZjI h.1,rfl,c⟩,.cons ⟨rfl,h.2⟩ q⟩
def Zvn(trs:List (TE×TE)):TE:=λZ H Q=>∀p,H p=Wo->Zif trs Z (upd H p (.dK [])) λps H2=>H2 p=Wn (.dK [])/\∃kvs:List (Key×V),ps=kvs.map (λkv=>(kV kv.1,kv.2))/\kvs.length<=15/\Q (.ref p) (upd H2 p (.dK (Zfv [] kvs)))
def ZqM(h:PPs X pos keys values trs)(hall:keys.all (·.isSome)=Wp)(hl:keys.length=values.length)(h0:keys≠[])
 (h15:keys.length<=15):PE X (.Dict keys values pos) (Zvn trs):=by
 intro pins s Z H Q I q;have hn:=I.hok.fresh (Oq s.heap.objs.size);have I1:=I.laid (a:=s.heap.objs.size) (o:=.dK []) (h':=s.heap.push {cls:=.type "dict",data:=.dict #[]}) (t':=s.toks) (λ_ _ q=>Od _ q) (Oq _) (ZjZ s.heap I.big);refine wpAny_Dict_walk (knd:=ZO X.prog X.w) hall hl h0 h15 (thn (h pins _ Z _ _ I1 (q _ hn)) λws s2 ⟨ps,H2,I2,rel,e,kvs,ep,lk,q2⟩=>?_);subst ep;obtain⟨rs,c,rk⟩:=Zhb (P:=X.prog) (w:=X.w) rel;obtain⟨z,hd,vs0,r0,dd⟩:=Zsu I2.hok e;cases r0;refine⟨rs,c,dd,λh' dd' hs=>⟨.ref s.heap.objs.size,_,?_,rfl,q2⟩⟩;have hz:(Zfv [] kvs).length<=sizeLine:=by have h1:=Zea kvs [];rw[List.length_nil]at h1;rw[YB];lia
 have he:∃q,h'.get? s.heap.objs.size=Wn q:=let ⟨q,_,_,hq,_⟩:=dd';⟨q,hq⟩;exact Zmo I2 (by rw[e];exact True.intro) hs he (Zpv hz hd (rk.merge .nil) dd')
set_option tactic.hygienic true
theorem Zdh{env:Env}:∀(names:List (Str×NameKind)) (x:Str),
 (names.map λ(n,k)=>if (k==Yn&&env.scope.kind==.function&&env.kindOf n==Wn .cell)then(n,NameKind.cell)else(n,k)).lookup x =
  (names.lookup x).map λk=>if (k==Yn&&env.scope.kind==.function&&env.kindOf x==Wn .cell)then NameKind.cell else k
 |[],_=>rfl
 |(n,k)::r,x=>by
  have ih:=@Zdh env r x;show We x ((if (k==Yn&&env.scope.kind==.function&&env.kindOf n==Wn .cell)=Wp then(n,NameKind.cell)else(n,k))::_)=_;cases hx:x==n with
  |true=>
   have e:x=n:=by simpa using hx
   subst e;by_cases hc:(k==Yn&&env.scope.kind==.function&&env.kindOf x==Wn .cell)=Wp
   . rw[if_pos hc];simp only[OF,hx,Yu,if_pos hc]
   . rw[if_neg hc];simp only[OF,hx,Yu,if_neg hc]
  |false=>
   by_cases hc:(k==Yn&&env.scope.kind==.function&&env.kindOf n==Wn .cell)=Wp
   . rw[if_pos hc];simp only[OF,hx];exact ih
   . rw[if_neg hc];simp only[OF,hx];exact ih
noncomputable def ZfE(env:Env):List (Str×NameKind)->List (Str×Yi)->List (Str×Yi)
 |[],cs=>cs
 |(n,k)::r,cs=>ZfE env r (if (k==.free)=Wp then(n,(env.cells.lookup n).getD 0)::cs else cs)
theorem Zj4{env:Env}:∀(l:List (Str×NameKind)) (cs:List (Str×Yi)),(∀y∈l,y.2=.free->∃c,env.cells.lookup y.1=Wn c) ->
 (∀x c,(x,c)∈cs->env.cells.lookup x=Wn c)->∀x c,(x,c)∈ZfE env l cs->env.cells.lookup x=Wn c
 |[],cs,_,h2,x,c,hm=>h2 x c hm
 |(n,k)::r,cs,h1,h2,x,c,hm=>by
  refine Zj4 r _ (λy hy=>h1 y (Oh _ hy)) (λx c hm=>?_) x c hm;by_cases hk:(k==Yn)=Wp
  . rw[if_pos hk]at hm;rcases O2.mp hm with e|hm
    . cases e;have hk':k=.free:=by cases k<;>first|rfl|(exact absurd hk (by decide))
      obtain⟨c,e⟩:=h1 (n,k) Oi hk';rw[e];rfl
    . exact h2 x c hm
  . rw[if_neg hk]at hm;exact h2 x c hm
theorem ZhW:∀(l:List (Str×NameKind)) (cs:List (Str×Yi)) (p:Str×Yi),p∈cs->p∈ZfE env l cs
 |[],_,_,h=>h
 |(n,k)::r,cs,p,h=>by
  refine ZhW r _ p ?_;by_cases hk:(k==Yn)=Wp
  . rw[if_pos hk];exact Oh _ h
  . rw[if_neg hk];exact h
theorem Zj5:∀(l:List (Str×NameKind)) (cs:List (Str×Yi)) (y:Str×NameKind),y∈l->y.2=.free->∃c,(y.1,c)∈ZfE env l cs
 |(n,k)::r,cs,y,h,hf=>by
  rcases O2.mp h with e|h
  . subst e;refine⟨(env.cells.lookup n).getD 0,ZhW r _ _ ?_⟩;have hk:(k==Yn)=Wp:=by have:k=.free:=hf;subst this;rfl
    rw[if_pos hk];exact Oi
  . exact Zj5 r _ y h hf
theorem Zd9:∀{l:List (Str×α)}{x:Str}{c:α},(x,c)∈l->∃c',l.lookup x=Wn c'/\(x,c')∈l
 |(n,d)::r,x,c,h=>by
  cases hx:x==n with
  |true=>
   have e:x=n:=by simpa using hx
   subst e;exact⟨d,by simp[OF],Oi⟩
  |false=>
   rcases O2.mp h with e|h
   . cases e;simp at hx
   . obtain⟨c',h1,h2⟩:=Zd9 h;exact⟨c',by simp only[OF,hx];exact h1,Oh _ h2⟩
def Zht(h:∀y∈scope.names,y.2=.free->∃c,env.cells.lookup y.1=Wn c):closureFor scope env=pure (ZfE env scope.names []):=by
 have all:∀(l:List (Str×NameKind)) (cs:List (Str×Yi)),(∀y∈l,y.2=.free->∃c,env.cells.lookup y.1=Wn c) ->
  (forIn l cs λ(x:Str×NameKind) r=>match x with|(name,kind)=>if (kind==Yn)=Wp then(do let a <- cellOf env name;pure (ForInStep.yield ((name,a)::r)))else pure (ForInStep.yield r):Sem (List (Str×Yi)))=pure (ZfE env l cs):=by
  intro l;induction l with
  |nil=>intro cs _;rfl
  |cons y r ih=>
   intro cs hl;obtain⟨n,k⟩:=y;rw[List.forIn_cons];have hr:=λcs=>ih cs λy hy=>hl y (Oh _ hy);by_cases hk:(k==Yn)=Wp
   . have hk':k=.free:=by cases k<;>first|rfl|(exact absurd hk (by decide))
     obtain⟨c,e⟩:=hl (n,k) Oi hk';have ec:cellOf env n=pure c:=by unfold cellOf;rw[e]
     simp only[hk,if_true,ec];show(forIn r ((n,c)::cs) _:Sem _)=_;rw[hr];show _=pure (ZfE env r (if (k==Yn)=Wp then(n,(env.cells.lookup n).getD 0)::cs else cs));rw[if_pos hk,e];rfl
   . simp only[hk];show(forIn r cs _:Sem _)=_;rw[hr];show _=pure (ZfE env r (if (k==Yn)=Wp then(n,(env.cells.lookup n).getD 0)::cs else cs));rw[if_neg hk]
 unfold closureFor;have z:=all scope.names [] h;dsimp only at z ⊢;rw[z];rfl
set_option tactic.hygienic false
def Zj3(I:Nat->Yb->Prop)
 (turn:∀n s,I n s->YA (model prog w) A (pyNext it) (λr s₁=>match r with
  |none=>R (.ok .next) s₁
  |some v=>YA (model prog w) A (letOwnedTupleGo target it v) (λ_ s₁'=>YA (model prog w) A (assign target env v) (λ_ s₂=>
   YA (model prog w) A (forIn ifs Wp λc r=>if r=Wp then do let ok <- isTrue c env (eval c env);pure (ForInStep.yield ok)else pure (ForInStep.yield r)) (λok s₃=>
    if ok=Wp then YA (model prog w) A (eval elt env) (λx s₄=>YA (model prog w) A (call (.builtin "list.append") [acc,x]) (λ_ s₅=>∃m,m<n/\I m s₅) (notedBy (model prog w) A env λe s'=>R (.error e) s') s₄) (notedBy (model prog w) A env λe s'=>R (.error e) s') s₃
    else ∃m,m<n/\I m s₃) (notedBy (model prog w) A env λe s'=>R (.error e) s') s₂) (notedBy (model prog w) A env λe s'=>R (.error e) s') s₁') (notedBy (model prog w) A env λe s'=>R (.error e) s') s₁) (notedBy (model prog w) A env λe s'=>R (.error e) s') s)
 (n:Nat) (h:I n s) :
 codeAny (model prog w) A (.compLoop (.ListComp elt [⟨target,iter,ifs,0⟩] scope pos) 0 it acc env) R s:=by
 refine codeAny_loop rfl I (λn s hI=>?_) n h;show YA _ A ((compTurn (.ListComp elt [⟨target,iter,ifs,0⟩] scope pos) 0 it acc env).onRaise (λx=>do noteFrame x env;theTreesLotGoes x)) _ _ s;refine wpAny_noted ?_;rw[compTurn_list];refine Ya (wpAny_standAt (Ya (Yf (turn n s hI) (λr s₁ h₁=>?_) λ_ _ h'=>h')));cases r with
 |none=>exact Yc h₁
 |some v=>
  refine Ya (Yf h₁ (λ_ s₁' h₁'=>?_) λ_ _ h'=>h');refine Ya (Yf h₁' (λ_ s₂ h₂=>Ya (Yf h₂ (λok s₃ h₃=>?_) λ_ _ h'=>h')) λ_ _ h'=>h');cases ok with
  |false=>exact Yc ⟨rfl,h₃⟩
  |true=>exact Ya (Ya (Yf h₃ (λx s₄ h₄=>Ya (Yf h₄ (λ_ s₅ h₅=>Yc (Yc ⟨rfl,h₅⟩)) λ_ _ h'=>h')) λ_ _ h'=>h'))
structure CompSc(NC N:List Str)(js:List (Option Nat))(sc scope:Scope):Prop where
 kind:scope.kind=.function
 dkind:sc.kind=.function
 nocell:∀y∈scope.names,y.2≠.cell
 locs:∀y∈scope.names,y.2=.local->scope.names.lookup y.1=Wn .local
 free:∀y∈scope.names,y.2=.free->sc.names.lookup y.1=Wn .cell
 nd:NC.Nodup
 len:js.length=NC.length
 jok:((NC.zip js).all λp=>p.2.all λj=>Wt (N[j]? = Wn p.1)&&Wt (scope.names.lookup p.1=Wn .free))=Wp
theorem CompSc.at{NC N:List Str}{js:List (Option Nat)}(S_:CompSc NC N js sc scope){i j:Nat}{x:Str}(h1:NC[i]? = Wn x)(h2:js[i]? = Wn (Wn j)):N[j]? = Wn x/\scope.names.lookup x=Wn .free:=by
 have h:=S_.jok;rw[OC]at h;have hm:(x,Wn j)∈NC.zip js:=by refine O1 (i:=i) ?_;rw[List.getElem?_zip_eq_some];exact⟨h1,h2⟩
 have q:=h _ hm;simp only[Option.all_some,Oa,decide_eq_true_eq]at q;exact q
def capt(js:List (Option Nat))(Z:St):St:=js.map λo=>o.bind λj=>(Z[j]?).join
def Zw(X:Cx)(NC:List Str)(scope:Scope)(C:Yi)(s3:Yb)(H3:Hp)(fp:List Yi):Cx:={X with N:=NC,s₀:=s3,H₀:=H3,env:=compEnvC scope (ZfE X.env scope.names []) C X.env,outer:=X.stack,stack:=X.stack,ex:=fp,fn:=λ_=>Wq,calm:=true,pn:=[],xe:=λ_ _=>False}
def Zlr(k:Nat)(g:TG):Prop:=∀x Z H Q,g x Z H Q->g x Z H λσ2 H2=>Q σ2 H2/\σ2.length=Z.length/\∀j,k<=j->σ2[j]? = Z[j]?
def Zko(k:Nat)(g:TGs):Prop:=∀x Z H Q,g x Z H Q->g x Z H λσ2 H2=>Q σ2 H2/\σ2.length=Z.length/\∀j,k<=j->σ2[j]? = Z[j]?
def Zqa(h:i<k):Zlr k (ZcZ i):=λx Z H Q q=>⟨q,List.length_set,λj hj=>by rw[Oc (by lia)]⟩
def ZlB:Zko k Zrv:=λx Z H Q q=>⟨q.1,q.2,rfl,λ_ _=>rfl⟩
def Zgr(h:i<k)(hu:Zko k u):Zko k (ZjN (ZcZ i) u):=by
 rintro xs Z H Q ⟨v,r,e,q⟩;refine⟨v,r,e,?_⟩;have z:=hu r (Z.set i (Wn v)) H Q q;have z2:=hu r (Z.set i (Wn v)) H (λσ2 H2=>Q σ2 H2/\σ2.length=(Z.set i (Wn v)).length/\∀j,k<=j->σ2[j]? = (Z.set i (Wn v))[j]?) z;show u r (Z.set i (Wn v)) H _;have e1:(Z.set i (Wn v)).length=Z.length:=List.length_set;have e2:∀j,k<=j->(Z.set i (Wn v))[j]? = Z[j]? := λj hj=>Oc (by lia);have e3:(λσ2 H2=>Q σ2 H2/\σ2.length=Z.length/\∀j,k<=j->σ2[j]? = Z[j]?)=(λσ2 H2=>Q σ2 H2/\σ2.length=(Z.set i (Wn v)).length/\∀j,k<=j->σ2[j]? = (Z.set i (Wn v))[j]?):=by funext σ2 H2;rw[e1];refine propext ⟨λ⟨a,b,c⟩=>⟨a,b,λj hj=>(c j hj).trans (e2 j hj).symm⟩,λ⟨a,b,c⟩=>⟨a,b,λj hj=>(c j hj).trans (e2 j hj)⟩⟩
 rw[e3];exact z
def ZnO{K:Yk}(hu:Zko k u):Zlr k (Zru K n u):=by rintro x Z H Q ⟨a,xs,e,h1,h2,q⟩;exact⟨a,xs,e,h1,h2,hu xs Z H Q q⟩
def PIf(X:Cx)(ifs:List Expr)(t:TT):Prop:=
 ∀(pins:List (Yi×Obj)) (s:Yb) (Z:St) (H:Hp) (Q:Bool->Hp->Prop),Inv X pins Z H s->t Z H Q ->
  YA (model X.prog X.w) X.A (forIn ifs Wp λc r=>if r=Wp then do let ok <- isTrue c X.env (eval c X.env);pure (ForInStep.yield ok)else pure (ForInStep.yield r)) (TP X pins Z Q) X.xe s
noncomputable def Zxm:TT:=λ_ H Q=>Q Wp H
def ZqF{X:Cx}:PIf X [] Zxm:=λ_ _ _ H _ I h=>wpAny_tests_nil ⟨H,I,h⟩
def ZqE{X:Cx}{c:Expr}{t:TT}(hc:PT X c t):PIf X [c] t:=λpins s Z H Q I h=>wpAny_tests_one (hc pins s Z H Q I h)
def ZnQ(wi:TI)(js:List (Option Nat))(g:TG)(tc:TT)(te:TE):TE:=λZ H Q=>wi Z H λJ H1=>∀D,H1 D=Wo->∃W:Nat->Nat->List V->Hp->Prop,(∃m,W 0 m [] (upd H1 D (.lst []))) /\
 ∀i m ys H,W i m ys H->H D=Wn (.lst ys)->(J.stop i H/\Q (.ref D) H) \/
  (J.go i H/\ys.length<sizeLine/\∀x H',J.yld i H x H'->g x (capt js Z) H' λσ2 H2=>tc σ2 H2 λb H3=>
   if b=Wp then te σ2 H3 λy H4=>H4 D=Wn (.lst ys)/\∃m',m'<m/\W (i+1) m' (ys++[y]) (upd H4 D (.lst (ys++[y])))
   else H3 D=Wn (.lst ys)/\∃m',m'<m/\W (i+1) m' ys H3)
section
variable {X:Cx}{pins:List (Yi×Obj)}{Z:St}{H:Hp}{s:Yb}
def Zo9{NC:List Str}{js:List (Option Nat)}{sc scope:Scope}{C:Yi}{h4:YF}{tk:Nat}{fp:List Yi}{m:Str->Option Yj}(S_:CompSc NC X.N js sc scope)(hsc:X.env.scope=sc)(hc:X.calm=Wp)
 (I:Inv X pins Z H s) (f:∀b∈fp,ZdO X pins H b) (fo:∀b∈fp,∃o,s.heap.get? b=Wn o) (hC:C=s.heap.objs.size) (hns:h4.Ns C m) (hk:∀b o,s.heap.get? b=Wn o->h4.get? b=Wn o) :
 Inv (Zw X NC scope C s H fp) [] (capt js Z) H {s with heap:=h4,toks:=tk}:=by
 have hcells:∀y∈scope.names,y.2=.free->∃c,X.env.cells.lookup y.1=Wn c:=λy hy hf=>I.ok.has y.1 (.inl (show X.env.scope.names.lookup y.1=Wn .cell by rw[hsc];exact S_.free y hy hf));have cl1:∀x c,(ZfE X.env scope.names []).lookup x=Wn c->X.env.cells.lookup x=Wn c:=λx c e=>Zj4 scope.names [] hcells (λ_ _ z=>by cases z) x c (YH e);have cl2:∀y∈scope.names,y.2=.free->∃c,(ZfE X.env scope.names []).lookup y.1=Wn c:=λy hy hf=>by obtain⟨c,hm⟩:=Zj5 (env:=X.env) scope.names [] y hy hf;obtain⟨c',e,_⟩:=Zd9 hm;exact⟨c',e⟩
 have kinds:∀x,(Zw X NC scope C s H fp).env.kindOf x=(scope.names.lookup x).map λk=>if (k==Yn&&X.env.scope.kind==.function&&X.env.kindOf x==Wn .cell)then NameKind.cell else k:=λx=>Zdh scope.names x;have fcell:∀x,scope.names.lookup x=Wn .free->(Zw X NC scope C s H fp).env.kindOf x=Wn .cell:=λx e=>by
  rw[kinds,e];have h1:X.env.kindOf x=Wn .cell:=show X.env.scope.names.lookup x=Wn .cell by rw[hsc];exact S_.free (x,.free) (YH e) rfl
  have h2:X.env.scope.kind=.function:=I.ok.kind;simp only[Yu,h1,h2];rfl
 have flt:∀b∈fp,b<s.heap.objs.size:=λb hb=>let ⟨o,e⟩:=fo b hb;Ym e;refine⟨⟨I.ok.mod,S_.kind,I.ok.glob,I.ok.blt,Nat.le_of_eq hC.symm,λx y c h1 h2=>I.ok.inj x y c (cl1 x c h1) (cl1 y c h2),λx hx=>?_,λx c hf _=>absurd (show Wq=Wp from hf) Ow,λ_=>I.ok.hd hc,I.ok.frames,.inl rfl,λb hb=>⟨?_,λx c e=>(f b hb).2.2.2.2.1 x c (cl1 x c e)⟩,
  I.bs,OE I.ok.bsz I.sz,λb o e hb=>?_,λb hb hm=>?_,I.stack,I.stkFree⟩,
  rfl,I.bare,Un.kept hk,⟨m,hns,λi x v h1 h2 h3=>?_⟩,λx c e=>?_,?_,λx c e=>I.freeC x c (cl1 x c e),λp hp=>absurd (show p∈([]:List (Yi×Obj))from hp) (by simp),I.hok.kept hk,?_⟩
 . rw[kinds]at hx;cases e:scope.names.lookup x with
   |none=>rw[e]at hx;rcases hx with hx|hx<;>cases hx
   |some k=>
    rw[e]at hx;have hm:=YH e;have hk:k=.free:=by
     by_cases hf:(k==Yn)=Wp
     . cases k<;>first|rfl|(exact absurd hf (by decide))
     . have hf':(k==Yn)=Wq:=Bool.eq_false_iff.mpr hf;simp only[Yu,hf',Bool.false_and,OG,if_false]at hx;rcases hx with hx|hx
       . exact absurd (YE hx) (S_.nocell _ hm)
       . exact YE hx
    exact cl2 (x,k) hm hk
 . show b≠C;rw[hC];exact Ou (flt b hb)
 . obtain⟨_,_,_,f3,_⟩:=f b hb;rcases f3 with z|z
   . exact I.ok.noex b o e z
   . exact absurd (Ot (Ym e) (OE I.ok.bsz z)) (Yv _)
 . obtain⟨_,f1,f2,_⟩:=f b hb;exact(O2.mp (I.stkSub b hm)).elim f1 f2
 . have hj:∃j,js[i]? = Wn (Wn j)/\Z[j]? = Wn (Wn v):=by
    unfold capt at h2;rw[On]at h2;cases e:js[i]? with
    |none=>rw[e]at h2;cases h2
    |some o=>
     rw[e]at h2;have h2':(o.bind λj=>(Z[j]?).join)=Wn v:=YE h2;cases o with
     |none=>cases h2'
     |some j=>
      refine⟨j,rfl,?_⟩;have h3':(Z[j]?).join=Wn v:=h2';cases q:Z[j]? with
      |none=>rw[q]at h3';cases h3'
      |some r=>rw[q]at h3';rw[show r=Wn v from h3']
   obtain⟨j,hj,hσ⟩:=hj;obtain⟨hN,hfr⟩:=S_.at (show NC[i]? = Wn x from h1) hj;have hcell:X.env.scope.names.lookup x=Wn .cell:=by rw[hsc];exact S_.free (x,.free) (YH hfr) rfl
   obtain⟨m0,_,hl⟩:=I.loc;obtain⟨u,r,l⟩:=hl j x v hN hσ (.inr (.inl hcell));refine⟨u,r,?_⟩;rcases l with ⟨k,_⟩|⟨_,c,e,z⟩
   . rw[show X.env.kindOf x=Wn .cell from hcell]at k;cases k
   . obtain⟨c',e'⟩:=cl2 (x,.free) (YH hfr) rfl;have ec:=cl1 x c' e';rw[e]at ec;cases ec;obtain⟨o,ho,hd⟩:=z;exact .inr ⟨.inl (fcell x hfr),c,e',o,hk _ _ ho,hd⟩
 . obtain⟨v,o,ho,hd⟩:=I.cell x c (cl1 x c e);exact⟨v,o,hk _ _ ho,hd⟩
 . show H C=Wo;rw[hC];exact I.hok.fresh (Oq _)
 . unfold capt;rw[Yt];exact S_.len
end
section
variable {X:Cx}{elt tg iter:Expr}{ifs:List Expr}{scope sc:Scope}{pos:Pos}{NC:List Str}{js:List (Option Nat)}{k:Nat}{wi:TI}{g:TG}{tc:TT}{te:TE}
def Inv.comp_out{pins:List (Yi×Obj)}{Z σ':St}{H3 H':Hp}{s3 s1:Yb}{C:Yi}{fp:List Yi}{h'':YF}(I3:Inv X pins Z H3 s3)(f:∀b∈fp,ZdO X pins H3 b)(hC:C=s3.heap.objs.size)
 (I':Inv (Zw X NC scope C s3 H3 fp) [] σ' H' s1) (hs:Heap.SameBut C s1.heap h''):Inv X pins Z H' {s1 with heap:=h''}:=by
 have ne:∀b o,s3.heap.get? b=Wn o->b≠C:=λb o e=>by rw[hC];exact Ou (Ym e)
 have u:=I'.base;refine I3.call' (s':={s1 with heap:=h''}) (ch:=fp) I'.os ⟨λb o e n hb hx=>(hs.2 b (ne b o e)).trans (u.keep b o e n hb hx),λb o e n hb hx=>?_,u.free,λb o e hx=>?_,u.tups,u.frzs,u.tbls⟩ ?_ I'.bare λb hb=>?_
 . obtain⟨sl,q⟩:=u.slot b o e n hb hx;exact⟨sl,(hs.2 b (ne b o e)).trans q⟩
 . obtain⟨o',q⟩:=u.there b o e hx;exact⟨o',(hs.2 b (ne b o e)).trans q⟩
 . have hfree:H' C=Wo:=I'.free;intro b ob e;refine(I'.hok b ob e).stay (λc w' hc q=>(hs.2 c ?_).trans q) (λ_ q=>q) λ_ _ q=>q;rintro rfl;rcases hc with rfl|hc
   . rw[hfree]at e;cases e
   . rw[hfree]at hc;cases hc
 . obtain⟨_,f1,_,f3,f4,f5⟩:=f b hb;exact⟨f3,f1,f4,f5⟩
def Znu{pins:List (Yi×Obj)}{Z:St}{H3:Hp}{s3 s4:Yb}{C Dd it:Yi}{fp:List Yi}{tn:Nat->YF->Prop}{J:It}{W:Nat->Nat->List V->Hp->Prop}{Q:VK}{m0:Nat}{post:Result->Yb->Prop}
 (hb:∀(C:Yi) (s3:Yb) (H3:Hp) (fp:List Yi),PG (Zw X NC scope C s3 H3 fp) tg g/\PIf (Zw X NC scope C s3 H3 fp) ifs tc/\PE (Zw X NC scope C s3 H3 fp) elt te)
 (hk:Zlr k g) (hjk:∀j,j<k->js[j]? = Wn Wo) (hC:C=s3.heap.objs.size) (f3:∀b∈fp,ZdO X pins H3 b) (fpl:∀b∈fp,∃o,s3.heap.get? b=Wn o) (I4:Inv (Zw X NC scope C s3 H3 fp) [] (capt js Z) H3 s4) (T:Turn X.prog X.w X.K tg J fp it tn) (st4:tn 0 s4.heap) (hD0:H3 Dd=Wn (.lst [])) (w0:W 0 m0 [] H3)
 (turn:∀i m ys H,W i m ys H->H Dd=Wn (.lst ys)->(J.stop i H/\Q (.ref Dd) H)\/(J.go i H/\ys.length<sizeLine/\∀x H',J.yld i H x H'->g x (capt js Z) H' λσ2 H2=>tc σ2 H2 λb H3=>if b=Wp then te σ2 H3 λy H4=>H4 Dd=Wn (.lst ys)/\∃m',m'<m/\W (i+1) m' (ys++[y]) (upd H4 Dd (.lst (ys++[y])))else H3 Dd=Wn (.lst ys)/\∃m',m'<m/\W (i+1) m' ys H3))
 (stp:∀s6 H5,Inv (Zw X NC scope C s3 H3 fp) [] (capt js Z) H5 s6->Q (.ref Dd) H5->post (.ok .next) s6) :
 codeAny (model X.prog X.w) X.A (.compLoop (.ListComp elt [⟨tg,iter,ifs,0⟩] scope pos) 0 (.ref it) (.ref Dd) (compEnvC scope (ZfE X.env scope.names []) C X.env)) post s4:=by
 have stat:∀{H':Hp},(∀b∈fp,H' b=Wo)->∀b∈fp,ZdO (Zw X NC scope C s3 H3 fp) [] H' b:=λhn b hb=>⟨hn b hb,(by rw[hC];exact Ou (let ⟨o,e⟩:=fpl b hb;Ym e)),λhm=>I4.ok.exfs b hb hm,.inl hb,λx c e=>(I4.ok.exf b hb).2 x c e,λp hp=>absurd (show p∈([]:List (Yi×Obj))from hp) (by simp)⟩
 refine Zj3 (λn s'=>∃i ys H',Inv (Zw X NC scope C s3 H3 fp) [] (capt js Z) H' s'/\tn i s'.heap/\(∀b∈fp,H' b=Wo)/\H' Dd=Wn (.lst ys)/\W i n ys H') ?_ m0
  ⟨0,[],_,I4,st4,λb hb=>(f3 b hb).1,hD0,w0⟩
 rintro n s5 ⟨i,ys,H5,I5,st5,fr5,hD5,w5⟩;rcases turn i n ys H5 w5 hD5 with ⟨stop,qn⟩|⟨go,hlen,step⟩
 . refine Yf (T.done (Zw X NC scope C s3 H3 fp) rfl rfl rfl rfl i [] s5 (capt js Z) H5 (λ_ _=>False) I5 (stat fr5) st5 stop) (λr s6 ⟨hr,I6⟩=>?_) λ_ _ z=>z.elim;subst hr;exact stp s6 H5 I6 qn
 . refine Yf (T.item (Zw X NC scope C s3 H3 fp) rfl rfl rfl rfl i [] s5 (capt js Z) H5 (λ_ _=>False) I5 (stat fr5) st5 go) (λr s6 ⟨u,hr,h6⟩=>?_) λ_ _ z=>z.elim;subst hr;refine Yf h6 (λ_ s7 ⟨x,H7,I7,r7,y7,st7,fr7⟩=>?_) λ_ _ z=>z.elim;have I7':=I7.pinned (stat fr7) (T.obj _ _ st7);obtain⟨pg,pif,pe⟩:=hb C s3 H3 fp;refine Yf (pg _ s7 (capt js Z) H7 x u _ I7' r7 (hk _ _ _ _ (step x H7 y7))) (λ_ s8 ⟨σ8,H8,I8,q8,l8,k8⟩=>?_) λ_ _ z=>z.elim;have back:∀{H9:Hp}{s9:Yb},Inv (Zw X NC scope C s3 H3 fp) ([]++ZgB fp s7.heap) σ8 H9 s9 ->
    Inv (Zw X NC scope C s3 H3 fp) [] (capt js Z) H9 s9/\tn (i+1) s9.heap/\∀b∈fp,H9 b=Wo:=λ{H9 s9} I9=>by
    refine⟨(I9.unpinned).weak l8.symm λj v e=>?_,T.keep _ _ _ st7 λb hb o e=>(I9.pin (b,o) (Ov _ (Ov _ (ZcL hb e)))).1,λb hb=>?_⟩
    . by_cases hj:j<k
      . unfold capt at e;rw[On,hjk j hj]at e;cases e
      . rw[k8 j (Nat.le_of_not_lt hj)];exact e
    . obtain⟨o,e,d⟩:=T.obj _ _ st7 b hb;exact(I9.pin (b,o) (Ov _ (Ov _ (ZcL hb e)))).2.1
   refine Yf (pif _ s8 σ8 H8 _ I8 q8) (λok s9 ⟨H9,I9,q9⟩=>?_) λ_ _ z=>z.elim;cases ok with
   |false=>rw[if_neg Ow]at q9 ⊢;obtain⟨hD9,m',hm,w9⟩:=q9;obtain⟨b1,b2,b3⟩:=back I9;exact⟨m',hm,i+1,ys,H9,b1,b2,b3,hD9,w9⟩
   |true=>
    rw[if_pos rfl]at q9 ⊢;refine Yf (pe _ s9 σ8 H9 _ I9 q9) (λy s10 ⟨v,H10,I10,r10,hD10,m',hm,w10⟩=>?_) λ_ _ z=>z.elim;refine Yf (ZhO (X:=Zw X NC scope C s3 H3 fp) _ s10 σ8 H10 (.ref Dd) [v] (.ref Dd) [y]
     (λ_ H11=>H11=upd H10 Dd (.lst (ys++[v]))) I10 rfl (.cons r10 .nil) ⟨_,ys,v,rfl,rfl,hD10,hlen,rfl⟩) (λ_ s11 ⟨_,H11,I11,_,e11⟩=>?_) λ_ _ z=>z.elim
    subst e11;obtain⟨b1,b2,b3⟩:=back I11;exact⟨m',hm,i+1,ys++[v],_,b1,b2,b3,Zh,w10⟩
def Zj2{U:Option (Yj->Sem Unit)}{Q0:Yj->Yb->Prop}{Q:VK}{pins:List (Yi×Obj)}{Z:St}{H:Hp}{s:Yb}(S_:CompSc NC X.N js sc scope)(hsc:X.env.scope=sc)(hc:X.calm=Wp)(hi:PI X tg iter wi)
 (hb:∀(C:Yi) (s3:Yb) (H3:Hp) (fp:List Yi),PG (Zw X NC scope C s3 H3 fp) tg g/\PIf (Zw X NC scope C s3 H3 fp) ifs tc/\PE (Zw X NC scope C s3 H3 fp) elt te)
 (hk:Zlr k g) (hjk:∀j,j<k->js[j]? = Wn Wo) (hs:∀x,foldedSetIterable iter X.env x=pure x) (I:Inv X pins Z H s) (h:ZnQ wi js g tc te Z H Q)
 (stp:∀C Dd (s3 s6:Yb) H3 H5 fp,C=s3.heap.objs.size->Inv X pins Z H3 s3->(∀b∈fp,ZdO X pins H3 b)->Inv (Zw X NC scope C s3 H3 fp) [] (capt js Z) H5 s6->Q (.ref Dd) H5->compPost (model X.prog X.w) X.A X.xe U Q0 (.ref Dd) C (.ok .next) s6) :
 YA (model X.prog X.w) X.A (comprehension (.ListComp elt [⟨tg,iter,ifs,0⟩] scope pos) scope X.env posn (newList []) Wq (eval iter X.env) U) Q0 X.xe s:=by
 have hcells:∀y∈scope.names,y.2=.free->∃c,X.env.cells.lookup y.1=Wn c:=λy hy hf=>I.ok.has y.1 (.inl (show X.env.scope.names.lookup y.1=Wn .cell by rw[hsc];exact S_.free y hy hf));refine wpAny_comprehension_free rfl hs (Zht hcells) S_.kind S_.locs (thn (hi pins s Z H _ I h) λxv s1 h1=>thn h1 λitv s2 h2=>?_);obtain⟨it,fp,tn,J,H2,e,I2,T,st2,f2,rest⟩:=h2;subst e;have hD:H2 s2.heap.objs.size=Wo:=I2.hok.fresh (Oq _);obtain⟨W,⟨m0,w0⟩,turn⟩:=rest s2.heap.objs.size hD;refine Yq (wpAny_newFunctionEnv S_.nocell (by intro y hy;simp at hy) (λh4 hns hsb=>?_) S_.kind);have I3:Inv X pins Z (upd H2 s2.heap.objs.size (.lst [])) {s2 with heap:=s2.heap.push {cls:=.type "list",dict:=Wo,data:=.seq ([]:List Yj).toArray}}:=I2.lnew (t':=s2.toks) (ys:=[]) (its:=[]) .nil (Yw _);dsimp only at hns hsb ⊢;generalize hs3:({s2 with heap:=s2.heap.push {cls:=.type "list",dict:=Wo,data:=.seq ([]:List Yj).toArray}}:Yb)=s3 at I3;have eh:s2.heap.push {cls:=.type "list",dict:=Wo,data:=.seq ([]:List Yj).toArray}=s3.heap:=by rw[<- hs3]
 have eD:s2.heap.objs.size<s3.heap.objs.size:=by rw[<- eh,Heap.size_push];exact OH _
 rw[eh]at hns hsb;have keep:∀b o,s3.heap.get? b=Wn o->h4.get? b=Wn o:=λb o e=>(hsb.2 b (Ou (Ym e))).trans (Od _ e);have fpl:∀b∈fp,∃o,s3.heap.get? b=Wn o:=λb hb=>by obtain⟨o,e,_⟩:=T.obj 0 _ st2 b hb;exact⟨o,by rw[<- eh];exact Od _ e⟩
 have neD:∀b∈fp,b≠s2.heap.objs.size:=λb hb=>by obtain⟨o,e,_⟩:=T.obj 0 _ st2 b hb;exact Ou (Ym e)
 have f3:∀b∈fp,ZdO X pins (upd H2 s2.heap.objs.size (.lst [])) b:=λb hb=>⟨by rw[Zk (neD b hb)];exact(f2 b hb).1,(f2 b hb).2⟩
 have I4:=Zo9 (tk:=s2.toks+([]:List (Str×Yj)).length) S_ hsc hc I3 f3 fpl rfl hns keep;have st4:tn 0 h4:=T.keep 0 _ _ st2 λb hb o e=>keep b o (by rw[<- eh];exact Od _ e);have eC:(s2.heap.push {cls:=.type "list",dict:=Wo,data:=.seq ([]:List Yj).toArray}).objs.size=s3.heap.objs.size:=by rw[eh]
 have loop:∀s4:Yb,s4={s3 with heap:=h4,toks:=s2.toks+([]:List (Str×Yj)).length} ->
  codeAny (model X.prog X.w) X.A (.compLoop (.ListComp elt [⟨tg,iter,ifs,0⟩] scope pos) 0 (.ref it) (.ref s2.heap.objs.size) (compEnvC scope (ZfE X.env scope.names []) s3.heap.objs.size X.env))
   (compPost (model X.prog X.w) X.A X.xe U Q0 (.ref s2.heap.objs.size) s3.heap.objs.size) s4:=by
  rintro s4 rfl;exact Znu hb hk hjk rfl f3 fpl I4 T st4 Zh w0 turn λs6 H5 I6 qn=>stp _ _ s3 s6 _ H5 fp rfl I3 f3 I6 qn
 have e4:({s2 with heap:=h4,toks:=s2.toks+([]:List (Str×Yj)).length}:Yb)={s3 with heap:=h4,toks:=s2.toks+([]:List (Str×Yj)).length}:=by rw[<- hs3]
 rw[eC];exact codeAny_compStart_list (loop _ e4) (T.self X.A 0 _ _ _ st4 (loop _ e4))
def ZqN(S_:CompSc NC X.N js sc scope)(hsc:X.env.scope=sc)(hc:X.calm=Wp)(hi:PI X tg iter wi)
 (hb:∀(C:Yi) (s3:Yb) (H3:Hp) (fp:List Yi),PG (Zw X NC scope C s3 H3 fp) tg g/\PIf (Zw X NC scope C s3 H3 fp) ifs tc/\PE (Zw X NC scope C s3 H3 fp) elt te)
 (hk:Zlr k g) (hjk:∀j,j<k->js[j]? = Wn Wo) (hs:∀x,foldedSetIterable iter X.env x=pure x:=by intro _;rfl) :
 PE X (.ListComp elt [⟨tg,iter,ifs,0⟩] scope pos) (ZnQ wi js g tc te):=λpins s Z H Q I h=>Zj2 S_ hsc hc hi hb hk hjk hs I h λC Dd s3 s6 H3 H5 fp hC I3 f3 I6 qn=>by obtain⟨m,hm,_⟩:=I6.loc;exact⟨m,hm,λh' hs'=>⟨.ref Dd,H5,I3.comp_out f3 hC I6 hs',rfl,qn⟩⟩
end
set_option tactic.hygienic true
section
variable {X:Cx}
def TyN(K:Yk)(x:V)(H:Hp)(t:String):Prop:=match x with
 |.int _=>t = "int"
 |.str _=>t = "str"
 |.bl _=>t = "bool"
 |.non=>t = "NoneType"
 |.ref p=>(t = "list" /\ ∃xs,SqL K H p xs)\/(t = "tuple" /\ ∃xs,SqT K H p xs)
 |_=>False
def ZpD:Zad X (.builtin "isinstance") (λxs H Q=>∃x t T b,xs=[x,.ty T]/\TyN X.K x H t/\PySem.W.kitOne X.K (.type t) (.type T)=Wn b/\Q (.bl b) H):=by
 intro pins s Z H xs us Q I r h;obtain⟨x,t,T,b,rfl,ty,e,q⟩:=h;obtain⟨u,w',rfl,rx,rT⟩:=vals2 r;obtain rfl:w'=Value.type T:=rT;have fin:∀tk,EP X pins Z Q (.bool b) {s with toks:=tk}:=λtk=>⟨.bl b,H,I.tok tk,rfl,q⟩
 cases x with
 |int i=>obtain⟨tk,rfl⟩:=rx;obtain rfl:t = "int" := ty;exact PySem.W.kia_one PySem.W.kitx_int I.kIn trivial e (by intro z;cases z) fin
 |str i=>obtain⟨tk,rfl⟩:=rx;obtain rfl:t = "str" := ty;exact PySem.W.kia_one PySem.W.kitx_str I.kIn trivial e (by intro z;cases z) fin
 |bl i=>obtain rfl:u=Value.bool i:=rx;obtain rfl:t = "bool" := ty;exact PySem.W.kia_one PySem.W.kitx_bool I.kIn trivial e (by intro z;cases z) fin
 |non=>obtain rfl:u=Value.none:=rx;obtain rfl:t = "NoneType" := ty;exact PySem.W.kia_one PySem.W.kitx_none I.kIn trivial e (by intro z;cases z) fin
 |ref p=>
  obtain rfl:u=YC p:=rx;rcases ty with ⟨rfl,xs,hx⟩|⟨rfl,xs,hx⟩
  . obtain⟨its,_,pl,_⟩:=I.list hx;exact PySem.W.kia_one PySem.W.kitx_list I.kIn pl.isList.typeIs e (by intro z;cases z) fin
  . obtain⟨its,_,pl,_⟩:=I.tuple hx;exact PySem.W.kia_one PySem.W.kitx_tuple I.kIn pl.typeIs e (by intro z;cases z) fin
 |_=>exact(show False from ty).elim
def Znj{K:Yk}(h:PySem.W.kitOne [] (.type t) (.type T)=Wn b):PySem.W.kitOne K (.type t) (.type T)=Wn b:=h
def range_all(bs:List Bool):(List.range bs.length).all (λi=>bs.getD i Wq)=bs.all id:=by
 rw[Bool.eq_iff_iff,OC,OC];constructor
 . intro h x hx;obtain⟨i,hi,e⟩:=List.getElem_of_mem hx;have:=h i (List.mem_range.mpr hi);rw[List.getD_eq_getElem?_getD,Og hi]at this;subst e;exact this
 . intro h i hi;have hi':=List.mem_range.mp hi;rw[List.getD_eq_getElem?_getD,Og hi'];exact h _ (List.getElem_mem hi')
def ZpE(hc:X.calm=Wp):Zad X (.builtin "all") (λxs H Q=>∃(a:Yi) (bs:List Bool),xs=[.ref a]/\SqL X.K H a (bs.map V.bl)/\Q (.bl (bs.all id)) H):=by
 intro pins s Z H xs us Q I r h;obtain⟨a,bs,rfl,hx,q⟩:=h;obtain⟨u,rfl,rx⟩:=vals1 r;obtain rfl:u=YC a:=rx;obtain⟨its,rv,pl,hz⟩:=I.list hx;have hlt:a<s.heap.objs.size:=by obtain⟨_,_,e,_⟩:=pl;exact Ym e
 have hl:its.length=bs.length:=by have:=rv.length;rw[Yt]at this;exact this.symm
 refine call_all_walk (wpAny_pyIter_list pl.isList ?_);refine⟨s.heap.objs.size,_,_,_,_,_,λi=>bs.getD i Wq,rfl,Walks.list (A:=X.A.in1) (show X.A.in1.handled=Wo from I.ok.hd hc) s.heap.objs.size a (Ou hlt) its.toArray,⟨⟨_,Oj _ rfl,rfl,rfl⟩,pl.isList.push _⟩,?_,λh' tk hk=>?_⟩
 . intro i v s' Q' E' hv hq;have hv':its[i]? = Wn v:=by simpa using hv
   have hi:i<bs.length:=by rw[<- hl];exact(Ob.mp hv').1
   have hb:(bs.map V.bl)[i]? = Wn (.bl bs[i]):=by rw[On,Og hi]<;>rfl
   obtain⟨u',e',r'⟩:=rv.get hb;rw[hv']at e';cases e';obtain rfl:v=Value.bool bs[i]:=r';refine wpAny_truthy_bool ?_;have e:bs.getD i Wq=bs[i]:=by rw[List.getD_eq_getElem?_getD,Og hi]<;>rfl
   rw[<- e];exact hq
 . refine⟨.bl (bs.all id),H,I.kept λb o e=>hk b o (λz=>?_) (Od _ e),?_,q⟩
   . have:b=s.heap.objs.size:=by simpa using z
     subst this;exact absurd (Ym e) (Yv _)
   . rw[<- range_all];show Value.bool ((List.range its.toArray.size).all _)=_;rw[Of,hl]
def ZxM:V->Option Int->Option Int->Hp->VK->Prop:=λx lo hi H Q=>∃y,x=.str y/\y.length<=sizeLine/\Q (.str (Yp y lo hi)) H
def ZsZ:SlR X ZxM:=by
 intro pins s Z H x v vl vu lo hi sl Q I rx hs pl pu h;obtain⟨y,rfl,hz,q⟩:=h;obtain⟨t,rfl⟩:=rx;refine⟨"str",_,F.slot_str_getitem.lookup,typeIs_str _ _ _,?_⟩;have go:∀(l u:Option (Int×Tok)),vl=partValue l->vu=partValue u->lo=l.map (·.1)->hi=u.map (·.1)->YA (model X.prog X.w) X.A (getItem (.str y t) (.ref sl)) (EP X pins Z Q) X.xe s:=by rintro l u rfl rfl rfl rfl;refine wpAny_getItem_str_slice (l:=l) (u:=u) (st:=Wo) hs rfl ?_;refine post_val_or_str ⟨OE (Txt.slice_le y _ _) hz,λt' k=>⟨.str _,H,I.tok k,⟨t',rfl⟩,q⟩⟩
 cases pl with
 |none=>
  cases pu with
  |none=>exact go Wo Wo rfl rfl rfl rfl
  |int j tj=>exact go Wo (Wn (j,tj)) rfl rfl rfl rfl
 |int i ti=>
  cases pu with
  |none=>exact go (Wn (i,ti)) Wo rfl rfl rfl rfl
  |int j tj=>exact go (Wn (i,ti)) (Wn (j,tj)) rfl rfl rfl rfl
def Zoy(he:PE X e te)(hc:c.length<=1000000:=by decide):
 PE X (.JoinedStr [.Constant (.str c) j p1,.FormattedValue e 114 Wo p2] pos) (λZ H Q=>te Z H λx H1=>∃y,x=.str y/\(reprText y).length<=1000000/\∀z,Q (.str z) H1):=by
 intro pins s Z H Q I h;have hs:sizeLine=16777216:=YB;have e0:(Str.empty:Str).length=0:=rfl;refine JoinedStr_many (joinParts_cons (Calls.Constant_str ⟨by rw[strLen_append];lia,joinParts_cons (wpAny_FormattedValue_repr (thn (he pins {s with toks:=s.toks+1} Z H _ (I.tok _) h) λv s1 ⟨x,H1,I1,r1,y,ey,h1,q⟩=>?_))⟩));subst ey;obtain⟨t,rfl⟩:=r1;refine wpAny_pyReprObj_str ?_ (by lia);refine formatField_str (λt' tk=>?_) (by lia);have hl:(Str.empty++c++reprText y).length<=sizeLine:=by rw[strLen_append,strLen_append];lia
 exact⟨hl,joinParts_nil ⟨.str _,H1,I1.tok _,⟨_,rfl⟩,q _⟩ hl⟩
end
def ZS.there(x:ZS P w H h a o):∃ob,h.get? a=Wn ob:=by
 cases o with
 |lst xs=>obtain⟨_,_,_,_,e⟩:=x;exact⟨_,e⟩
 |tup xs=>obtain⟨_,_,_,ob,e,_⟩:=x;exact⟨_,e⟩
 |dK kvs=>obtain⟨_,_,_,_,o,_,_,e,_⟩:=x;exact⟨_,e⟩
 |dT kvs=>obtain⟨_,_,o,_,_,e,_⟩:=x;exact⟨_,e⟩
 |set S_ n=>obtain⟨o,_,_,_,e,_⟩:=x;exact⟨_,e⟩
 |ins C dx fs=>obtain⟨_,_,_,e,_⟩:=x;exact⟨_,e⟩
 |own y=>obtain⟨_,e⟩:=x;exact⟨_,e⟩
 |xd fs=>obtain⟨_,⟨_,_,_,e,_⟩,_⟩:=x;exact⟨_,e⟩
 |rng lo hi=>obtain⟨_,_,_,e⟩:=x;exact⟨_,e⟩
 |frz ob u=>obtain⟨e,_⟩:=x;exact⟨_,e⟩
 |tbl ps=>exact⟨_,(show h.get? a=Wn _ from x)⟩
 |met f y=>exact⟨_,(show h.get? a=Wn _ from x)⟩
 |ext φ=>obtain⟨_,⟨_,e⟩,_⟩:=x;exact⟨_,e⟩
def Kept(fs:List Yi)(H':Hp)(h h1 B_:YF):Prop:=∀b o,h1.get? b=Wn o->(H' b≠Wo\/((∃o',h.get? b=Wn o')/\b ∉ fs))->B_.get? b=Wn o
def CXF(P:Yh)(w:Yg):CXT:=λouter H s E e s'=>
 ∃(a:Yi) (cls a0:Yj) (H':Hp) (B_:YF),e=.ref a/\s'.os=s.os/\AllBare s'.gens/\Un (frs outer) [] H H' s.heap s'.heap/\HOk P w H' s'.heap /\
  Heap.FlyingW B_ outer a cls a0 s'.heap/\Kept (frs outer) H' s.heap s'.heap B_/\H' a=Wo/\E cls Wo H'
def ZcM(un:Un fs [] H H' h h1)(hok:HOk P w H' h1)(kb:Kept fs H' h h1 B_)(stay:B_.StaysIn h2)(up:h1.UpToSlots h2)
 (hf:∀b∈fs,∃o,h1.get? b=Wn o/\∀vs,o.data≠.fields vs):Un fs [] H H' h h2/\HOk P w H' h2/\Kept fs H' h h2 B_:=by
 have tr:∀b u,H' b=Wn u->∃o,h1.get? b=Wn o/\h2.get? b=Wn o/\B_.get? b=Wn o:=λb u e=>by obtain⟨o,q⟩:=(hok b u e).there;have z:=kb b o q (.inl (by rw[e];simp));exact⟨o,q,stay _ _ z,z⟩
 have old:∀b o,h.get? b=Wn o->b ∉ fs->∃o1,h1.get? b=Wn o1/\h2.get? b=Wn o1/\B_.get? b=Wn o1:=λb o e hb=>by obtain⟨o1,q⟩:=un.there b o e (by simp);have z:=kb b o1 q (.inr ⟨⟨o,e⟩,hb⟩);exact⟨o1,q,stay _ _ z,z⟩
 refine⟨⟨λb o e n hb _=>?_,λb o e n hb _=>?_,λb o e n _=>un.free b o e n (by simp),λb o e _=>?_,un.tups,un.frzs,un.tbls⟩,λb u e=>?_,λb o e hb=>?_⟩
 . obtain⟨o1,q1,q2,_⟩:=old b o e hb;have z:=un.keep b o e n hb (by simp);rw[q1]at z;cases z;exact q2
 . obtain⟨sl,z⟩:=un.slot b o e n hb (by simp);obtain⟨o',z',nf⟩:=hf b hb;rw[z]at z';cases z';obtain⟨sl',q⟩:=up b _ z nf;exact⟨sl',q⟩
 . by_cases hb:b∈fs
   . obtain⟨o',z',nf⟩:=hf b hb;obtain⟨sl',q⟩:=up b _ z' nf;exact⟨_,q⟩
   . obtain⟨o1,_,q2,_⟩:=old b o e hb;exact⟨_,q2⟩
 . refine(hok b u e).stay (λc v hc q=>?_) (λ_ q=>q) λ_ _ q=>q;have hc':∃u',H' c=Wn u':=by
    rcases hc with rfl|hc
    . exact⟨u,e⟩
    . exact⟨_,hc⟩
   obtain⟨u',e'⟩:=hc';obtain⟨o,q1,q2,_⟩:=tr c u' e';rw[q]at q1;cases q1;exact q2
 . rcases hb with hb|⟨⟨o',e'⟩,hb⟩
   . cases q:H' b with
     |none=>exact absurd q hb
     |some u=>obtain⟨o1,q1,q2,q3⟩:=tr b u q;rw[e]at q2;cases q2;exact q3
   . obtain⟨o1,q1,q2,q3⟩:=old b o' e' hb;rw[e]at q2;cases q2;exact q3
def Zi3(X:Cx)(E:XK):Prop:=∀(pins:List (Yi×Obj)) (Z:St) (H:Hp) (s:Yb) (h':YF) (e:Yi) (cls:Yj) (vs:List Yj),Inv X pins Z H s->Heap.MadeExcOf s.heap h' e cls vs->E cls Wo H->X.xe (.ref e) {s with heap:=h'}
section
variable {P:Yh}{w:Yg}{K:Yk}{mg:Str->Option Yj}{base:YF}{N:List Str}{qual:Str}{scope:Scope}{f:Yi}{cd:Yj}{A:YG}{outer:List Env}{s0:Yb}{H0:Hp}{E:XK}
def Zn4:Zi3 (Zle (CXF P w) P w K mg base N qual scope f cd A outer s0 H0 E) E:=by
 intro pins Z H s h' e cls vs I hx hE;have hfr:(A.deeper (envOfC qual scope s0.heap.objs.size f cd)).frames=Wn (envOfC qual scope s0.heap.objs.size f cd::outer):=I.ok.frames;have hin:∀env∈(envOfC qual scope s0.heap.objs.size f cd::outer),∀b,env.frame=Wn b->b∈(envOfC qual scope s0.heap.objs.size f cd::outer).filterMap (·.frame):=λenv he b hb=>List.mem_filterMap.mpr ⟨env,he,hb⟩;have hst:s.heap.FunFrames base (envOfC qual scope s0.heap.objs.size f cd::outer):=I.stack;show YA (model P w) (A.deeper (envOfC qual scope s0.heap.objs.size f cd)) (leaving (envOfC qual scope s0.heap.objs.size f cd) (.ref e)) _ _ {s with heap:=h'};refine wpAny_leaves_madeW (s:={s with heap:=h'}) (base:=PySem.W.hideAll s.heap (frs (envOfC qual scope s0.heap.objs.size f cd::outer))) hfr rfl (λb o q=>PySem.W.of_hideAll _ q) (PySem.W.funFrames_hide hst hin) hx λh'' t x1 x2 x3 x4=>?_;have un:Un (frs outer) [] H0 H s0.heap h':=(I.base:Un (frs outer) [] H0 H s0.heap s.heap).trans (Un.kept hx.keeps);have hok:HOk P w H h':=I.hok.kept hx.keeps;have kb:Kept (frs outer) H s0.heap h' (PySem.W.hideAll s.heap (frs (envOfC qual scope s0.heap.objs.size f cd::outer))):=λb o e1 hb=>by
  rcases hb with hb|⟨⟨o',e'⟩,hb⟩
  . cases q:H b with
    |none=>exact absurd q hb
    |some u=>
     obtain⟨o1,q1⟩:=(I.hok b u q).there;have q2:=hx.keeps b o1 q1;rw[e1]at q2;cases q2;exact PySem.W.hideAll_get _ q1 λhm=>by have z:H b=Wo:=I.stkFree b hm;rw[q]at z;cases z
  . obtain⟨o1,q1⟩:=(I.base:Un (frs outer) [] H0 H s0.heap s.heap).there b o' e' (show b ∉ ([]:List Yi)from List.not_mem_nil);have q2:=hx.keeps b o1 q1;rw[e1]at q2;cases q2;refine PySem.W.hideAll_get _ q1 λhm=>?_;have hm':b∈s0.heap.objs.size::frs outer:=I.stkSub b hm;rcases O2.mp hm' with z|z
    . rw[z]at e';exact absurd (Ym e') (Yv _)
    . exact hb z
 have hfo:∀b∈frs outer,∃o,h'.get? b=Wn o/\∀vs,o.data≠.fields vs:=λb hb=>by obtain⟨_,o,q,nf⟩:=I.funs.mem hb;exact⟨o,hx.keeps _ _ q,nf⟩
 obtain⟨r1,r2,r3⟩:=ZcM un hok kb x1.1 x4 hfo;refine⟨e,cls,_,H,_,rfl,I.os,I.bare,r1,r2,x1,r3,?_,hE⟩;cases q:H e with
 |none=>rfl
 |some u=>obtain⟨o1,q1⟩:=(I.hok e u q).there;rw[hx.new]at q1;cases q1
def ZqP(h:∀cls H',E1 cls Wo H'->E cls Wo H'):ZbT (CXF P w) (Zle (CXF P w) P w K mg base N qual scope f cd A outer s0 H0 E) E1:=by
 intro pins Z H s e s' I hx;obtain⟨a,cls,a0,H',B_,rfl,os,bare,un,hok,fl,kb,ha,hE⟩:=hx;have I':=I.call' (ch:=[]) os un hok bare (λb z=>absurd z (by simp));have hfr:(A.deeper (envOfC qual scope s0.heap.objs.size f cd)).frames=Wn (envOfC qual scope s0.heap.objs.size f cd::outer):=I.ok.frames;show YA (model P w) (A.deeper (envOfC qual scope s0.heap.objs.size f cd)) (leaving (envOfC qual scope s0.heap.objs.size f cd) (.ref a)) _ _ s';refine wpAny_leaves_onW hfr rfl fl λh'' x1 x4=>?_;have kb':Kept (frs outer) H' s0.heap s'.heap B_:=λb o e1 hb=>by
  refine kb b o e1 ?_;rcases hb with hb|⟨⟨o',e'⟩,hb⟩
  . exact .inl hb
  . obtain⟨o1,q1⟩:=(I.base:Un (frs outer) [] H0 H s0.heap s.heap).there b o' e' (show b ∉ ([]:List Yi)from List.not_mem_nil);refine .inr ⟨⟨o1,q1⟩,λhm=>?_⟩;have hm':b∈s0.heap.objs.size::frs outer:=I.stkSub b hm;rcases O2.mp hm' with z|z
    . rw[z]at e';exact absurd (Ym e') (Yv _)
    . exact hb z
 have hfo:∀b∈frs outer,∃o,s'.heap.get? b=Wn o/\∀vs,o.data≠.fields vs:=λb hb=>by obtain⟨_,o,q,nf⟩:=I'.funs.mem hb;exact⟨o,q,nf⟩
 obtain⟨r1,r2,r3⟩:=ZcM (I'.base:Un (frs outer) [] H0 H' s0.heap s'.heap) hok kb' x1.1 x4 hfo;exact⟨a,cls,a0,H',B_,rfl,I'.os,bare,r1,r2,x1,r3,ha,h _ _ hE⟩
end
def ZhM:ZbT (CXF P w) X E0:=λ_ _ _ _ _ _ _ h=>by obtain⟨_,_,_,_,_,_,_,_,_,_,_,_,_,z⟩:=h;exact z.elim
def Zrx{K:Yk}{h:YF}{C:Yi}{bmB:List Yj}{newId:String}(X:K.In h)(q:PySem.W.excIn K C bmB newId=Wp):
 ∃bm N nm qn bs hdct sn sub ab col dd k0 k1 k2 k3 k5 mN,h.get? C=Wn (excClassObj nm qn C N bs bm hdct sn sub ab col dd k0 k1 k2 k3 k5 newId)/\h.Ns N mN/\mN "__init__" = Wo/\OwnTail h bmB bm:=by
 unfold PySem.W.excIn at q;split at q
 . rename_i dd cd sl ho;split at q
   . rename_i C' bm k0 k1 k2 k3 n k5 hm hs;simp only[Oa,beq_iff_eq,Bool.not_eq_true']at q;obtain⟨⟨⟨⟨⟨rfl,rfl⟩,hdel⟩,ht⟩,hok⟩,hni⟩:=q;obtain⟨nm,bs,mro,ns,qn,hd,sn,sub,ab,col,del⟩:=cd;dsimp only at hm hdel hok hni;subst hm hdel;have hsl:sl=#[k0,k1,k2,k3,Wn (.builtin n),k5]:=by obtain⟨l⟩:=sl;simp only at hs;rw[hs]
     subst hsl;exact⟨bm,ns,nm,qn,bs,hd,sn,sub,ab,col,dd,k0,k1,k2,k3,k5,_,X _ _ ho,.of_isNs (PySem.W.isNs_of_in X hok),PySem.W.nsMap_none_of_in X hok hni,PySem.W.tail_of_in X ht⟩
   . cases q
 . cases q
section
variable {X:Cx}{x:Str}{C:Yi}{bmB:List Yj}{B_ newId initId:String}{np cpos pos:Pos}{e:Expr}{es:List Expr}{t:TA}{E:XK}
noncomputable def ZsR(C:Yi)(E:XK)(t:TA):TS:=λ_ Z H=>t Z H λvs H1=>vs.length<=sizeLine/\E (.ref C) Wo H1
def Zjq(hR:Zi3 X E)(hc:X.calm=Wp)(FB:ExcBaseFacts B_ newId initId bmB)(hg:Gl X x)(hm:X.mg x=Wn (.ref C))(hq:PySem.W.excIn X.K C bmB newId=Wp)(ha:PA X (e::es) t)
 (hdb:(x==("__debug__" : Str))=Wq:=by decide) (he:Yz (e::es) X.env=(Wq,eval e X.env)::Yz es X.env:=by rfl) (hpl:(YR cpos (Yz es X.env)).any (·.1)=Wq:=by rfl) :
 PS X (.Raise (Wn (.Call (.Name x np) (e::es) [] cpos)) Wo pos) (ZsR C E t):=by
 intro pins s Z H D I h;obtain⟨tl,N,nm,q,bs,hdct,sn,sub,ab,col,dd,k0,k1,k2,k3,k5,mN,hC,hN,hni,T⟩:=Zrx I.mod.kin hq;refine wpAny_Raise_call_subT (C:=C) (nm:=nm) (q:=q) (N:=N) (bs:=bs) (bm:=tl) (hdct:=hdct) (sn:=sn) (sub:=sub) (ab:=ab) (col:=col) (dd:=dd) (k0:=k0) (k1:=k1) (k2:=k2) (k3:=k3) (k5:=k5)
  FB (mN:=mN) (T.hasType FB.hasBase) (I.ok.hd hc) (by rw[he];show(Wq || (YR cpos (Yz es X.env)).any (·.1))=Wq;rw[hpl];rfl) hni (Zbv I hg hm ⟨rfl,?_⟩ hdb)
 have h1:=ha cpos pins s Z H _ I h;rw[he]at h1 ⊢;refine Calls.evalArgs_plain (thn h1 λus s2 ⟨vs,H2,I2,r2,hl,hE⟩=>?_);exact⟨rfl,by rw[<- r2.length];exact hl,I2.bk _ _ hC,hN.keeps I2.bk,T.keeps I2.bk,λh' a hmade=>hR pins Z H2 s2 h' a _ us I2 hmade hE⟩
end
def cxH(X:Cx)(a:Yi)(oe:Obj):Cx:={X with A:=X.A.mark (Wn (.ref a)),calm:=false,pn:=X.pn++[(a,oe)],xe:=λ_ _=>False}
abbrev cxM(X:Cx)(a:Yi):Cx:={X with A:=X.A.mark (Wn (.ref a)),calm:=false,xe:=λ_ _=>False}
section
variable {X:Cx}{pins:List (Yi×Obj)}{Z:St}{H:Hp}{s:Yb}{a:Yi}{oe:Obj}
def Inv.toM(I:Inv X pins Z H s)(a:Yi):Inv (cxM X a) pins Z H s:=⟨⟨I.ok.mod,I.ok.kind,I.ok.glob,I.ok.blt,I.ok.above,I.ok.inj,I.ok.has,I.ok.cab,λz=>absurd z Ow,I.ok.frames,I.ok.stk,I.ok.exf,I.ok.bs,I.ok.bsz,I.ok.noex,I.ok.exfs,I.ok.funs,I.ok.frf⟩,I.os,I.bare,I.base,I.loc,I.cell,I.free,I.freeC,I.pin,I.hok,I.len⟩
def Inv.toH(I:Inv X pins Z H s)(h1:s.heap.get? a=Wn oe)(h2:H a=Wo)(h3:a≠X.env.locals)(h4:a ∉ X.fs)(h5:∀v,oe.data≠.cell v):Inv (cxH X a oe) pins Z H s:=
 ⟨⟨I.ok.mod,I.ok.kind,I.ok.glob,I.ok.blt,I.ok.above,I.ok.inj,I.ok.has,I.ok.cab,λz=>absurd z Ow,I.ok.frames,I.ok.stk,I.ok.exf,I.ok.bs,I.ok.bsz,I.ok.noex,I.ok.exfs,I.ok.funs,I.ok.frf⟩,I.os,I.bare,I.base,I.loc,I.cell,I.free,I.freeC,
  λp hp=>by
   rcases OD.mp (show p∈(X.pn++[(a,oe)])++pins from hp)with z|z
   . rcases OD.mp z with z|z
     . exact I.pin p (Yr _ z)
     . have e:p=(a,oe):=by simpa using z
       subst e;exact⟨h1,h2,h3,h4,h5⟩
   . exact I.pin p (Ov _ z),I.hok,I.len⟩
theorem Inv.ofH(I:Inv (cxH X a oe) pins Z H s)(hd:X.calm=Wp->X.A.handled=Wo):Inv X pins Z H s :=
 ⟨⟨I.ok.mod,I.ok.kind,I.ok.glob,I.ok.blt,I.ok.above,I.ok.inj,I.ok.has,I.ok.cab,hd,I.ok.frames,I.ok.stk,I.ok.exf,I.ok.bs,I.ok.bsz,I.ok.noex,I.ok.exfs,I.ok.funs,I.ok.frf⟩,I.os,I.bare,I.base,I.loc,I.cell,I.free,I.freeC,
   fun p hp=>I.pin p (by
     rcases OD.mp hp with z|z
     . exact Yr _ (Yr _ z)
     . exact Ov _ z),I.hok,I.len⟩
end
def ZfT{K:Yk}(X:K.In s.heap)(h1:PySem.W.typeIn K (.ref C2)=Wn (.type "type"))(h0:(PySem.W.clsIn K C2).isSome=Wp)
 (h2:YU K (.ref C2) (.type "BaseException")=Wn Wp) (h3:YU K (.ref C) (.ref C2)=Wn Wp) (he:s.heap.get? a=Wn oe) (hc:oe.cls=.ref C) (q:Q Wp s):YA M A (excMatches (.ref a) (.ref C2)) Q E s:=by
 have i1:PySem.W.instIn K (.ref C2) (.type "tuple")=Wn Wq:=by unfold PySem.W.instIn;rw[h1];show YU K (.type "type") (.type "tuple")=Wn Wq;show YU [] (.type "type") (.type "tuple")=Wn Wq;decide +kernel
 have L1:=PySem.W.looks_instIn (M:=M) X i1;have L2:=PySem.W.looks_subIn (M:=M) X h2;have L3:=PySem.W.looks_subIn (M:=M) X h3;have L0:PySem.W.Looks M s.heap (isType (.ref C2)) Wp:=by
  unfold PySem.W.clsIn at h0;split at h0
  . rename_i c' d' cd' sl' ho;intro A' Q' E' s' k q;unfold isType loadHead;exact Ya (wpAny_loadPart (k _ _ (X _ _ ho)) (Yc q))
  . cases h0
 have LT:PySem.W.Looks M s.heap (typeOf (.ref a)) (.ref C):=by rw[<- hc];exact(PySem.W.Looks.ld he).andThen .now
 unfold excMatches isExcClass
 repeat (any_goals (first|assumption|lk|wp_step))
structure ExcN(K:Yk)(C2:Yi):Prop where
 ty:PySem.W.typeIn K (.ref C2)=Wn (.type "type")
 cls:(PySem.W.clsIn K C2).isSome=Wp
 exc:YU K (.ref C2) (.type "BaseException")=Wn Wp
noncomputable def Zvi(K:Yk)(sp:Sp)(C2:Yi)(ie:Nat)(ts:Yi->Obj->TS)(t:TA):TS:=λD Z H=>t Z H λvs H1=>sp vs H1 (λ_ H2=>D.nx Z H2) (λcls _ H2=>∃C,cls=.ref C/\YU K (.ref C) (.ref C2)=Wn Wp /\
 ∀a oe,oe.cls=.ref C->(∃ws,oe.data=.fields ws)->H2 a=Wo->ts a oe {nx:=λσ' H'=>D.nx (σ'.set ie Wo) H',rt:=D.rt,bk:=λσ' H'=>D.bk (σ'.set ie Wo) H',ct:=λσ' H'=>D.ct (σ'.set ie Wo) H'} (Z.set ie (Wn (.ref a))) H2)
section
variable {X:Cx}{k:Nat}{x cx n:Str}{ps:List Str}{sp:Sp}{e:Expr}{es:List Expr}{t:TA}{p np cpos epos hpos pos:Pos}{f C2:Yi}{fd:FuncData}{ie:Nat}{b0:Stmt}{suite:List Stmt}{ts:Yi->Obj->TS}
def ZdT(I:Inv X pins Z H s)(hN:X.N.Nodup)(hi:X.N[ie]? = Wn n)(hl:X.env.scope.names.lookup n=Wn .local)
 (h:∀s',Inv X pins (Z.set ie Wo) H s'->Q () s'):YA M A (do bindName X.env n .none;unbindBehindTheSuite X.env n pos) Q E s:=by
 obtain⟨m,hn,hlo⟩:=id I.loc;have hcls:(X.env.scope.kind==.class || (X.env.scope.kind==.module&&X.env.locals != X.env.globals))=Wq:=by rw[I.ok.kind];rfl
 have hiσ:ie<Z.length:=by rw[I.len];exact(Ob.mp hi).1
 refine wpAny_nameGoes_keeps hl hn hcls λh' v hn' hs=>?_;obtain⟨oL,_,_,hoL,_⟩:=id hn;have neL:∀b o,X.s₀.heap.get? b=Wn o->b≠X.env.locals:=λb o e=>Ou (Ot (Ym e) I.ok.above);have tracked:HOk X.prog X.w H h':=λb ob e=>by
  have hfree:=I.free;refine(I.hok b ob e).stay (λc w' hc q=>(hs.2 c ?_).trans q) (λ_ q=>q) λ_ _ q=>q;rintro rfl;rcases hc with rfl|hc
  . rw[hfree]at e;cases e
  . rw[hfree]at hc;cases hc
 refine h {s with heap:=h',toks:=s.toks+1} ⟨I.ok,I.os,I.bare,⟨λb o e n hb hx=>(hs.2 b (neL b o e)).trans (I.base.keep b o e n hb hx),λb o e n hb hx=>?_,I.base.free,λb o e hx=>?_,I.base.tups,I.base.frzs,I.base.tbls⟩,⟨_,hn',λj y v' e1 e2 e3=>?_⟩,λy c e=>?_,I.free,I.freeC,λp hp=>?_,tracked,by simpa using I.len⟩
 . obtain⟨sl,e1⟩:=I.base.slot b o e n hb hx;exact⟨sl,(hs.2 b (neL b o e)).trans e1⟩
 . obtain⟨o',e1⟩:=I.base.there b o e hx;exact⟨o',(hs.2 b (neL b o e)).trans e1⟩
 . by_cases hj:j=ie
   . subst hj;rw[Ol hiσ]at e2;cases e2
   . rw[Oc (YK hj)]at e2;obtain⟨u',r',q⟩:=hlo j y v' e1 e2 e3;refine⟨u',r',?_⟩;rcases q with ⟨k,e⟩|⟨k,c,e,z⟩
     . refine .inl ⟨k,?_⟩;have:y≠n:=λe=>hj (ZgF hN e1 (e ▸ hi));simp[this,e]
     . exact .inr ⟨k,c,e,z.sameBut hs (I.cne y c e)⟩
 . obtain⟨w',z⟩:=I.cell y c e;exact⟨w',z.sameBut hs (I.cne y c e)⟩
 . obtain⟨e,n,ne,nf,d⟩:=I.pin p hp;exact⟨(hs.2 p.1 ne).trans e,n,ne,nf,d⟩
def Zkz(F:FnOk X.prog X.w X.K X.mg X.base (CXF X.prog X.w) k f fd ps sp)(hr:Room k X.A)(hg:Gl X x)(hm:X.mg x=Wn (.ref f))(hk:YZ X.K (.ref f)=Wp)(hb:Binds X.K fd ps [])(ha:PA X.nox (e::es) t)
 (hgc:Gl X cx) (hmc:X.mg cx=Wn (.ref C2)) (hC:ExcN X.K C2) (hN:X.N.Nodup) (hi:X.N[ie]? = Wn n) (hl:X.env.scope.names.lookup n=Wn .local) (hc:X.calm=Wp) (hstk:X.stack=X.env::X.outer) (hfrm:X.env.frame=Wn X.env.locals)
 (hsuite:∀a oe,PSs (cxH X a oe) (b0::suite) (ts a oe)) (hdb:(x==("__debug__" : Str))=Wq:=by decide) (hdb2:(cx==("__debug__" : Str))=Wq:=by decide) (he:Yz (e::es) X.env=(Wq,eval e X.env)::Yz es X.env:=by rfl) (hpl:(YR cpos (Yz es X.env)).any (·.1)=Wq:=by rfl)
 (hsw:swapsWith (.Call (.Name x p) (e::es) [] cpos) Wo epos.line X.env=pure Wq:=by rfl) :
 PS X (.Try [.Expr (.Call (.Name x p) (e::es) [] cpos) epos] [.ExceptHandler (Wn (.Name cx np)) (Wn n) (b0::suite) hpos] [] [] pos) (Zvi X.K sp C2 ie ts t):=by
 intro pins s Z H D I h;refine wpAny_Try_except (wpAny_execs_cons (wpAny_Expr_any (YW (Zbv I hg hm ?_ hdb)) I.quiet hsw));refine PySem.W.callWith_K (h₀:=X.base) I.ok.mod.kin hk (Yf (ha cpos pins s Z H _ (I.wish _) h) (λus s1 ⟨vs,H1,I1',r,q⟩=>?_) λ_ _ z=>z.elim) he hpl;have I1:Inv X pins Z H1 s1:=I1'.unwish;refine⟨I1.kIn,?_⟩;have hlen:(us++[]).length=ps.length:=by rw[Ys,<- r.length];exact F.len _ _ _ _ q
 have hlen':us.length=ps.length:=by rw[<- r.length];exact F.len _ _ _ _ q
 have hbt:=hb s1 us I1.kIn hlen;rw[Ys]at hbt;refine wpAny_call (codeAny_mono (F.run X.A X.stack s1 H1 ⟨us,[]⟩ us vs _ _ hr I1.env0 hbt r q) λr s' hq=>?_);cases r with
 |ok fl=>
  cases fl with
  |ret u=>obtain⟨v,H',I',rv,q'⟩:=I1.after hq;exact wpAny_execs_nil (wpAny_execs_nil ⟨Z,H',I',q'⟩)
  |next=>exact False.elim hq
  |brk=>exact False.elim hq
  |cont=>exact False.elim hq
 |error ev=>
  obtain⟨a,cls,a0,H',B_,rfl,os,bare,un,hok,fl,kb,hna,C,rfl,hsub,hts⟩:=hq;have hfr:X.A.frames=Wn (X.env::X.outer):=by rw[<- hstk];exact I1.ok.frames
  have fl':Heap.FlyingW B_ (X.env::X.outer) a (.ref C) a0 s'.heap:=by rw[<- hstk];exact fl
  have I':=I1.call' (ch:=[]) os un hok bare (λb z=>absurd z (by simp));have hfo:∀b∈frs X.stack,∃o,s'.heap.get? b=Wn o/\∀vs,o.data≠.fields vs:=λb hb=>by obtain⟨_,o,q,nf⟩:=I'.stack.mem hb;exact⟨o,q,nf⟩
  have atH:∀h2:YF,B_.StaysIn h2->s'.heap.UpToSlots h2->∀tk,Inv X pins Z H' {s' with heap:=h2,toks:=tk}:=λh2 st up tk=>by obtain⟨r1,r2,_⟩:=ZcM un hok kb st up hfo;exact I1.call' (s':={s' with heap:=h2,toks:=tk}) (ch:=[]) os r1 r2 bare (λb z=>absurd z (by simp))
  refine wpAny_looks_onW hfr hfrm fl' λh4 held4 up4=>?_;refine wpAny_landsW held4 λh5 fl5 up5=>?_;have I5:Inv X pins Z H' {s' with heap:=h5}:=atH h5 fl5.1 (up4.trans up5) s'.toks;refine wpAny_handleBy_cons (codeAny_handlers_test (Zbv (X:=cxM X a) (I5.toM a) hgc hmc ?_ hdb2)) (by intro q;cases q);obtain⟨oe,hoe,hoc⟩:=fl5.there;refine ZfT (s:={s' with heap:=h5}) I5.kIn hC.ty hC.cls hC.exc hsub hoe hoc (codeAny_handlers_suite_as ?_);refine lands_againW fl5 λh6 fl6 up6=>?_;have I6:Inv X pins Z H' {s' with heap:=h6}:=atH h6 fl6.1 ((up4.trans up5).trans up6) s'.toks;obtain⟨oe6,ws,hoe6,hoc6,hod6,_⟩:=fl6.first;have hnl:a≠X.env.locals:=λz=>by obtain⟨m,⟨o,es',ep,ho,hd,_⟩,_⟩:=I6.loc;rw[<- z,hoe6]at ho;cases ho;rw[hod6]at hd;cases hd
  have hnf:a ∉ X.fs:=λz=>by obtain⟨_,o,q,nf⟩:=I6.funs.mem z;rw[hoe6]at q;cases q;exact nf _ hod6
  have IH:Inv (cxH X a oe6) pins Z H' {s' with heap:=h6}:=I6.toH hoe6 hna hnl hnf (λv z=>by rw[hod6]at z;cases z);refine ZeK (X:=cxH X a oe6) IH hN hi (.inl hl) (v:=.ref a) rfl (λs7 I7=>?_) (.inr hl);refine Yf (hsuite a oe6 pins s7 _ H' _ I7 (hts a oe6 hoc6 ⟨ws,hod6⟩ hna)) (λfl s8 q8=>?_) λ_ _ z=>z.elim;cases fl with
  |next=>obtain⟨σ',H8,I8,q8⟩:=q8;exact ZdT (I8.ofH I.ok.hd) hN hi hl λs9 I9=>⟨_,H8,I9,q8⟩
  |brk=>obtain⟨σ',H8,I8,q8⟩:=q8;exact ZdT (I8.ofH I.ok.hd) hN hi hl λs9 I9=>⟨_,H8,I9,q8⟩
  |cont=>obtain⟨σ',H8,I8,q8⟩:=q8;exact ZdT (I8.ofH I.ok.hd) hN hi hl λs9 I9=>⟨_,H8,I9,q8⟩
  |ret v=>obtain⟨y,σ',H8,I8,r8,q8⟩:=q8;exact ZdT (I8.ofH I.ok.hd) hN hi hl λs9 I9=>⟨y,_,H8,I9,r8,q8⟩
end
def Def(P:Yh)(w:Yg)(K:Yk)(mg:Str->Option Yj)(base:YF)(k:Nat)(x:Str)(ps:List Str)(sp:Sp):Prop:=∃f fd,mg x=Wn (.ref f)/\YZ K (.ref f)=Wp/\Binds K fd ps []/\FnOk P w K mg base (CXF P w) k f fd ps sp
section
variable {X:Cx}{k:Nat}{x:Str}{ps:List Str}{sp:Sp}{E:XK}{e:Expr}{es:List Expr}{t:TA}{p pos:Pos}
noncomputable def Zxy(sp:Sp)(E:XK)(t:TA):TE:=λZ H Q=>t Z H λvs H1=>sp vs H1 Q E
def Ztu(D:Def X.prog X.w X.K X.mg X.base k x ps sp)(hr:Room k X.A)(hg:Gl X x)(hx:ZbT (CXF X.prog X.w) X E)(ha:PA X (e::es) t)
 (hdb:(x==("__debug__" : Str))=Wq:=by decide) (he:Yz (e::es) X.env=(Wq,eval e X.env)::Yz es X.env:=by rfl) (hpl:(YR pos (Yz es X.env)).any (·.1)=Wq:=by rfl) :
 PE X (.Call (.Name x p) (e::es) [] pos) (Zxy sp E t):=by
 obtain⟨f,fd,h1,h2,h3,h4⟩:=D;intro pins s Z H Q I h;refine ZqO h4 hr hg h1 h2 h3 .nil hx ha hdb he hpl pins s Z H Q I ?_;have z:t Z H λvs H1=>sp vs H1 Q E:=h;show t Z H λvs H1=>sp (vs++[]) H1 Q E;simpa only[Ys]using z
end
section
variable {X:Cx}{pins:List (Yi×Obj)}{Z:St}{H:Hp}{s:Yb}{h':YF}
def Zmi{ch:List Yi}(hf:∀b∈ch,ZdO X pins H b):∀b∈ch,(b∈X.ex\/X.s₀.heap.objs.size<=b)/\b≠X.env.locals/\(∀x c,X.env.cells.lookup x=Wn c->c≠b)/\∀p∈X.pn++pins,p.1≠b:=λb hb=>by obtain⟨_,f1,_,f3,f4,f5⟩:=hf b hb;exact⟨f3,f1,f4,f5⟩
def Inv.turnL{t':Nat}{ch:List Yi}(I:Inv X pins Z H s)(hf:∀b∈ch,ZdO X pins H b)(k:∀b o,b ∉ ch->s.heap.get? b=Wn o->h'.get? b=Wn o):Inv X pins Z H {s with heap:=h',toks:=t'}:=by
 have nit:∀b u,H b=Wn u->b ∉ ch:=λb u e z=>by rw[(hf b z).1]at e;cases e
 refine I.step (g':=s.gens) (d':=s.drawn) (ch:=ch) (Zmi hf) (λb o _ _ hc e _=>k b o hc e) (λb o _ _ hc e _=>⟨o.slots,k b o hc e⟩) (λ_ _ _ _ n=>n)
  (λb o hc e=>⟨o,k b o hc e⟩) (λ_ _ e=>e) (λ_ _ _ e=>e) (λb ps e=>⟨#[],by rw[e];simp⟩) (λm hm=>?_) (λb u e=>?_) I.bare
 . obtain⟨o,es,ep,ho,r⟩:=hm;exact⟨o,es,ep,k _ o (λz=>(hf _ z).2.1 rfl) ho,r⟩
 . refine(I.hok b u e).stay (λc v hc q=>k c v ?_ q) (λ_ q=>q) λ_ _ q=>q;rcases hc with z|z
   . rw[z];exact nit b u e
   . exact nit c _ z
def Inv.turnT{t':Nat}{ch:List Yi}{us:List Yj}(I:Inv X pins Z H s)(hf:∀b∈ch,ZdO X pins H b)(k:∀b o,b ∉ ch->s.heap.get? b=Wn o->h'.get? b=Wn o)
 (hT:s.heap.objs.size<=T) (tup:ZaW h' T us.toArray) (rv:Zj vs us) (hz:vs.length<=sizeLine):Inv X pins Z (upd H T (.tup vs)) {s with heap:=h',toks:=t'}:=by
 have nit:∀b u,H b=Wn u->b ∉ ch:=λb u e z=>by rw[(hf b z).1]at e;cases e
 have neT:∀b o,s.heap.get? b=Wn o->b≠T:=λb o e=>Ou (Ot (Ym e) hT);have hTn:H T=Wo:=I.hok.fresh hT;refine I.step (g':=s.gens) (d':=s.drawn) (ch:=ch) (Zmi hf) (λb o _ _ hc e _=>k b o hc e) (λb o _ _ hc e _=>⟨o.slots,k b o hc e⟩) (λb o _ e n=>by rw[Zk (neT b o e)];exact n)
  (λb o hc e=>⟨o,k b o hc e⟩) (λb xs e=>by rw[Zk (ZM e hTn)];exact e) (λb o u e=>by rw[Zk (ZM e hTn)];exact e) (λb ps e=>⟨#[],by rw[Zk (ZM e hTn),e];simp⟩) (λm hm=>?_) (λb u e=>?_) I.bare
 . obtain⟨o,es,ep,ho,r⟩:=hm;exact⟨o,es,ep,k _ o (λz=>(hf _ z).2.1 rfl) ho,r⟩
 . by_cases hb:b=T
   . subst hb;rw[Zh]at e;cases e;exact⟨hz,us,rv,tup⟩
   . rw[Zk hb]at e;refine(I.hok b u e).stay (λc v hc q=>k c v ?_ q) (λc q=>by rw[Zk (ZM q hTn)];exact q) λc xs q=>by rw[Zk (ZM q hTn)];exact q
     rcases hc with z|z
     . rw[z];exact nit b u e
     . exact nit c _ z
end
def Ite(K:Yk)(a:Yi):It:=⟨λi H=>∃xs x,SqL K H a xs/\xs[i]? = Wn x,λi H v H'=>∃p,v=.ref p/\H p=Wo/\∃x,(∀xs,SqL K H a xs->xs[i]? = Wn x)/\H'=upd H p (.tup [.int i,x]),λi H=>∃xs,SqL K H a xs/\xs.length=i⟩
def ZmM{P:Yh}{w:Yg}{K:Yk}{es:List Expr}{kk:Nat}{tp:Pos}(a it e:Yi)(hei:e≠it)(hae:a≠e)(hai:a≠it):
 Turn P w K (.Tuple es kk tp) (Ite K a) [e,it] e (λi h=>(∃old,IsEnum h e it i old)/\h.IsListIter it a i) where
 mem:=by simp
 obj:=λi h st b hb=>by
  obtain⟨⟨old,he⟩,o,e1,c,d⟩:=st;rcases O2.mp hb with rfl|hb
  . exact⟨_,he,λv z=>by cases z⟩
  . have e2:b=it:=by simpa using hb
    subst e2;exact⟨o,e1,λv z=>by rw[d]at z;cases z⟩
 keep:=λi h h' st k=>by obtain⟨⟨old,he⟩,st⟩:=st;exact⟨⟨old,k e (by simp) _ he⟩,st.at λo z=>k it (by simp) o z⟩
 item:=by
  intro X hP hw hK hc i pins s Z H E I hf st hg;subst hP hw hK;obtain⟨xs,x,hq,hx⟩:=hg;obtain⟨its,rv,p,hz⟩:=I.list hq;have hl:=rv.length;have hi:i<xs.length:=(Ob.mp hx).1;have W:=WalksT.enumerate (prog:=X.prog) (w:=X.w) (I.ok.hd hc) e it a hei hae hai its.toArray;have itm:∀(Q':Option Yj->Yb->Prop) (E':Yj->Yb->Prop),(∀T vals h' tk,(∃t x,its.toArray[i]? = Wn x/\vals=#[.int i t,x])->s.heap.objs.size<=T->ZaW h' T vals ->
   ((∃x,IsEnumOut h' e it ((i:Int)+1) x T)/\h'.IsListIter it a (i+1)/\h'.IsList a its.toArray/\T≠e/\T≠it)->(∀b o,b ∉ [e,it]->s.heap.get? b=Wn o->h'.get? b=Wn o)->Q' (Wn (.ref T)) {s with heap:=h',toks:=tk}) ->
   YA (model X.prog X.w) X.A (pyNext (.ref e)) Q' E' s:=by
   intro Q' E' hQ;obtain⟨⟨old,he⟩,hit⟩:=st;have hx2:its.toArray[i]? = Wn (its.toArray[i]'(by simp;lia)):=Array.getElem?_eq_getElem (by simp;lia);refine wpAny_pyNext_enum_item he hit p.isList hx2 hei λh' ho hit' hT hsz hk=>?_;have e1:e<s.heap.objs.size:=Ym he;have e2:it<s.heap.objs.size:=by obtain⟨_,z,_⟩:=hit;exact Ym z
   exact hQ s.heap.objs.size _ h' (s.toks+1) ⟨_,_,hx2,rfl⟩ (Oq _) ⟨_,hT,rfl,rfl,_,rfl⟩ ⟨⟨_,ho⟩,hit',p.isList.at λo z=>hk a o hae hai z,Nat.ne_of_gt e1,Nat.ne_of_gt e2⟩
    λb o hb z=>hk b o (λe'=>hb (by simp[e'])) (λe'=>hb (by simp[e'])) z
  refine itm _ _ λT vals h1 tk hP hT tup mid kk=>?_;refine⟨_,rfl,W.go _ _ _ i T {s with heap:=h1,toks:=tk} _ _ mid λh2 st2 kk2=>?_⟩;obtain⟨t,y,hy,rfl⟩:=hP;have hy':its[i]? = Wn y:=by simpa using hy
  obtain⟨u,hu,ru⟩:=rv.get hx;rw[hy']at hu;cases hu;have hTw:T ∉ [e,it]:=W.apart i T h1 mid;have tup2:ZaW h2 T #[.int i t,y]:=by obtain⟨o,q,r⟩:=tup;exact⟨o,kk2 T o hTw q,r⟩
  have I2:Inv X pins Z (upd H T (.tup [.int i,x])) {s with heap:=h2,toks:=tk}:=I.turnT hf (λb o hb q=>kk2 b o hb (kk b o hb q)) hT (us:=[.int i t,y]) tup2 (.cons ⟨t,rfl⟩ (.cons ru .nil)) (by show 2<=sizeLine;decide);refine⟨.ref T,_,I2,rfl,⟨T,rfl,I.hok.fresh hT,x,λys hy=>by rw[I.list_inj hy hq];exact hx,rfl⟩,⟨st2.1,st2.2.1⟩,λb hb=>?_⟩;have neb:b≠T:=λz=>hTw (by rw[<- z];exact hb);rw[Zk neb];exact(hf b hb).1
 done:=by
  intro X hP hw hK hc i pins s Z H E I hf st hg;subst hP hw hK;obtain⟨xs,hq,hx⟩:=hg;obtain⟨its,rv,p,hz⟩:=I.list hq;have hl:=rv.length;have W:=WalksT.enumerate (prog:=X.prog) (w:=X.w) (I.ok.hd hc) e it a hei hae hai its.toArray;have e1:its.toArray.size=i:=by simp;lia
  refine W.done s _ _ ?_ λh1 tk kk=>⟨rfl,I.turnL hf kk⟩
  rw[e1];exact⟨st.1,st.2,p.isList⟩
 self:=λA i s Q E st h=>by obtain⟨⟨old,he⟩,_⟩:=st;exact wpAny_pyIter_enum he h
def Zwy(K:Yk)(ta:TA):TI:=λZ H R=>ta Z H λvs H1=>∃a,vs=[.ref a]/\(∃xs,SqL K H1 a xs)/\R (Ite K a) H1
def ZqI{X:Cx}{es:List Expr}{kk:Nat}{tp:Pos}{l:Expr}{ta:TA}{p pos:Pos}(hg:Gl X "enumerate")(hm:X.mg "enumerate" = Wo)(ha:PA X [l] ta)(hs:Yz [l] X.env=[(Wq,eval l X.env)]:=by rfl):
 PI X (.Tuple es kk tp) (.Call (.Name "enumerate" p) [l] [] pos) (Zwy X.K ta):=by
 intro pins s Z H R I h;refine Call_ (Zcm I hg hm boot_enumerate (PyProof.Rows.callWith_type1 (thn (ha pos pins s Z H _ I h) λus s1 ⟨vs,H1,I1,r1,q1⟩=>?_) hs rfl));obtain⟨a,rfl,⟨xs,hq⟩,q⟩:=q1;obtain⟨u,rfl,ru⟩:=vals1 r1;obtain rfl:u=YC a:=ru;obtain⟨its,rv,pl,hz⟩:=I1.list hq;have hlt:a<s1.heap.objs.size:=by obtain⟨_,_,e,_⟩:=pl;exact Ym e
 refine call_enumerate_list pl.isList λh' he hi hsz kk=>?_;refine wpAny_pyIter_enum he ?_;refine⟨s1.heap.objs.size+1,[s1.heap.objs.size+1,s1.heap.objs.size],_,_,H1,rfl,I1.kept (t':=s1.toks) kk,ZmM a s1.heap.objs.size (s1.heap.objs.size+1) (Nat.succ_ne_self _) (Ou (Nat.lt_succ_of_lt hlt)) (Ou hlt),⟨⟨_,he⟩,hi⟩,λb hb=>?_,q⟩;rcases O2.mp hb with rfl|hb
 . exact I1.fpOk (Nat.le_succ _) (I1.hok.fresh (Nat.le_succ _))
 . have e:b=s1.heap.objs.size:=by simpa using hb
   subst e;exact I1.fpOk (Oq _) (I1.hok.fresh (Oq _))
end L2
namespace L2
open PySem PySem.Spec PyProof.Rows PySem.Builtin PySem.Builtin.ObjectAttr PySem.Builtin.Getset_descriptor
structure ExcA(K:Yk)(D:Yi):Prop where
 ga:YI K (.ref D) "__getattribute__" = Wn (Wn (.builtin "BaseException.__getattribute__"))
 ga2:YI K (.ref D) "__getattr__" = Wn Wo
 cl:YI K (.ref D) "__class__" = Wn (Wn (.builtin "object.__class__"))
 get:PySem.W.specialIn K (.builtin "object.__class__") "__get__" = Wn (Wn (.builtin "getset_descriptor.__get__"))
 takes:PySem.W.takesIn K (.builtin "object.__class__")=Wn Wp
 obj:PySem.W.mroIn K D (.type "object")=Wn Wp
 base:YU K (.ref D) (.type "BaseException")=Wn Wp
 isc:(PySem.W.clsIn K D).isSome=Wp
def Zf4{K:Yk}(X:K.In h)(A:ExcA K D):PySem.W.Looks M h (find x (.ref D) "__class__") (.bind (.builtin "getset_descriptor.__get__") (.builtin "object.__class__")):=by have L1:=PySem.W.looks_findIn (M:=M) X A.cl;have L2:=PySem.W.looks_specialIn (M:=M) X A.get;have L3:=PySem.W.looks_takesIn (M:=M) X A.takes;refine L1.andThen (PySem.W.Looks.andThen (show PySem.W.Looks M h (getOf (Wn (.builtin "object.__class__"))) (Wn (.builtin "getset_descriptor.__get__"))from L2) ?_);exact(show PySem.W.Looks M h (dataDescriptor? (Wn (.builtin "object.__class__")) (Wn (.builtin "getset_descriptor.__get__"))) (Wn (.builtin "getset_descriptor.__get__",.builtin "object.__class__"))from L3.andThen .now).andThen (PySem.W.Looks.tag .now)
section
variable {prog:Yh}{w:Yg}{A:YG}{E:Yj->Yb->Prop}{s:Yb}{K:Yk}{x D:Yi}{ox:Obj}
def Zhs(X:K.In s.heap)(hx:s.heap.get? x=Wn ox)(hc:ox.cls=.ref D)(Z_:ExcA K D)
 (h:R (.ok (.ret (.ref D))) s):codeAny (model prog w) A (.call (.builtin "getset_descriptor.__get__") ⟨[.builtin "object.__class__",.ref x,tp],[]⟩) R s:=by
 obtain⟨hh,g,dr,t,os⟩:=s;have L0:PySem.W.Looks (model prog w) hh (typeOf (.ref x)) (.ref D):=hc ▸ (PySem.W.Looks.ld hx).andThen .now;have L1:=PySem.W.looks_mroIn (M:=model prog w) X Z_.obj;refine codeAny_call_builtin PySem.W.KF.slot_gs.plain PySem.W.KF.entry_gs (PySem.W.KF.slot_gs.check _ _ _ _ _ _ _ _ PySem.W.KF.type_class (PySem.W.KF.args_gs _ _ _) ?_);unfold Builtin.«getset_descriptor.__get__» descrGet;rw[PySem.W.dga_obj];refine Ya (Yc ?_);unfold descrGetter descrCheckInstance descrNameAndClass isInstance;simp only[PySem.W.KF.owner_class]
 repeat lk
 refine⟨Code.quiet_builtin _ (by decide +kernel),codeAny_builtin PySem.W.KF.entry_class ?_⟩;unfold Builtin.«object.__class__» shownTypeOf
 repeat lk
 all_goals (first|exact h|fail)
def ZiF{tk:Tok}(X:K.In s.heap)(hx:s.heap.get? x=Wn ox)(hc:ox.cls=.ref D)(Z_:ExcA K D)(h:Q (.done (.ret (.ref D))) s):
 YA (model prog w) A (Builtin.«object.__getattribute__» ⟨[.ref x,.str "__class__" tk],[]⟩) Q E s:=by
 obtain⟨hh,g,dr,t,os⟩:=s;have L0:PySem.W.Looks (model prog w) hh (typeOf (.ref x)) (.ref D):=hc ▸ (PySem.W.Looks.ld hx).andThen .now;have L1:=Zf4 (M:=model prog w) (x:=.ref x) X Z_;unfold Builtin.«object.__getattribute__»;refine Ya (Yc (Ya (Yc (Ya (L0.at (Ya (L1.at ?_)))))));show YA _ _ (holding [Value.builtin "object.__class__"] (call (.builtin "getset_descriptor.__get__") [.builtin "object.__class__",.ref x,.ref D]) >>= ret) _ _ _;exact Ya (Wa (wpAny_call (Zhs X hx hc Z_ (Yc h))))
def Znq(X:K.In s.heap)(hx:s.heap.get? x=Wn ox)(hc:ox.cls=.ref D)(Z_:ExcA K D)(h:Q (Wn (.ref D)) {s with toks:=s.toks+1}):
 YA (model prog w) A (getAttr? (.ref x) "__class__") Q E s:=by
 obtain⟨hh,g,dr,t,os⟩:=s;have L0:PySem.W.Looks (model prog w) hh (typeOf (.ref x)) (.ref D):=hc ▸ (PySem.W.Looks.ld hx).andThen .now;have L1:=PySem.W.looks_findIn (M:=model prog w) X Z_.ga;have L2:=PySem.W.looks_findIn (M:=model prog w) X Z_.ga2;have L3:=PySem.W.looks_subIn (M:=model prog w) X Z_.base;have L4:PySem.W.Looks (model prog w) hh (isInstance (.ref x) (.type "BaseException")) Wp:=L0.andThen L3;unfold getAttr? getAttrBy? getAttrBy;refine Ya (wpAny_mkText (Ya (wpAny_attempt (Wa (Ya (L0.at (Ya (L1.at ?_))))))));show YA _ _ (getAttrByItsOwn _ _ _ _ _ _) _ _ _;unfold getAttrByItsOwn hookBefore;refine Ya (L2.at (Ya (wpAny_attempt (Wa ?_))));show YA _ _ (boundAndCalled (.builtin "BaseException.__getattribute__") (.ref x) _) _ _ _;unfold boundAndCalled;refine Ya (Wg (F.attr_ValueError.ga.bind (.ref x)) (wpAny_call (codeAny_call_builtin F.attr_ValueError.ga.plain F.entry_bexc_ga ?_)));have hk:builtinKind "BaseException.__getattribute__" = Wn .slot:=by decide +kernel
 have hsplit:splitId "BaseException.__getattribute__" = Wn ("BaseException", "__getattribute__"):=by decide +kernel
 have ha:=F.args_bexc_ga (.ref x) (.str (O "__class__") t);simp only[checkBuiltinCall,hk,hsplit,List.cons_append,OB];refine Ya ?_;refine L4.at ?_;simp only[Bool.not_true,OG,if_false];refine Wg ha ?_;refine ZiF (s:=⟨hh,g,dr,t+1,os⟩) X hx hc Z_ ?_;show YA _ _ (handedOut (.ref D)) _ _ _;refine Yc ?_;exact Yc h
def Zo4(Z_:ExcA K D):PySem.W.KitX K (.ref x) (.ref D) (λh=>∃ob,h.get? x=Wn ob/\ob.cls=.ref D) where
 ty:=λ_ _ _ ⟨ob,h1,h2⟩=>h2 ▸ (PySem.W.Looks.ld h1).andThen .now
 it:=λ_ _ X _=>by
  have h0:=Z_.isc;unfold PySem.W.clsIn at h0;split at h0
  . rename_i c' d' cd' sl' ho;intro A' Q' E' s' k q;unfold isType loadHead;exact Ya (wpAny_loadPart (k _ _ (X _ _ ho)) (Yc q))
  . cases h0
 ne:=λh tp dd its n sl X htp=>by
  have h0:=Z_.isc;refine Bool.eq_false_iff.mpr λq=>?_;have e:D=tp:=Value.ref.inj (beq_iff_eq.mp q);subst e;unfold PySem.W.clsIn at h0;split at h0
  . rename_i c' d' cd' sl' ho;have z:=(X _ _ ho).symm.trans htp;cases z
  . cases h0
 ca:=λX ⟨ob,h1,h2⟩ k=>Znq X h1 h2 Z_ k
end
def ZiR:Zad X (.builtin "isinstance") (λxs H Q=>∃a oe D c v b,xs=[.ref a,c]/\(a,oe)∈X.pn/\oe.cls=.ref D/\ExcA X.K D/\RelV c v/\PySem.W.kitOne X.K (.ref D) v=Wn b/\Q (.bl b) H):=by
 intro pins s Z H xs us Q I r h;obtain⟨a,oe,D,c,v,b,rfl,hp,hc,Z_,rc,e,q⟩:=h;obtain⟨u,w',rfl,rx,rT⟩:=vals2 r;obtain rfl:u=YC a:=rx;have ev:w'=v:=by
  cases c with
  |ref p=>exact(show w'=YC p from rT).trans (show v=YC p from rc).symm
  |ty n=>exact(show w'=Value.type n from rT).trans (show v=Value.type n from rc).symm
  |non=>exact(show w'=Value.none from rT).trans (show v=Value.none from rc).symm
  |bl z=>exact(show w'=Value.bool z from rT).trans (show v=Value.bool z from rc).symm
  |int z=>obtain⟨_,rfl⟩:=rc;cases e
  |str z=>obtain⟨_,rfl⟩:=rc;cases e
  |byt z=>obtain⟨_,rfl⟩:=rc;cases e
  |flt z=>obtain⟨_,rfl⟩:=rc;cases e
 subst ev;have hpin:=(I.pin (a,oe) (Yr _ hp)).1;exact PySem.W.kia_one (Zo4 Z_) I.kIn ⟨oe,hpin,hc⟩ e (by intro z;cases z) λtk=>⟨.bl b,H,I.tok tk,rfl,q⟩
end L2
namespace L2
open PySem PySem.Spec PyProof.Rows
def ZrJ(h:PSs X b t)(r:t D Z H):∃t,PSs X b t/\t D Z H:=⟨t,h,r⟩
def Zgw:RelV (.str x) (.str x t):=⟨t,rfl⟩
def ZeO:RelV (.int x) (.int x t):=⟨t,rfl⟩
def Zat:RelV (.ref a) (.ref a):=rfl
def ZwU:bootBuiltins "ValueError" = Wn (.type "ValueError"):=by decide +kernel
def isSome_of{K:Yk}(h:PySem.W.isClsIn K C=Wp):(PySem.W.clsIn K C).isSome=Wp:=h
def DkK(P:Yh)(w:Yg)(K:Yk)(a:Yi)(kvs:List (Key×V)):Prop:=∃(o:Obj) (es:Array DictEntry) (ep:Nat) (vs:List (Key×Yj)),K.lookup a=Wn o/\o.ExactDict/\o.data=.dict es ep/\KeysOf (ZO P w) es/\Pairs (ZO P w) es.toList vs/\(vs.map (·.1)).Nodup/\KV kvs vs/\kvs.length<=sizeLine/\(a==Ye)=Wq
def Dk(P:Yh)(w:Yg)(K:Yk)(H:Hp)(a:Yi)(kvs:List (Key×V)):Prop:=Rd H a (.dK kvs)\/DkK P w K a kvs
section
variable {X:Cx}{pins:List (Yi×Obj)}{Z:St}{H:Hp}{s:Yb}{a:Yi}
def Inv.dk(I:Inv X pins Z H s)(h:Dk X.prog X.w X.K H a kvs):kvs.length<=sizeLine/\(a==Ye)=Wq/\∃vs,KV kvs vs/\s.heap.DictOf (ZO X.prog X.w) a vs:=by
 rcases h with h|⟨o,es,ep,vs,lk,ex,da,ks,ps,nd,kv,z,hm⟩
 . exact Zst I.hok h
 . exact⟨z,hm,vs,kv,o,es,ep,I.kIn a o lk,ex,da,ks,ps,nd⟩
def ZvH(P:Yh)(w:Yg)(K:Yk)(neg:Bool):R2:=λx y H Q=>∃a kvs k,y=.ref a/\x=kV k/\Dk P w K H a kvs/\Q (.bl (if neg then !(Zbz kvs k).isSome else(Zbz kvs k).isSome)) H
def ZtE:OpR X (YL .In) (ZvH X.prog X.w X.K Wq):=by intro pins s Z H x y v u Q I rx ry h;obtain⟨a,kvs,k,rfl,rfl,hd,q⟩:=h;cases ry;obtain⟨z,hm,vs,rel,dd⟩:=I.dk hd;refine wpAny_in_of (ZjI rx) hm dd.mapOf ?_;rw[<- (rel.val k).isSome_eq];exact⟨.bl _,H,I.tok _,rfl,q⟩
def Zm6:OpR X (YL .NotIn) (ZvH X.prog X.w X.K Wp):=by intro pins s Z H x y v u Q I rx ry h;obtain⟨a,kvs,k,rfl,rfl,hd,q⟩:=h;cases ry;obtain⟨z,hm,vs,rel,dd⟩:=I.dk hd;refine wpAny_notIn_of (ZjI rx) hm dd.mapOf ?_;rw[<- (rel.val k).isSome_eq];exact⟨.bl _,H,I.tok _,rfl,q⟩
def ZxT(P:Yh)(w:Yg)(K:Yk):R2:=λx y H Q=>∃a kvs k v,x=.ref a/\y=kV k/\Dk P w K H a kvs/\Zbz kvs k=Wn v/\Q v H
def Zrn:IxR X (ZxT X.prog X.w X.K):=by intro value slice pins s Z H x y v u Q I rx ry h hs;obtain⟨a,kvs,k,z,rfl,rfl,hd,hv,q⟩:=h;cases rx;obtain⟨_,hm,vs,rel,dd⟩:=I.dk hd;obtain⟨w',hw,rw'⟩:=Zd6.some_of (v:=z) (o:=valueAt vs k) (by rw[<- hv];exact rel.val k);exact subscriptTail_builtinR (x:=w') dd.typeIs PySem.F.slot_dict_getitem.lookup (wpAny_getItem_of (ZjI ry) dd.mapOf hw ⟨rfl,z,H,I.tok _,rw',q⟩) hs
def ZwM(I:Inv X pins Z H s)(e:H a=Wn (.dK kvs))(l:kvs.length<sizeLine)(ry:RelV (kV k) u)(rv:RelV v r)
 (h:∀s',Inv X pins Z (upd H a (.dK (putK kvs k v))) s'->Q () s'):YA (model X.prog X.w) A (setItem (.ref a) u r) Q E s:=by
 obtain⟨z,hd,vs,rel,dd⟩:=Zsu I.hok e;have hz:vs.length<=sizeLine:=by rw[<- rel.length];exact z
 have hl:(putK kvs k v).length<=sizeLine:=by have:=Zdi kvs k v;lia
 refine wpAny_setItem_pairs (hsz:=hz) (ZjI ry) dd λh' dd' hs=>h _ ?_;have he:∃q,h'.get? a=Wn q:=let ⟨q,_,_,hq,_⟩:=dd';⟨q,hq⟩;exact Zmo I (by rw[e];exact True.intro) hs he (Zpv hl hd (rel.put k rv) dd')
def Zvw:ZnB:=λo i v H Q=>∃a kvs k,o=.ref a/\i=kV k/\H a=Wn (.dK kvs)/\kvs.length<sizeLine/\Q (upd H a (.dK (putK kvs k v)))
def set_dict:ZnD X Zvw:=by intro pins s Z H o i v ov iv u Q I ro ri rv h;obtain⟨a,kvs,k,rfl,rfl,e,l,q⟩:=h;cases ro;exact ZwM I e l ri rv λs' I'=>⟨_,I',q⟩
end
set_option tactic.hygienic false
section
variable {X:Cx}{elt tg iter:Expr}{ifs:List Expr}{scope sc:Scope}{pos:Pos}{NC:List Str}{js:List (Option Nat)}{k:Nat}{wi:TI}{g:TG}{tc:TT}{te:TE}
def ZkB(hN:X.N.Nodup)(hy:X.N[i0]? = Wn y)(hx:Loc X.env.scope y)(hf:X.fn y=Wp\/X.env.scope.names.lookup y=Wn .local)(S_:CompSc NC X.N js sc scope)(hsc:X.env.scope=sc)(hc:X.calm=Wp)(hi:PI X tg iter wi)
 (hb:∀(C:Yi) (s3:Yb) (H3:Hp) (fp:List Yi),PG (Zw X NC scope C s3 H3 fp) tg g/\PIf (Zw X NC scope C s3 H3 fp) ifs tc/\PE (Zw X NC scope C s3 H3 fp) elt te)
 (hk:Zlr k g) (hjk:∀j,j<k->js[j]? = Wn Wo) (hs:∀x,foldedSetIterable iter X.env x=pure x:=by intro _;rfl) (hsw:swapsWith (.ListComp elt [⟨tg,iter,ifs,0⟩] scope pos) (Wn (.Name y py)) spos.line X.env=pure Wp:=by rfl) :
 PS X (.Assign [.Name y py] (.ListComp elt [⟨tg,iter,ifs,0⟩] scope pos) spos) (Zku (ZnQ wi js g tc te) (ZcZ i0)):=by
 intro pins s Z H D0 I h;rw[exec_Assign_Name_used _ _ _ _ hsw];refine Ya (wpAny_standAt (Ya ?_));show YA _ X.A (do let _ <- comprehension (.ListComp elt [⟨tg,iter,ifs,0⟩] scope pos) scope X.env _ (newList []) Wq (eval iter X.env) (Wn (assign (.Name y py) X.env))) _ _ s;refine Ya (Yf (Zj2 (Q:=λx H1=>ZcZ i0 x Z H1 D0.nx) (Q0:=λ_ s'=>SP X pins D0 .next s') S_ hsc hc hi hb hk hjk hs I h λC Dd s3 s6 H3 H5 fp hC I3 f3 I6 qn=>?_) (λ_ s' hq=>Yc (Yc hq)) λ_ _ e=>e);obtain⟨m,hm,_⟩:=I6.loc;have Io:Inv X pins Z H5 s6:=I3.comp_out (h'':=s6.heap) f3 hC I6 ⟨rfl,λ_ _=>rfl⟩;have fC:ZdO X pins H5 C:=I3.fpOk (Nat.le_of_eq hC.symm) I6.free;show YA _ X.A (assign (.Name y py) X.env (.ref Dd)) _ _ _;refine wpAny_assign_Name (ZhI Io hN hy hx (v:=.ref Dd) rfl (λs8 I8 ⟨a8,sb8,ha8⟩=>?_) hf);have ne8:C≠a8:=λz=>by
  rcases ha8 with e|e
  . exact fC.2.1 (z.trans e)
  . exact fC.2.2.2.2.1 _ _ e z.symm
 refine⟨m,hm.sameBut sb8 ne8,λh' hs'=>?_⟩;exact⟨_,H5,I8.turnL (t':=s8.toks) (ch:=[C]) (λb hb=>by rw[Ox.mp hb];exact fC) (λb o hb e=>(hs'.2 b (λz=>hb (by rw[z];exact List.mem_singleton_self _))).trans e),qn⟩
end
set_option tactic.hygienic true
mutual
inductive Dp(K:Yk)(H:Hp):V->PyData->Prop
 |non:Dp K H .non .none
 |bl (b:Bool):Dp K H (.bl b) (.bool b)
 |int (i:Int):Dp K H (.int i) (.int i)
 |str (x:Str) (ok:Yo x=Wp):Dp K H (.str x) (.str x)
 |lst {a:Yi}{xs:List V}{ds:List PyData}:SqL K H a xs->Dps K H xs ds->Dp K H (.ref a) (.list ds)
 |tup {a:Yi}{xs:List V}{ds:List PyData}:SqT K H a xs->Dps K H xs ds->Dp K H (.ref a) (.tuple ds)
inductive Dps(K:Yk)(H:Hp):List V->List PyData->Prop
 |nil:Dps K H [] []
 |cons {v:V}{vs:List V}{d:PyData}{ds:List PyData}:Dp K H v d->Dps K H vs ds->Dps K H (v::vs) (d::ds)
end
section
variable {K:Yk}{H H':Hp}
mutual
theorem Dp.lay:∀{v:V}{d:PyData},Dp K H v d->d.canLay0=Wp
 |_,_,.non=>rfl
 |_,_,.bl b=>rfl
 |_,_,.int i=>rfl
 |_,_,.str x ok=>ok
 |_,_,.lst h r=>Dps.lay r
 |_,_,.tup h r=>Dps.lay r
theorem Dps.lay:∀{v:List V}{d:List PyData},Dps K H v d->PyData.canLayAll0 d=Wp
 |_,_,.nil=>rfl
 |_,_,.cons h r=>by rw[PyData.canLayAll0,Dp.lay h,Dps.lay r];rfl
end
end
section
variable {X:Cx}{pins:List (Yi×Obj)}{Z:St}{H:Hp}{s:Yb}
mutual
theorem Inv.reads(I:Inv X pins Z H s):∀{v:V}{d:PyData}{u:Yj},Dp X.K H v d->RelV v u->∃as,Reads s.heap u d as
 |_,_,_,.non,r=>by cases r;exact⟨_,.none⟩
 |_,_,_,.bl b,r=>by cases r;exact⟨_,.bool b⟩
 |_,_,_,.int i,r=>by obtain⟨t,rfl⟩:=r;exact⟨_,.int i t⟩
 |_,_,_,.str x ok,r=>by obtain⟨t,rfl⟩:=r;exact⟨_,.str x t⟩
 |_,_,_,.lst h rs,r=>by cases r;obtain⟨its,rv,⟨o,n,e,c,_,dd⟩,_⟩:=I.list h;obtain⟨as,q⟩:=Inv.readsAll I rs rv;exact⟨_,.list e c dd (by simpa using q)⟩
 |_,_,_,.tup h rs,r=>by cases r;obtain⟨its,rv,⟨o,e,c,n,dd⟩,_⟩:=I.tuple h;obtain⟨as,q⟩:=Inv.readsAll I rs rv;exact⟨_,.tuple e c dd (by simpa using q)⟩
theorem Inv.readsAll(I:Inv X pins Z H s):∀{v:List V}{d:List PyData}{u:List Yj},Dps X.K H v d->Zj v u->∃as,ReadsAll s.heap u d as
 |_,_,_,.nil,r=>by cases r;exact⟨_,.nil⟩
 |_,_,_,.cons h rs,r=>by
  cases r with
  |cons r1 r2=>obtain⟨as,q⟩:=Inv.reads I h r1;obtain⟨bs,q2⟩:=Inv.readsAll I rs r2;exact⟨_,.cons q q2⟩
end
end
set_option tactic.hygienic false
namespace Rv
def own:Manifest.owners.lookup (String.ofList ['d','e','s','r','e','v','e','r'].reverse)=Wn Manifest.sig_reversed:=by kernel_rfl
def next:Slot "reversed" "__next__" "reversed.__next__" :=
 .of (owner := "reversed") (n := "__next__") (by rw[typeLookup_type,builtinLookup_eq_fast]<;>kernel_rfl) (by decide +kernel) (by decide +kernel) (by decide +kernel) (by first|exact .inl (by decide +kernel)|exact .inr (by decide +kernel)) (by rw[isSubtype_type]<;>kernel_rfl)
def Zss:entryFor table "reversed.__next__" = Wn Builtin.«reversed.__next__»:=entryFor_of_tree (by kernel_rfl)
def ZsC(a:Yj):argsOk "reversed.__next__" ⟨[a],[]⟩:=by unfold argsOk;rw[signature?_of (id := "reversed.__next__") (n:=['_','_','t','x','e','n','_','_']) (o:=['d','e','s','r','e','v','e','r']) (by kernel_rfl) own];kernel_rfl
def iter:Slot "reversed" "__iter__" "reversed.__iter__" :=
 .of (owner := "reversed") (n := "__iter__") (by rw[typeLookup_type,builtinLookup_eq_fast]<;>kernel_rfl) (by decide +kernel) (by decide +kernel) (by decide +kernel) (by first|exact .inl (by decide +kernel)|exact .inr (by decide +kernel)) (by rw[isSubtype_type]<;>kernel_rfl)
def Zw6(a:Yj):argsOk "reversed.__iter__" ⟨[a],[]⟩:=by unfold argsOk;rw[signature?_of (id := "reversed.__iter__") (n:=['_','_','r','e','t','i','_','_']) (o:=['d','e','s','r','e','v','e','r']) (by kernel_rfl) own];kernel_rfl
def ZwJ:entryFor table "reversed.__iter__" = Wn Builtin.«dict_keyiterator.__iter__» :=entryFor_alias (id' := "dict_keyiterator.__iter__") (by kernel_rfl) (by first|rfl|decide +kernel|(unfold String.splitOn;simp +decide [String.splitOnAux])) (by decide +kernel) (by kernel_rfl)
def Zv2:typeLookup (.type "tuple") "__reversed__" = pure Wo:=by rw[typeLookup_type,builtinLookup_eq_fast]<;>kernel_rfl
def ZlC:isSubtype (.type "reversed") (.type "reversed")=pure Wp:=by rw[isSubtype_type]<;>kernel_rfl
def init:Slot "reversed" "__init__" "object.__init__" :=
 .of (owner := "object") (n := "__init__") (by rw[typeLookup_type,builtinLookup_eq_fast]<;>kernel_rfl) (by decide +kernel) (by decide +kernel) (by decide +kernel) (by first|exact .inl (by decide +kernel)|exact .inr (by decide +kernel)) (by rw[isSubtype_type]<;>kernel_rfl)
def called:TypeCalled "reversed" "reversed.__new__" "object.__init__" := ⟨by decide +kernel,F.create_reversed,⟨_,_,F.mro_reversed⟩,F.made_reversed,by decide +kernel,ZlC,init⟩
noncomputable def obj(l:Yi)(i:Int):Obj:={cls:=.type "reversed",data:=.fields #[.ref l,rawInt i]}
def Is(h:YF)(a l:Yi)(i:Int):Prop:=∃o,h.get? a=Wn o/\o.cls=.type "reversed" /\ o.data=.fields #[.ref l,rawInt i]
section
variable {prog:Yh}{w:Yg}{A:YG}{E:Yj->Yb->Prop}{s:Yb}
def Is.typeIs(x:Is s.heap a l i):s.TypeIs (.ref a) "reversed" := let ⟨o,ho,hc,_⟩:=x;⟨o,ho,hc⟩
def Is.at(x:Is h a l i)(e:∀o,h.get? a=Wn o->h'.get? a=Wn o):Is h' a l i:=let ⟨o,ho,r⟩:=x;⟨o,e _ ho,r⟩
def new(hl:IsTup s.heap l items)(hz:items.size<=sizeLine)
 (h:Q (.ref s.heap.objs.size) {s with heap:=s.heap.push (obj l ((items.size:Int) - 1)),toks:=s.toks+1+1}) :
 codeAny (model prog w) A (.call (.builtin "reversed.__new__") ⟨[.type "reversed",.ref l],[]⟩) (wants Q E) s:=by
 have hfit:(items.size:Int)<2 ^ 63:=by have:=ZbG;lia
 refine codeAny_of_tree ?_;show YA _ A.in1 (do checkBuiltinCall "reversed.__new__" ⟨[.type "reversed",.ref l],[]⟩;again (.builtin "reversed.__new__" ⟨[.type "reversed",.ref l],[]⟩)) _ _ s;refine Ya (Wg (F.newCall_reversed_1 _) (Yc ⟨plainId_quiet F.plain_reversed_new _,codeAny_builtin F.entry_reversed_new ?_⟩));rw[Around.under_plainId F.plain_reversed_new _];unfold Builtin.«reversed.__new__»;refine Ya (Wg (newClass_reversed _) ?_)
 try dsimp only
 refine Ya (Wg (a:=()) (by first|rfl|kernel_rfl) (Ya (Wg (a:=()) (by first|rfl|kernel_rfl) ?_)))
 try dsimp only
 refine Ya (wpAny_specialOf hl.typeIs Zv2 ?_)
 try dsimp only
 refine Ya ?_;show YA _ _ (isInstance (.ref l) (.type "dict") >>= λb=>_) _ _ s;refine Ya (wpAny_isInstance hl.typeIs F.sub_tuple_dict ?_);show YA _ _ (specialOf (.ref l) "__getitem__" >>= λb=>_) _ _ s;refine Ya (wpAny_specialOf hl.typeIs slot_tuple_getitem.lookup ?_);refine Wg (a:=true) (by rfl) ?_;show YA _ _ (call (.builtin "len") [.ref l] >>= λb=>_) _ _ s;refine Ya (len_tuple hl hfit ?_);show YA _ _ (asInt? (.int _ _) >>= λb=>_) _ _ _;refine Ya (Yc ?_);show YA _ _ (newObj (.type "reversed") (.fields #[.ref l,rawInt ((items.size:Int) - 1)]) >>= λb=>_) _ _ _;exact Ya (Yq (Yc h))
theorem call(hl:IsTup s.heap l items)(hz:items.size<=sizeLine)
 (h:Q (.ref s.heap.objs.size) {s with heap:=s.heap.push (obj l ((items.size:Int) - 1)),toks:=s.toks+1+1}):YA (model prog w) A (PySem.call (.type "reversed") [.ref l]) Q E s:=by
 refine callType_codes called (F.typeCall_reversed_1 _) F.entry_object_init (new (Q:=λo s1=>o=.ref s.heap.objs.size/\s1={s with heap:=s.heap.push (obj l ((items.size:Int) - 1)),toks:=s.toks+1+1}) hl hz ⟨rfl,rfl⟩) ?_;rintro _ _ ⟨rfl,rfl⟩;have hT:Shared.TypeIs {s with heap:=s.heap.push (obj l ((items.size:Int) - 1)),toks:=s.toks+1+1} (.ref s.heap.objs.size) "reversed" := ⟨_,Oj _ rfl,rfl⟩
 refine⟨hT,F.args_object_init_2 _ _,?_⟩;exact object_init_meets init.lookup F.made_reversed (by decide) prog w _ _ _ ⟨hT,rfl,h⟩
def next_item{it l:Yi}{i:Nat}{Q:Option Yj->Yb->Prop}(hit:Is s.heap it l (i:Int))(hl:IsTup s.heap l items)(hz:items.size<=sizeLine)(hx:items[i]? = Wn x)
 (hQ:∀h' t',Is h' it l ((i:Int) - 1)->Heap.SameBut it s.heap h'->Q (Wn x) {s with heap:=h',toks:=t'}):YA (model prog w) A (pyNext (.ref it)) Q E s:=by
 obtain⟨o,ho,hc,hd⟩:=id hit;have hi:i<items.size:=by have:=(Array.getElem?_eq_some_iff.mp hx).1;exact this
 have l63:=ZbG;unfold pyNext;refine Ya (wpAny_attempt (YX (name:=O "__next__") hit.typeIs next (Wb next hit.typeIs Zss ?_ (ZsC _))));unfold Builtin.«reversed.__next__»;refine Ya (Wg (a:=(YC it,[])) rfl ?_)
 try dsimp only
 refine Ya (YQ ho hd (x:=.ref l) rfl (Ya (YQ ho hd (x:=rawInt (i:Int)) rfl ?_)));show YA _ _ (if (i:Int)<0 then _ else _) _ _ s;rw[if_neg (by lia)];show YA _ _ (specialOf (.ref l) "__getitem__" >>= λb=>_) _ _ s;refine Ya (wpAny_specialOf hl.typeIs slot_tuple_getitem.lookup ?_);show YA _ _ (mkInt (i:Int) >>= λb=>_) _ _ s;refine Ya (wpAny_mkInt ?_);refine Ya (wpAny_attempt (getItem_tuple (s:={s with toks:=s.toks+1}) (j:=i) (x:=x) hl (by lia) (by lia) (seqIndex_of (by lia) (by lia)) hx ?_));show YA _ _ (field (.ref it) 1 >>= λb=>_) _ _ _;refine Ya (YQ ho hd (x:=rawInt (i:Int)) rfl ?_);show YA _ _ (setField (.ref it) 1 (rawInt ((i:Int) - 1)) >>= λb=>_) _ _ _;refine Ya (wpAny_setField ho hd (by simp) ?_);refine Yc ⟨x,rfl,Yc (hQ _ _ ?_ (Heap.SameBut.update ..))⟩;exact⟨_,YV _ ho (Obj.isFreed_of_fields (Obj.data_mapFields hd _)),(Obj.cls_mapFields ..).trans hc,by rw[Obj.data_mapFields hd]<;>simp⟩
def next_end(hh:A.handled=Wo)(hit:Is s.heap it l (-1))(hQ:∀h',Heap.ExtBut it s.heap h'->Q Wo {s with heap:=h'}):YA (model prog w) A (pyNext (.ref it)) Q E s:=by
 obtain⟨o,ho,hc,hd⟩:=id hit;unfold pyNext;refine Ya (wpAny_attempt (YX (name:=O "__next__") hit.typeIs next (Wb next hit.typeIs Zss ?_ (ZsC _))));unfold Builtin.«reversed.__next__»;refine Ya (Wg (a:=(YC it,[])) rfl ?_)
 try dsimp only
 refine Ya (YQ ho hd (x:=.ref l) rfl (Ya (YQ ho hd (x:=rawInt (-1)) rfl ?_)));show YA _ _ (if (-1:Int)<0 then _ else _) _ _ s;rw[if_pos (by decide)];refine Ya (wpAny_rule ?_);show YA _ _ ((setField (.ref it) 1 (rawInt (-1)) >>= λ_=>setField (.ref it) 0 .none) >>= λb=>_) _ _ _;have e1:=YV (Obj.mapFields (·.setIfInBounds 1 (rawInt (-1)))) ho (Obj.isFreed_of_fields (Obj.data_mapFields hd _));refine Ya (Ya (wpAny_setField ho hd (by simp) (wpAny_setField e1 (Obj.data_mapFields hd _) (by simp) ?_)));refine Ya ?_;show YA _ _ (newExc (.type "StopIteration") [] >>= λb=>_) _ _ _;refine Ya ?_;simp only[newExc,newTuple];refine Ya (Yq ?_ (by size_fits));refine Ya (m:=firstArgMember _ _) (Wg (a:=Value.none) (by first|rfl|(simp only[firstArgMember]<;>rfl)) (Yq ?_ (by size_fits)));simp only[raiseNew];refine Ya (wpAny_handled ?_);rw[show A.in1.handled=Wo from hh];refine Ya (Yc (wpAny_throw ?_));refine Ya (wpAny_isInstance (T := "StopIteration") (b:=true) ⟨_,Oj _ rfl,rfl⟩ isSubtype_stop (Yc (hQ _ ?_)));exact((((Heap.ExtBut.refl _ _).trans (Heap.SameBut.update ..).extBut).trans (Heap.SameBut.update ..).extBut).push _).push _
def Zfy(hit:Is s.heap it l i)(h:Q (.ref it) s):YA (model prog w) A (pyIter (.ref it)) Q E s:=by refine wpAny_pyIter_slot hit.typeIs iter (Wb iter hit.typeIs ZwJ ?_ (Zw6 _));exact Yc ⟨_,rfl, "reversed",_,hit.typeIs,next.lookup,h⟩
end
end Rv
noncomputable def Itv(K:Yk)(a:Yi)(n:Nat):It:=⟨λi H=>∃xs x,SqT K H a xs/\xs.length=n/\xs.reverse[i]? = Wn x,λi H x H'=>H'=H/\∀xs,SqT K H a xs->xs.reverse[i]? = Wn x,λi H=>∃xs,SqT K H a xs/\xs.length=n/\n=i⟩
def ZnN{P:Yh}{w:Yg}{K:Yk}{tg:Expr}(a it:Yi)(n:Nat):Turn P w K tg (Itv K a n) [it] it (λi h=>i<=n/\Rv.Is h it a ((n:Int) - 1 - i)) where
 mem:=by simp
 obj:=λi h st b hb=>by
  have e:b=it:=by simpa using hb
  subst e;obtain⟨_,o,e,c,d⟩:=st;exact⟨o,e,λv z=>by rw[d]at z;cases z⟩
 keep:=λi h h' st k=>⟨st.1,st.2.at λo e=>k it (by simp) o e⟩
 item:=by
  intro X hP hw hK hc i pins s Z H E I hf st hg;subst hP hw hK;obtain⟨hin,st⟩:=st;obtain⟨xs,x,hq,hxn,hx⟩:=hg;obtain⟨its,rv,p,hz⟩:=I.tuple hq;have hl:=rv.length;have hi:i<xs.length:=by have:=(Ob.mp hx).1;simpa using this
  have hx':xs[n - 1 - i]? = Wn x:=by rw[List.getElem?_reverse hi]at hx;rw[<- hxn];exact hx
  obtain⟨u,hu,ru⟩:=rv.get hx';obtain⟨f0,f1,f2,f3,f4,f5⟩:=hf it (by simp);have e1:(n:Int) - 1 - (i:Nat)=((n - 1 - i:Nat):Int):=by lia
  rw[e1]at st;refine Rv.next_item st p (by simp;lia) (x:=u) (by simpa using hu) λh' t' st' sb=>?_;have I1:Inv X pins Z H {s with heap:=h',toks:=t'}:=I.turned (t':=t') (λb o hb e=>(sb.2 b hb).trans e) f0 f1 f3 f4 f5;obtain⟨o,e,c,d⟩:=id st';have e2:((n - 1 - i:Nat):Int) - 1=(n:Int) - 1 - ((i+1:Nat):Int):=by lia
  refine⟨u,rfl,ZjL (s:={s with heap:=h',toks:=t'}) e c d (by decide) ⟨x,H,I1,ru,⟨rfl,λys hy=>by rw[I.tuple_inj hy hq];exact hx⟩,⟨by lia,by rw[<- e2];exact st'⟩,λb hb=>(hf b hb).1⟩⟩
 done:=by intro X hP hw hK hc i pins s Z H E I hf st hg;subst hP hw hK;obtain⟨xs,hq,hxn,hx⟩:=hg;obtain⟨f0,f1,f2,f3,f4,f5⟩:=hf it (by simp);have st1:=st.2;rw[show(n:Int) - 1 - (i:Nat)=-1 by lia]at st1;exact Rv.next_end (I.ok.hd hc) st1 λh' eb=>⟨rfl,I.turned (t':=s.toks) (λb o hb e=>eb b o hb e) f0 f1 f3 f4 f5⟩
 self:=λ_ _ _ _ _ st h=>Rv.Zfy st.2 h
theorem ZdQ:∀{vs:List Yj}{ss:List Str},StrsAre vs ss->Zj (ss.map V.str) vs
 |_,_,.nil=>.nil
 |_,_,.cons y t h=>.cons ⟨t,rfl⟩ (ZdQ h)
section
variable {prog:Yh}{w:Yg}{A:YG}{E:Yj->Yb->Prop}{s:Yb}
def Zkv
 (hcol:∀R:List Yj->Yb->Prop,(∀(h':YF) (tk:Nat) (vs:List Yj),s.heap.objs.size<=h'.objs.size->(∀b o,s.heap.get? b=Wn o->h'.get? b=Wn o)->StrsAre vs ss->R vs {s with heap:=h',toks:=tk})->YA (model prog w) A.in1 (collect (.ref r)) R E s)
 (h64:ss.length<64)
 (h:∀(D:Yi) (h':YF) (tk:Nat) (out:List Yj) (ss':List Str) (n:Nat),(∀b o,s.heap.get? b=Wn o->h'.get? b=Wn o)->s.heap.objs.size<=D->h'.get? D=Wn {cls:=.type "list",data:=.seq out.toArray n}->StrsAre out ss'->ss'.Perm ss->sortedS ss'=Wp ->
  Q (.ref D) {s with heap:=h',toks:=tk}):YA (model prog w) A (call (.builtin "sorted") [.ref r]) Q E s:=by
 refine Calls.call_function_entry kind_sorted plain_sorted entry_sorted (args_sorted1 _) ?_;unfold Builtin.«sorted»;refine Ya (m:=checkCount "sorted" 1 1 _) (Yc (Ya (hcol _ λh' tk vs hsz hk hS=>?_)));have hlen:vs.length=ss.length:=by have:=(ZdQ hS).length;simpa using this.symm
 have hz:vs.length<=sizeLine:=by rw[YB];lia
 refine Ya (wpAny_newList ?_ hz);have hoL:(h'.push (seqObj "list" vs.toArray 0)).get? h'.objs.size=Wn (seqObj "list" vs.toArray 0):=Oj _ rfl;refine Ya (Wa (Wb slot_list_sort ⟨_,hoL,rfl⟩ entry_list_sort (list_sort_treeK strKind_oneLt hoL hS.keysOf (λv₁ v₂ rest e=>keyKind_strs (by rw[<- e];exact hS)) (by lia) λst' a1 a2=>⟨_,rfl,?_⟩) (args_list_sort _)));refine Yc ⟨_,rfl,?_⟩;obtain⟨ss',h1,h2,h3⟩:=sorted_out_str hS a1 a2;obtain⟨e,he⟩:=sortedHeap_at (out:=(arrOf st').map (·.2)) hoL;have e2:((arrOf st').map (·.2))=((arrOf st').map (·.2)).toList.toArray:=Array.toArray_toList.symm;refine h h'.objs.size _ tk ((arrOf st').map (·.2)).toList ss' e (λb o q=>?_) hsz (by rw[<- e2];exact he) h1 h2 h3;have q':=hk b o q;have hlt:=Ym q';rw[sortedHeap_old (Ou hlt) (by rw[size_push'];exact Nat.lt_succ_of_lt hlt)];exact Od _ q'
def Zdt(K:PySem.W.KdlSrc prog w T r d n P OK)(hh:A.handled=Wo)(hok:OK s.heap)(hn:n<=sizeLine)
 (h:∀(h':YF) (tk:Nat) (acc:Array Yj),s.heap.objs.size<=h'.objs.size->(∀b o,s.heap.get? b=Wn o->h'.get? b=Wn o)->ItemsOf P acc n->R acc.toList {s with heap:=h',toks:=tk}) :
 YA (model prog w) A (collect (.ref r)) R E s:=by
 have lt:=K.there _ hok;unfold collect;refine Ya (wpAny_runValue (codeAny_builtin entry_proto_collect' ?_));rw[Around.under_plainId PySem.F.plain_proto_collect _];show YA _ A.in1 (newList [] >>= λx=>again (.builtin "list.__iadd__" ⟨[x,.ref r],[]⟩)) _ _ s;refine Ya (Yq (Yc ⟨plainId_quiet PySem.F.plain_list_iadd _,codeAny_builtin entry_list_iadd' ?_⟩));rw[Around.under_plainId PySem.F.plain_list_iadd _];have e0:(s.heap.push {cls:=.type "list",data:=.seq ([]:List Yj).toArray}).get? s.heap.objs.size=Wn {cls:=.type "list",data:=.seq #[]}:=Oj _ rfl;show YA _ A.in1 (Builtin.List.listExtendWith (.ref s.heap.objs.size) (.ref r) (.ref s.heap.objs.size)) _ _ _;have key:=PySem.W.kdl_extend (A:=A) (s:={s with heap:=s.heap.push {cls:=.type "list",data:=.seq ([]:List Yj).toArray}})
  (R:=λ(q:Result) (s':Yb)=>∃(h':YF) (tk:Nat) (acc:Array Yj) (c:Nat),q=.ok (.ret (.ref s.heap.objs.size))/\s'={s with heap:=h',toks:=tk}/\(∀b o,s.heap.get? b=Wn o->h'.get? b=Wn o)/\h'.get? s.heap.objs.size=Wn {cls:=.type "list",dict:=Wo,data:=.seq acc c,slots:=#[]}/\ItemsOf P acc n)
  K hh (K.keep _ _ hok λb _ o e=>Od _ e) s.heap.objs.size (Nat.ne_of_gt lt.1) (Nat.ne_of_gt lt.2) (.ref s.heap.objs.size) 0 e0 (λh' tk acc c hk hS hacc=>⟨h',tk,acc,c,rfl,rfl,λb o e=>hk b o (Ou (Ym e)) (Od _ e),hS,hacc⟩) hn
 refine Yf key (λfin s' x=>?_) λe s' x=>?_
 . cases fin with
   |done f=>obtain⟨h',tk,acc,c,e,rfl,hk,hS,hacc⟩:=x;cases e;exact Ya (wpAny_load hS (Yc (h h' tk acc (Nat.le_of_lt (Ym hS)) hk hacc)))
   |again c₁=>refine⟨x.1,codeAny_mono x.2 λq s₂ y=>?_⟩;obtain⟨h',tk,acc,c,rfl,rfl,hk,hS,hacc⟩:=y;exact Ya (wpAny_load hS (Yc (h h' tk acc (Nat.le_of_lt (Ym hS)) hk hacc)))
 . obtain⟨_,_,_,_,z,_⟩:=x;cases z
end
theorem Zeq:∀{xs:List α}{ys:List β},Paired R xs ys->∀{i:Nat}{x:α},xs[i]? = Wn x->∃y,ys[i]? = Wn y/\R x y
 |_,_,.nil,i,x,e=>by simp at e
 |_,_,.cons h r,0,x,e=>by cases e;exact⟨_,rfl,h⟩
 |_,_,.cons h r,i+1,x,e=>by obtain⟨y,h1,h2⟩:=Zeq r (i:=i) (x:=x) (by simpa using e);exact⟨y,by simpa using h1,h2⟩
theorem Zeo:∀(ss:List Str) (vs:List Yj),vs.length=ss.length->(∀(j:Nat) (v:Yj),vs[j]? = Wn v->∃x,ss[j]? = Wn x/\(ZO P w).is (YD x) v=Wp)->StrsAre vs ss
 |[],[],_,_=>.nil
 |s::ss,v::vs,hl,h=>by obtain⟨x,e,hx⟩:=h 0 v rfl;cases e;obtain⟨t,rfl⟩:=Value.isStrOf_shape (x:=s) (v:=v) hx;exact .cons s t (Zeo ss vs (by simpa using hl) λj u hu=>h (j+1) u (by simpa using hu))
section
variable {X:Cx}
def Zoa(P:Yh)(w:Yg)(K:Yk):List V->Hp->VK->Prop:=λxs H Q=>∃a kvs ss,xs=[.ref a]/\Dk P w K H a kvs/\kvs.map (·.1)=ss.map YD/\ss.length<64/\∀p ss',H p=Wo->ss'.Perm ss->sortedS ss'=Wp->Q (.ref p) (upd H p (.lst (ss'.map V.str)))
def ZiN(hc:X.A.handled=Wo):Zad X (.builtin "sorted") (Zoa X.prog X.w X.K):=by
 intro pins s Z H xs us Q I r h;obtain⟨a,kvs,ss,rfl,hd,hks,h64,q⟩:=h;obtain⟨u,rfl,ru⟩:=vals1 r;cases ru;obtain⟨z,hm,vs,rel,dd⟩:=I.dk hd;obtain⟨ep,hat⟩:=dd.dictAt;have hl:vs.length=kvs.length:=(Paired.length rel).symm;have hl2:kvs.length=ss.length:=by have:=congrArg List.length hks;simpa using this
 have hkey:∀(j:Nat) k x,vs[j]? = Wn (k,x)->∃y,ss[j]? = Wn y/\k=YD y:=λj k x e=>by
  have hj:j<vs.length:=(Ob.mp e).1;have h1:kvs[j]? = Wn kvs[j]:=Og (by lia);obtain⟨u,hu,hu2⟩:=Zeq rel h1;rw[e]at hu;cases hu;have h3:(kvs.map (·.1))[j]? = Wn kvs[j].1:=by rw[On,h1];rfl
  rw[hks,On]at h3;obtain⟨y,hy,e3⟩:=Oo.mp h3;exact⟨y,hy,hu2.1.symm.trans e3.symm⟩
 refine Zkv (ss:=ss) (λR hR=>Zdt (PySem.W.kdl_dict (knd:=ZO X.prog X.w) (kvs:=vs) (ep:=ep) hm) hc hat (by lia) λh' tk acc hsz hk hacc=>?_) h64 λD h' tk out ss' n hk hD ho hS hp hs=>?_
 . refine hR h' tk acc.toList hsz hk (Zeo (P:=X.prog) (w:=X.w) ss acc.toList (by rw[Array.length_toList,hacc.1];lia) λj v hv=>?_);obtain⟨k,x,e,hk2⟩:=hacc.2 j v (by rw[<- Array.getElem?_toList];exact hv);obtain⟨y,hy,rfl⟩:=hkey j k x e;exact⟨y,hy,hk2⟩
 . have hlen:ss'.length<=sizeLine:=by rw[hp.length_eq];lia
   refine⟨.ref D,_,I.laid (a:=D) (o:=.lst (ss'.map V.str)) (t':=tk) hk hD ⟨by simpa using hlen,out,n,ZdQ hS,ho⟩,rfl,q D ss' (I.hok.fresh hD) hp hs⟩
end
set_option tactic.hygienic true
theorem Zd8:∀{ns:List Int}{vs:List Yj},Zj (ns.map V.int) vs->IntsAre vs ns
 |[],vs,h=>by cases h;exact .nil
 |s::ss,vs,h=>by
  rw[Op]at h;cases h with
  |cons h1 h2=>obtain⟨t,rfl⟩:=h1;exact .cons s t (Zd8 h2)
noncomputable def Zfr(z:Str)(n:Nat):Str:=⟨(YJ n z.cps).foldl (·++·) #[]⟩
theorem ZgU(a:Array Nat):∀(n:Nat) (i:Array Nat),((YJ n a).foldl (·++·) i).size=i.size+n * a.size
 |0,i=>by simp
 |n+1,i=>by
  rw[List.replicate_succ,Wi,ZgU a n (i++a),Array.size_append,Nat.succ_mul]
  lia
def ZeN(z:Str)(n:Nat):(Zfr z n).length=n * z.length:=by show((YJ n z.cps).foldl (·++·) #[]).size=_;rw[ZgU];simp;rfl
section
variable {X:Cx}
def Znv(hc:X.A.handled=Wo):Zad X (.builtin "sum") (λxs H Q=>∃(a:Yi) (ns:List Int),xs=[.ref a]/\SqL X.K H a (ns.map V.int)/\Q (.int ns.sum) H):=by
 intro pins s Z H xs us Q I r h;obtain⟨a,ns,rfl,hq,q⟩:=h;obtain⟨u,rfl,ru⟩:=vals1 r;cases ru;obtain⟨its,rv,pl,hz⟩:=I.list hq;have hi:=Zd8 rv;obtain⟨ys,e⟩:=hi.allInts.items;refine sum_intListG (xs:=ys) hc (by rw[<- e];exact pl.isList) λh' tk t' hk=>?_;refine⟨.int ns.sum,H,I.kept (t':=tk) hk,⟨t',?_⟩,q⟩;have e2:=hi.numsOf;have e3:numsOf (intItems ys).toList=ns:=by rw[<- e];exact e2
 rw[nums_intItems]at e3;rw[preSum_eq,List.take_of_length_le (by simp),e3]
def ZqT:OpR X (binaryOp .Mult) (λx y H Q=>∃z n,x=.str z/\y=.int n/\0<=n/\n<=1000/\z.length<=1000/\Q (.str (Zfr z n.toNat)) H):=by
 intro pins s Z H x y v u Q I rx ry h;obtain⟨z,n,rfl,rfl,h0,h1,h2,q⟩:=h;obtain⟨t,rfl⟩:=rx;obtain⟨t2,rfl⟩:=ry;have hl:z.length * n.toNat<=1000000:=Nat.mul_le_mul h2 (by lia:n.toNat<=1000);have hs:(1000000:Nat)<=sizeLine:=by decide
 refine PySem.P.mul_str (by rw[decide_eq_false (by lia:¬ n < -(2 ^ 63:Int)),decide_eq_false (by lia:¬ n ≥ 2 ^ 63)]<;>rfl) (λ_ _=>?_) (λ_ _=>?_) ?_
 . have h3:1<=n:=by lia
   have h4:(9223372036854775807:Int) / n ≥ 1000:=by have:1000<=9223372036854775807 / n:=(Int.le_ediv_iff_mul_le (by lia)).mpr (by lia);exact this
   show ¬ ((z.length:Int) > (2 ^ 63 - 1) / n);rw[show(2 ^ 63 - 1:Int)=9223372036854775807 by decide]
   lia
 . unfold Builtin.Str.tooLong;exact decide_eq_false (by lia)
 . by_cases hn:n<1
   . rw[if_pos hn];refine⟨by decide,.str _,H,I.tok _,⟨_,rfl⟩,?_⟩;rw[show n.toNat=0 by lia]at q;exact q
   . rw[if_neg hn];by_cases h5:(n==1 || z.length==0)=Wp
     . rw[if_pos h5];refine⟨.str _,H,I,⟨_,rfl⟩,?_⟩;have e:Zfr z n.toNat=z:=by
        rw[Wm]at h5;rcases h5 with h5|h5
        . have e1:n.toNat=1:=by have:=eq_of_beq h5;lia
          rw[e1];unfold Zfr;simp
        . have e1:z.length=0:=eq_of_beq h5;have e2:(Zfr z n.toNat).length=0:=by rw[ZeN,e1];simp
          have f:∀y:Str,y.length=0->y=⟨#[]⟩:=λy hy=>by cases y with|mk c=>rw[show c=#[]from Array.eq_empty_of_size_eq_zero hy]
          exact(f _ e2).trans (f z e1).symm
       rw[e]at q;exact q
     . rw[if_neg h5];refine⟨?_,.str _,H,I.tok _,⟨_,rfl⟩,q⟩;show(Zfr z n.toNat).length<=sizeLine;rw[ZeN,Nat.mul_comm]
       lia
def Ziu(hi:i.natAbs<2 ^ 2000)(hj:j.natAbs<2 ^ 2000):IntMulOk i j:=by
 have bits:∀k:Int,k.natAbs<2 ^ 2000->Builtin.Int.intBits k<=2000:=λk hk=>by
  unfold Builtin.Int.intBits;split
  . lia
  . rename_i h;have h0:k.natAbs≠0:=by simpa using h
    have:=(Nat.log2_lt h0).mpr hk
    lia
 unfold IntMulOk;have h1:=bits i hi;have h2:=bits j hj;have h3:Builtin.Int.intTooBig (Builtin.Int.intBits i+Builtin.Int.intBits j:Nat)=Wq:=by
  unfold Builtin.Int.intTooBig;rw[decide_eq_false_iff_not];have:(bitsLine:Nat)=134217728:=by decide
  rw[this]
  lia
 intro q;simp only[Oa]at q;have q2:=q.2;rw[show((Builtin.Int.intBits i:Int)+(Builtin.Int.intBits j:Int))=((Builtin.Int.intBits i+Builtin.Int.intBits j:Nat):Int) by simp]at q2;rw[h3]at q2;cases q2
def Zm7:OpR X (binaryOp .Mult) (rI (λi j=>i.natAbs<2 ^ 2000/\j.natAbs<2 ^ 2000) λi j=>.int (i * j)):=opI λ_ _ _ _ _ _ _ hc q=>mul_int q (Ziu hc.1 hc.2)
noncomputable def ZvJ(K:Yk):R2:=λx y H Q=>∃a b ys,x=.ref a/\y=.ref b/\SqT K H a []/\SqT K H b ys/\Q (.ref b) H
def ZqW:OpR X (binaryOp .Add) (ZvJ X.K):=by
 intro pins s Z H x y v u Q I rx ry h;obtain⟨a,b,ys,rfl,rfl,ha,hb,q⟩:=h;cases rx;cases ry;obtain⟨its,r1,ht,_⟩:=I.tuple ha;obtain⟨its2,r2,hb,_⟩:=I.tuple hb;cases r1;obtain⟨⟨cls,dd,data,sl⟩,ho,hc,n,hd⟩:=id ht;obtain⟨⟨cls2,dd2,data2,sl2⟩,ho2,hc2,n2,hd2⟩:=id hb;simp only at hc hd hc2 hd2;subst hc hd hc2 hd2;exact concat_meets ⟨_,ho,rfl⟩ ⟨_,ho2,rfl⟩ noFill_tuple_add seq_tuple_add PySem.F.slot_tuple_add PySem.F.entry_tuple_add (PySem.F.args_tuple_add_2 _ _)
  (tuple_addW0 a b _ _ n n2 dd dd2 sl sl2 (by simp)) ⟨ho,ho2,⟨.ref b,H,I,rfl,q⟩⟩
end
end L2
namespace HT
open PySem PyProof.Rows
section
variable {prog:Yh}{w:Yg}{A:YG}{E:Yj->Yb->Prop}{s:Yb}
def Zd0{t sl:Yi}{items:Array Yj}{lo hi:Option Int}{Q:Yj->Yb->Prop}(ht:IsTup s.heap t items)(hs:s.heap.IsSliceOf sl vl vu .none)(pl:IsPart vl lo)(pu:IsPart vu hi)
 (hw:sIx items.size 0 lo=0/\sIx items.size items.size hi=items.size) (h:Q (.ref t) s):YA (model prog w) A (getItem (.ref t) (.ref sl)) Q E s:=by
 obtain⟨os,hos,hcs,hds⟩:=id hs;have hTs:s.TypeIs (.ref sl) "slice" := ⟨os,hos,hcs⟩
 unfold getItem
 try with_reducible refine Wa ?_
 first|refine Ya (Yc ?_)|skip
 refine Ya (wpAny_sequenceKey ht.typeIs (by decide) ?_);refine Ya (YX (name:=O "__getitem__") ht.typeIs Wf
  (Wb Wf ht.typeIs entry_tuple_getitem ?_ (args_tuple_getitem _ _)))
 show YA _ _ (Builtin.Tuple.tupleItemsOf (.ref t) >>= _) _ _ s;refine Ya (tupleItemsOf_ ht ?_);refine Ya (wpAny_typeOf hTs ?_);rw[if_pos (by decide)];refine Ya (Zcr hs pl pu ?_);have hyes:(((sIx items.size 0 lo:Nat):Int)==0&&(1:Int)==1&&(sIx items.size items.size hi - sIx items.size 0 lo)==items.size)=Wp:=by rw[hw.1,hw.2];simp
 show YA _ _ (if (((sIx items.size 0 lo:Nat):Int)==0&&(1:Int)==1&&(sIx items.size items.size hi - sIx items.size 0 lo)==items.size)=Wp then _ else _) _ _ s;rw[if_pos hyes];unfold Builtin.Tuple.tupleIsExact;refine Ya (Ya (wpAny_typeOf ht.typeIs (Yc ?_)));rw[if_pos (by decide)];exact Ya (wpAny_rule (Yc ⟨_,rfl,Yc h⟩))
end
end HT
namespace L2
open PySem PySem.Spec PyProof.Rows
section
variable {X:Cx}
def ZxK(K:Yk):V->Option Int->Option Int->Hp->VK->Prop:=λx lo hi H Q=>∃a xs,x=.ref a/\SqT K H a xs /\
 (HT.sIx xs.length 0 lo=0/\HT.sIx xs.length xs.length hi=xs.length)/\Q (.ref a) H
def ZnV:SlR X (ZxK X.K):=by
 intro pins s Z H x v vl vu lo hi sl Q I rx hs pl pu h;obtain⟨a,xs,rfl,hx,hw,q⟩:=h;cases rx;obtain⟨its,r,ht,hz⟩:=I.tuple hx;have hlen:its.toArray.size=xs.length:=by rw[Of];exact r.length.symm
 refine⟨"tuple",_,PyProof.Rows.slot_tuple_getitem.lookup,ht.typeIs,?_⟩;exact HT.Zd0 ht hs pl pu (by rw[hlen];exact hw) ⟨.ref a,H,I,rfl,q⟩
end
end L2
namespace L2
set_option tactic.hygienic false
namespace Mx
open PySem PyProof.Rows
def nm:(toString "max" ++ toString ".loop" : String) = "max.loop" := by decide
section
variable {prog:Yh}{w:Yg}{A:YG}{Z_:Result->Yb->Prop}{J:Yi}{fo wo:List Yi}{m:Nat}{P:Nat->Yj->Prop}{S_:Nat->YF->Prop}
theorem loop(W:Walks prog w A.in1 J fo wo m P S_)(bt:Nat->Nat->Bool)(hb:CmpOf prog w A.in1 .Gt P bt)(C:Yi)(hC:C ∉ fo)(kw:List (Str×Yj)):∀(d j:Nat) (s:Yb) (u:Yj) (c:Nat),
 m - (j+1)=d->j+1<=m->S_ (j+1) s.heap->P (argBest bt j) u->s.heap.get? C=Wn {cls:=.type "list",dict:=Wo,data:=.seq #[u,u] c,slots:=#[]} ->
 (∀v hp tk,P (argBest bt (m - 1)) v->(∀b o,b ∉ wo->b≠C->s.heap.get? b=Wn o->hp.get? b=Wn o)->Z_ (.ok (.ret v)) {s with heap:=hp,toks:=tk}) ->
 codeAny (model prog w) A (.builtin "max.loop" ⟨[.ref J,.none,.ref C],kw⟩) Z_ s:=by
 have hCw:C ∉ wo:=λz=>hC (W.sub _ z);intro d;induction d with
 |zero=>
  intro j s u c e1 e2 st pu hc hz;have em:j+1=m:=by omega
  refine codeAny_builtin PySem.F.entry_max_loop ?_;rw[Around.under_plainId YT _];show YA (model prog w) A.in1 (seqItems? (YC C) >>= _) _ _ s;refine Ya (wpAny_seqItems hc rfl ?_);show YA (model prog w) A.in1 (tryCatch (pyNext (YC J)) _ >>= _) _ _ s;refine Ya (wpAny_tryCatch (W.done s _ _ (em ▸ st) λhp tk kp=>?_));have hc1:=kp C _ hCw hc;show YA (model prog w) A.in1 (updateSeq C (λ_=>#[]) >>= _) _ _ _;exact Ya (wpAny_updateSeq hc1 rfl (Ya (wpAny_letGo (Yc (hz u _ tk (by rw[<- em];exact pu) λb o b1 b2 e=>(YM _ _ (YK b2)).trans (kp b o b1 e))))))
 |succ d ih=>
  intro j s u c e1 e2 st pu hc hz;have lt:j+1<m:=by omega
  refine codeAny_builtin PySem.F.entry_max_loop ?_;rw[Around.under_plainId YT _];show YA (model prog w) A.in1 (seqItems? (YC C) >>= _) _ _ s;refine Ya (wpAny_seqItems hc rfl ?_);show YA (model prog w) A.in1 (tryCatch (pyNext (YC J)) _ >>= _) _ _ s;refine Ya (wpAny_tryCatch (W.item (j+1) s _ _ lt st λv hp tk pv st1 kp=>?_));have hc1:=kp C _ hCw hc;show YA (model prog w) A.in1 (tryCatch (holding [v,v] (richCompare CmpOp.Gt v u >>= _)) _ >>= _) _ _ _;refine Ya (wpAny_tryCatch (Wa (Ya (hb (j+1) (argBest bt j) v u _ _ _ pv pu (Ya (Wa (wpAny_truthy_bool (Ya (wpAny_letGo (Yc ?_))))))))));cases q:bt (j+1) (argBest bt j)with
  |true=>
   simp only[if_true];refine Ya (wpAny_updateSeq hc1 rfl (Ya (wpAny_letGo ?_)));rw[nm];refine Yc ⟨plainId_quiet YT _,ih (j+1) _ v _ (by omega) lt (W.frame _ _ _ st1 λb b1 o e=>?_) (by simp only[argBest,q,if_true];exact pv) (YV _ hc1 rfl) λv2 hp2 tk2 pv2 kp2=>?_⟩
   . exact(YM _ _ (λz:C=b=>hC (by rw[z];exact b1))).trans e
   . exact hz v2 hp2 tk2 pv2 λb o b1 b2 e=>kp2 b o b1 b2 ((YM _ _ (YK b2)).trans (kp b o b1 e))
  |false=>simp only[OG,if_false];refine Ya (wpAny_letGo ?_);rw[nm];exact Yc ⟨plainId_quiet YT _,ih (j+1) _ u c (by omega) lt st1 (by simp only[argBest,q,OG,if_false];exact pu) hc1 λv2 hp2 tk2 pv2 kp2=>hz v2 hp2 tk2 pv2 λb o b1 b2 e=>kp2 b o b1 b2 (kp b o b1 e)⟩
def first(W:Walks prog w A.in1 J fo wo m P S_)(bt:Nat->Nat->Bool)(hb:CmpOf prog w A.in1 .Gt P bt)(C:Yi)(hC:C ∉ fo)(dn:Str)(dv:Yj)(st:S_ 0 s.heap)
 (hc:s.heap.get? C=Wn {cls:=.type "list",dict:=Wo,data:=.seq #[] c,slots:=#[]})
 (hz:∀v hp tk,(m=0->v=dv)->(0<m->P (argBest bt (m - 1)) v)->(∀b o,b ∉ wo->b≠C->s.heap.get? b=Wn o->hp.get? b=Wn o)->Z_ (.ok (.ret v)) {s with heap:=hp,toks:=tk}) :
 codeAny (model prog w) A (.builtin "max.loop" ⟨[.ref J,.none,.ref C],[(dn,dv)]⟩) Z_ s:=by
 have hCw:C ∉ wo:=λz=>hC (W.sub _ z);refine codeAny_builtin PySem.F.entry_max_loop ?_;rw[Around.under_plainId YT _];show YA (model prog w) A.in1 (seqItems? (YC C) >>= _) _ _ s;refine Ya (wpAny_seqItems hc rfl ?_);show YA (model prog w) A.in1 (tryCatch (pyNext (YC J)) _ >>= _) _ _ s;by_cases hm:0<m
 . refine Ya (wpAny_tryCatch (W.item 0 s _ _ hm st λv hp tk pv st1 kp=>?_));have hc1:=kp C _ hCw hc;show YA (model prog w) A.in1 (updateSeq C (λ_=>#[v,v]) >>= _) _ _ _;refine Ya (wpAny_updateSeq hc1 rfl ?_);rw[nm];refine Yc ⟨plainId_quiet YT _,loop W bt hb C hC _ _ 0 _ v _ rfl hm (W.frame _ _ _ st1 λb b1 o e=>?_) pv (YV _ hc1 rfl) λv2 hp2 tk2 pv2 kp2=>?_⟩
   . exact(YM _ _ (λz:C=b=>hC (by rw[z];exact b1))).trans e
   . exact hz v2 hp2 tk2 (λz=>by omega) (λ_=>pv2) λb o b1 b2 e=>kp2 b o b1 b2 ((YM _ _ (YK b2)).trans (kp b o b1 e))
 . have h0:m=0:=by omega
   refine Ya (wpAny_tryCatch (W.done s _ _ (h0 ▸ st) λhp tk kp=>?_));exact Ya (wpAny_rule (Yc (hz dv hp tk (λ_=>rfl) (λz=>absurd z hm) λb o b1 _ e=>kp b o b1 e)))
end
section
variable {prog:Yh}{w:Yg}{A:YG}{E:Yj->Yb->Prop}{s:Yb}
def args(a d:Yj):argsOk "max" ⟨[a],[("default",d)]⟩:=by unfold argsOk;kernel_rfl
theorem call
 (h:YA (model prog w) A.in1 (pyIter x) (λit s2=>∃J fo wo m P S_ bt,it=.ref J/\Walks prog w A.in1 J fo wo m P S_/\S_ 0 s2.heap/\(∀b∈fo,b<s2.heap.objs.size)/\CmpOf prog w A.in1 .Gt P bt /\
  ∀v hp tk,(m=0->v=dv)->(0<m->P (argBest bt (m - 1)) v)->(∀b o,b ∉ wo->s2.heap.get? b=Wn o->hp.get? b=Wn o)->Q v {s2 with heap:=hp,toks:=tk}) E s) :
 YA (model prog w) A (PySem.call (.builtin "max") [x] [("default",dv)]) Q E s:=by
 refine wpAny_call (codeAny_call_builtin PySem.F.plain_max PySem.F.entry_max ?_);simp only[checkBuiltinCall,PySem.F.kind_max];have go:YA (model prog w) A.in1 (Builtin.«max» ⟨[x],[("default",dv)]⟩) (λfin s'=>match fin with
  |.done f=>(match (Except.ok f:Result)with|.ok (.ret v)=>Q v s'|.ok _=>False|.error e=>E e s')
  |.again c'=>c'.quiet=Wp/\codeAny (model prog w) A c' (λr s'=>match r with|.ok (.ret v)=>Q v s'|.ok _=>False|.error e=>E e s') s') E s:=by
  show YA (model prog w) A.in1 (Builtin.Builtins.bindParams "max" ["key", "default"] 0 ⟨[],[("default",dv)]⟩ >>= _) _ _ s;refine Ya (Wg (show Builtin.Builtins.bindParams "max" ["key", "default"] 0 ⟨[],[("default",dv)]⟩=pure [Wo,Wn dv]from rfl) (Ya (Yc (Ya (Yf h (λit s2 q=>?_) λ_ _ e=>e)))));obtain⟨J,fo,wo,m,P,S_,bt,rfl,W,st,hfo,hb,hQ⟩:=q;refine Ya (Yq ?_);have hC:s2.heap.objs.size ∉ fo:=λz=>Yv _ (hfo _ z);rw[nm];exact Yc ⟨plainId_quiet YT _,first W bt hb s2.heap.objs.size hC _ dv (W.frame _ _ _ st λb _ o e=>Od _ e) (Oj _ rfl) λv hp tk a1 a2 kp=>hQ v hp tk a1 a2 λb o b1 e=>kp b o b1 (Ou (Ym e)) (Od _ e)⟩
 cases hs:Manifest.signature? "max" with
 |none=>exact Yc go
 |some sig=>have ha:=args x dv;simp only[argsOk,hs]at ha;have h2:Bind.checkArgs "max" sig ⟨[x],[("default",dv)]⟩=pure ():=ha;show YA _ A.in1 (Bind.checkArgs "max" sig ⟨[x],[("default",dv)]⟩) _ _ s;rw[h2];exact Yc go
end
end Mx
end L2
namespace L2
open PySem PySem.Spec PyProof.Rows
set_option tactic.hygienic false
noncomputable def Zdg:List Int->Int->Int
 |[],d=>d
 |x::r,_=>r.foldl (λm y=>if y > m then y else m) x
theorem Zh3(ns:List Int):∀k,k<ns.length->(argBest (λi j=>Wt (ns.getD i 0 > ns.getD j 0)) k)<ns.length/\ns.getD (argBest (λi j=>Wt (ns.getD i 0 > ns.getD j 0)) k) 0=Zdg (ns.take (k+1)) 0
 |0,h=>by
  cases ns with
  |nil=>simp at h
  |cons x r=>exact⟨by simp[argBest],by simp[argBest,Zdg]⟩
 |k+1,h=>by
  obtain⟨h1,h2⟩:=Zh3 ns k (by omega);have e:Zdg (ns.take (k+1+1)) 0=if ns.getD (k+1) 0 > Zdg (ns.take (k+1)) 0 then ns.getD (k+1) 0 else Zdg (ns.take (k+1)) 0:=by
   cases ns with
   |nil=>simp at h
   |cons x r=>
    have hk:k<r.length:=by simpa using h
    show((r.take (k+1)).foldl _ x)=_;rw[List.take_succ_eq_append_getElem hk,List.foldl_append];simp only[Wi,List.foldl_nil];have:(x::r).getD (k+1) 0=r[k]:=by simp[List.getD_eq_getElem?_getD,Og hk]
    rw[this];rfl
  rw[e,<- h2];have ea:argBest (λi j=>Wt (ns.getD i 0 > ns.getD j 0)) (k+1)=if Wt (ns.getD (k+1) 0 > ns.getD (argBest (λi j=>Wt (ns.getD i 0 > ns.getD j 0)) k) 0)=Wp then k+1 else argBest (λi j=>Wt (ns.getD i 0 > ns.getD j 0)) k:=rfl;rw[ea];by_cases q:ns.getD (k+1) 0 > ns.getD (argBest (λi j=>Wt (ns.getD i 0 > ns.getD j 0)) k) 0
  . rw[if_pos (decide_eq_true q),if_pos q];exact⟨h,rfl⟩
  . rw[if_neg (by simpa using q),if_neg q];exact⟨h1,rfl⟩
section
variable {X:Cx}
def ZoV(hc:X.calm=Wp)(I:Inv X pins Z H s)(hx:SqL X.K H a (ns.map V.int))(q:Q (.int (Zdg ns d)) H):
 YA (model X.prog X.w) X.A (PySem.call (.builtin "max") [.ref a] [("default",.int d t)]) (EP X pins Z Q) X.xe s:=by
 obtain⟨its,rv,pl,hz⟩:=I.list hx;have hlt:a<s.heap.objs.size:=by obtain⟨_,_,e,_⟩:=pl;exact Ym e
 have hl:its.length=ns.length:=by have:=rv.length;rw[Yt]at this;exact this.symm
 have val:∀{i:Nat}{v:Yj},its.toArray[i]? = Wn v->i<ns.length/\∃t,v=.int (ns.getD i 0) t:=λ{i v} hv=>by
  have hv':its[i]? = Wn v:=by simpa using hv
  have hi:i<ns.length:=by rw[<- hl];exact(Ob.mp hv').1
  have hb:(ns.map V.int)[i]? = Wn (.int ns[i]):=by rw[On,Og hi]<;>rfl
  obtain⟨u',e',r'⟩:=rv.get hb;rw[hv']at e';cases e';obtain⟨t,rfl⟩:=r';exact⟨hi,t,by simp[List.getD_eq_getElem?_getD,Og hi]⟩
 refine Mx.call (wpAny_pyIter_list pl.isList ?_);refine⟨s.heap.objs.size,_,_,_,_,_,λi j=>Wt (ns.getD i 0 > ns.getD j 0),rfl,Walks.list (A:=X.A.in1) (show X.A.in1.handled=Wo from I.ok.hd hc) s.heap.objs.size a (Ou hlt) its.toArray,⟨⟨_,Oj _ rfl,rfl,rfl⟩,pl.isList.push _⟩,?_,?_,λv hp tk a1 a2 kp=>?_⟩
 . intro b hb;have hp1:b<s.heap.objs.size+1:=by
    simp at hb;rcases hb with rfl|rfl
    . exact OH _
    . exact Nat.lt_succ_of_lt hlt
   simpa[Heap.push]using hp1
 . exact CmpOf.ints_gt (λi=>ns.getD i 0) λi v hv=>(val hv).2
 . refine⟨.int (Zdg ns d),H,I.kept λb o e=>kp b o (λz=>?_) (Od _ e),?_,q⟩
   . have:b=s.heap.objs.size:=by simpa using z
     subst this;exact absurd (Ym e) (Yv _)
   . have hsz:its.toArray.size=ns.length:=by rw[Of,hl]
     by_cases h0:ns=[]
     . subst h0;have:=a1 (by rw[hsz];rfl);subst this;exact⟨t,rfl⟩
     . have hp0:0<ns.length:=List.length_pos_iff.mpr h0;obtain⟨_,t3,ev⟩:=val (a2 (by rw[hsz];exact hp0));refine⟨t3,?_⟩;rw[ev,hsz,(Zh3 ns (ns.length - 1) (by omega)).2,List.take_of_length_le (by omega)];cases ns with
       |nil=>exact absurd rfl h0
       |cons x r=>rfl
def Zvl(K:Yk)(ta tb:TE):TE:=λZ H Q=>ta Z H λv H1=>tb Z H1 λu H2=>∃a ns d,v=.ref a/\u=.int d/\SqL K H2 a (ns.map V.int)/\Q (.int (Zdg ns d)) H2
def ZqK(hg:Gl X "max")(hm:X.mg "max" = Wo)(hc:X.calm=Wp)(ha:PE X x ta)(hb:PE X y tb)(he:Yz [x] X.env=[(Wq,eval x X.env)]):
 PE X (.Call (.Name "max" p) [x] [⟨Wn "default",y,kp⟩] pos) (Zvl X.K ta tb):=by
 intro pins s Z H Q I h;refine YW (Zcm I hg hm boot_max ?_);refine PyProof.Rows.callWith_kw ?_ (by rw[he];rfl) (by rw[he];rfl);rw[he];refine Calls.spliced_cons (thn (ha pins s Z H _ I h) λv s1 ⟨vv,H1,I1,r1,q1⟩=>Calls.spliced_nil ?_);refine kws_cons (thn (hb pins s1 Z H1 _ I1 q1) λu s2 ⟨uu,H2,I2,r2,q2⟩=>kws_nil ?_);obtain⟨a,ns,d,rfl,rfl,hq,q⟩:=q2;cases r1;obtain⟨t,rfl⟩:=r2;exact ZoV hc I2 hq q
end
end L2
namespace L2
open PySem PySem.Spec PyProof PyProof.Rows PySem.AutoSeq1
set_option maxRecDepth 8000 in
def Zk8(l:Yi)(items:Array Yj)(n:Nat)(b:Yi)(items2:Array Yj)(n2:Nat)(od:Option Yi)(sl:Array (Option Yj))(hs0:¬(!items.isEmpty&&Wh (items.size+items2.size))=Wp)(hs1:items.size<=sizeLine)(hs2:items.size+items2.size<=sizeLine+1):
 Meets (Builtin.«list.extend» ⟨[.ref l,.ref b],[]⟩) (λ_ R s=>s.heap.get? l=Wn {cls:=.type "list",dict:=Wo,data:=.seq items n,slots:=#[]}/\s.heap.get? b=Wn {cls:=.type "tuple",dict:=od,data:=.seq items2 n2,slots:=sl}/\R (.ok (.ret Value.none)) {s with heap:=s.heap.update l (Obj.mapSeq λx=>x++items2),toks:=s.toks}):=
 .of_wp λprog w A R s h=>by
  obtain⟨hp,g,d,tk,os⟩:=s;obtain⟨hl,hb,h⟩:=h;have f1:=idx_int;have f2:=AutoSeq1.sub_tuple_tuple;have f3:=AutoSeq1.sub_list_list;have f4:=AutoSeq1.sub_tuple_list;have f5:=AutoSeq1.sub_list_tuple;have hz':(items++items2).size<=sizeLine+1:=by rw[Array.size_append];exact hs2
  wp_walk using (wpAny_updateSeq hl rfl (hz:=hs1) (_hz':=hz')),wpAny_loadPart' hl,wpAny_loadPart' hb;exact⟨_,rfl,h⟩
section
variable {X:Cx}
def Zoc(K:Yk):V->List V->Hp->VK->Prop:=λx vs H Q=>∃l b xs zs,x=.ref l/\vs=[.ref b]/\H l=Wn (.lst xs)/\SqT K H b zs/\xs.length+zs.length<=sizeLine/\Q .non (upd H l (.lst (xs++zs)))
def ZkR:MtM X "list.extend" (Zoc X.K):=by
 intro pins s Z H x vs v us Q I rx rv h;obtain⟨l,b,xs,zs,rfl,rfl,hH,hB,hz,q⟩:=h;cases rx;obtain⟨u,rfl,ru⟩:=rv.one;cases ru;obtain⟨z,its,n,r,hl,e⟩:=I.lstM hH;obtain⟨its2,r2,⟨o,e2,oc,n2,od⟩,z2⟩:=I.tuple hB;obtain⟨cls,dc,dat,sl⟩:=o;simp only at oc od;subst oc;subst od;have hl2:=r2.length;have hsz:its.toArray.size+its2.toArray.size<=sizeLine:=by rw[Of,Of];lia
 have hlong:¬ (!its.toArray.isEmpty&&Wh (its.toArray.size+its2.toArray.size))=Wp:=by rw[Zjv hsz,Bool.and_false];exact Ow
 refine call_meets F.slot_list_extend ⟨_,e,rfl⟩ F.entry_list_extend (F.args_list_extend_2 _ _)
  (Zk8 l its.toArray n b its2.toArray n2 dc sl hlong (by rw[Of];lia) (by lia)) ⟨e,e2,?_⟩
 refine⟨.non,_,I.lset (its':=its++its2) hH e (by simp) (r.append r2) ?_,rfl,q⟩;rw[OA]
 lia
end
end L2
namespace L2
open PySem PySem.Spec PyProof.Rows
noncomputable def ZuT(K:Yk)(a:Yi)(n:Nat):It:=⟨λi H=>∃xs x,SqL K H a xs/\xs.length=n/\xs.reverse[i]? = Wn x,λi H x H'=>H'=H/\∀xs,SqL K H a xs->xs.reverse[i]? = Wn x,λi H=>∃xs,SqL K H a xs/\xs.length=n/\n=i⟩
def ZmK{P:Yh}{w:Yg}{K:Yk}{tg:Expr}(a it:Yi)(n:Nat):Turn P w K tg (ZuT K a n) [it] it (λi h=>i<=n/\h.IsRevIter it a ((n:Int) - 1 - i)) where
 mem:=by simp
 obj:=λi h st b hb=>by
  have e:b=it:=by simpa using hb
  subst e;obtain⟨_,o,e,c,d⟩:=st;exact⟨o,e,λv z=>by rw[d]at z;cases z⟩
 keep:=λi h h' st k=>⟨st.1,st.2.at λo e=>k it (by simp) o e⟩
 item:=by
  intro X hP hw hK hc i pins s Z H E I hf st hg;subst hP hw hK;obtain⟨hin,st⟩:=st;obtain⟨xs,x,hq,hxn,hx⟩:=hg;obtain⟨its,rv,p,hz⟩:=I.list hq;have hl:=rv.length;have hi:i<xs.length:=by have:=(Ob.mp hx).1;simpa using this
  have hx':xs[n - 1 - i]? = Wn x:=by rw[List.getElem?_reverse hi]at hx;rw[<- hxn];exact hx
  obtain⟨u,hu,ru⟩:=rv.get hx';obtain⟨f0,f1,f2,f3,f4,f5⟩:=hf it (by simp);have e1:(n:Int) - 1 - (i:Nat)=((n - 1 - i:Nat):Int):=by lia
  rw[e1]at st;refine wpAny_pyNext_rev_item st p.isList (x:=u) (by simpa using hu) λh' st' sb=>?_;have I1:Inv X pins Z H {s with heap:=h'}:=I.turned (t':=s.toks) (λb o hb e=>(sb.2 b hb).trans e) f0 f1 f3 f4 f5;obtain⟨o,e,c,d⟩:=id st';have e2:((n - 1 - i:Nat):Int) - 1=(n:Int) - 1 - ((i+1:Nat):Int):=by lia
  exact⟨u,rfl,ZjL (s:={s with heap:=h'}) e c d (by decide) ⟨x,H,I1,ru,⟨rfl,λys hy=>by rw[I.list_inj hy hq];exact hx⟩,⟨by lia,by rw[<- e2];exact st'⟩,λb hb=>(hf b hb).1⟩⟩
 done:=by intro X hP hw hK hc i pins s Z H E I hf st hg;subst hP hw hK;obtain⟨xs,hq,hxn,hx⟩:=hg;obtain⟨f0,f1,f2,f3,f4,f5⟩:=hf it (by simp);have st1:=st.2;rw[show(n:Int) - 1 - (i:Nat)=-1 by lia]at st1;exact wpAny_pyNext_rev_end (I.ok.hd hc) st1 λh' eb=>⟨rfl,I.turned (t':=s.toks) (λb o hb e=>eb b o hb e) f0 f1 f3 f4 f5⟩
 self:=λ_ _ _ _ _ st h=>wpAny_pyIter_revIter st.2 h
def Zwx(K:Yk)(ta:TA):TI:=λZ H R=>ta Z H λvs H1=>∃a xs,vs=[.ref a]/\((SqT K H1 a xs/\R (Itv K a xs.length) H1)\/(SqL K H1 a xs/\R (ZuT K a xs.length) H1))
def ZqH{X:Cx}{tg l:Expr}{ta:TA}{p pos:Pos}(hg:Gl X "reversed")(hm:X.mg "reversed" = Wo)(ha:PA X [l] ta)(hs:Yz [l] X.env=[(Wq,eval l X.env)]:=by rfl):
 PI X tg (.Call (.Name "reversed" p) [l] [] pos) (Zwx X.K ta):=by
 intro pins s Z H R I h;refine Call_ (Zcm I hg hm boot_reversed (PyProof.Rows.callWith_type1 (thn (ha pos pins s Z H _ I h) λus s1 ⟨vs,H1,I1,r1,q1⟩=>?_) hs rfl));obtain⟨a,xs,rfl,q⟩:=q1;obtain⟨u,rfl,ru⟩:=vals1 r1;obtain rfl:u=YC a:=ru;rcases q with ⟨hq,q⟩|⟨hq,q⟩
 . obtain⟨its,rv,pl,hz⟩:=I1.tuple hq;have hl:=rv.length;refine Rv.call pl (by simp;lia) ?_;have e1:((its.toArray.size:Nat):Int) - 1=(xs.length:Int) - 1 - ((0:Nat):Int):=by simp;lia
   have st:Rv.Is (s1.heap.push (Rv.obj a (((its.toArray.size:Nat):Int) - 1))) s1.heap.objs.size a ((xs.length:Int) - 1 - ((0:Nat):Int)):=⟨_,Oj _ rfl,rfl,by rw[<- e1];rfl⟩
   refine Rv.Zfy st ?_;refine⟨s1.heap.objs.size,[s1.heap.objs.size],_,_,H1,rfl,I1.kept (t':=s1.toks+1+1) λb o e=>Od _ e,ZnN a _ xs.length,⟨Yw _,st⟩,λb hb=>?_,q⟩;have e:b=s1.heap.objs.size:=by simpa using hb
   subst e;exact I1.fpOk (Oq _) (I1.hok.fresh (Oq _))
 . obtain⟨its,rv,pl,hz⟩:=I1.list hq;have hl:=rv.length;refine call_reversed_list pl.isList ?_;have e1:((its.toArray.size:Nat):Int) - 1=(xs.length:Int) - 1 - ((0:Nat):Int):=by simp;lia
   have st:(s1.heap.push (revObj a (((its.toArray.size:Nat):Int) - 1))).IsRevIter s1.heap.objs.size a ((xs.length:Int) - 1 - ((0:Nat):Int)):=⟨_,Oj _ rfl,rfl,by rw[<- e1];rfl⟩
   refine wpAny_pyIter_revIter st ?_;refine⟨s1.heap.objs.size,[s1.heap.objs.size],_,_,H1,rfl,I1.kept (t':=s1.toks) λb o e=>Od _ e,ZmK a _ xs.length,⟨Yw _,st⟩,λb hb=>?_,q⟩;have e:b=s1.heap.objs.size:=by simpa using hb
   subst e;exact I1.fpOk (Oq _) (I1.hok.fresh (Oq _))
set_option tactic.hygienic false
namespace Rv
def Zuk:Slot "reversed" "__length_hint__" "reversed.__length_hint__" :=
 .of (owner := "reversed") (n := "__length_hint__") (by rw[typeLookup_type,builtinLookup_eq_fast]<;>kernel_rfl) (by decide +kernel) (by decide +kernel) (by decide +kernel) (by first|exact .inl (by decide +kernel)|exact .inr (by decide +kernel)) (by rw[isSubtype_type]<;>kernel_rfl)
def ZwK:entryFor table "reversed.__length_hint__" = Wn Builtin.«reversed.__length_hint__»:=entryFor_of_tree (by kernel_rfl)
def Zw7(a:Yj):argsOk "reversed.__length_hint__" ⟨[a],[]⟩:=by unfold argsOk;rw[signature?_of (id := "reversed.__length_hint__") (n:=['_','_','t','n','i','h','_','h','t','g','n','e','l','_','_']) (o:=['d','e','s','r','e','v','e','r']) (by kernel_rfl) own];kernel_rfl
def Zv3:typeLookup (.type "reversed") "__len__" = pure Wo:=by rw[typeLookup_type,builtinLookup_eq_fast]<;>kernel_rfl
section
variable {prog:Yh}{w:Yg}{A:YG}{E:Yj->Yb->Prop}{s:Yb}
def walks(hh:A.handled=Wo)(I l:Yi)(hne:l≠I)(items:Array Yj)(hz:items.size<=sizeLine):
 Walks prog w A I [I,l] [I] items.size (λi v=>items[items.size - 1 - i]? = Wn v) (λi h=>i<=items.size/\Is h I l ((items.size:Int) - 1 - (i:Int))/\IsTup h l items) where
 sub:=λb hb=>by simp at hb;simp[hb]
 frame:=λ_ _ _ x hk=>⟨x.1,x.2.1.at λo e=>hk I (by simp) o e,let ⟨o,e,r⟩:=x.2.2;⟨o,hk l (by simp) o e,r⟩⟩
 item:=λi s Q E hi x hQ=>by have hit:=x.2.1;rw[show(items.size:Int) - 1 - (i:Int)=((items.size - 1 - i:Nat):Int) by lia]at hit;have hx:items[items.size - 1 - i]? = Wn (items[items.size - 1 - i]'(by lia)):=Array.getElem?_eq_getElem (by lia);refine next_item hit x.2.2 hz hx λh' t' hit' hs'=>?_;rw[show((items.size - 1 - i:Nat):Int) - 1=(items.size:Int) - 1 - ((i+1:Nat):Int) by lia]at hit';exact hQ _ h' t' hx ⟨hi,hit',let ⟨o,e,r⟩:=x.2.2;⟨o,(hs'.2 l hne).trans e,r⟩⟩ λb o hb eo=>hs'.extBut b o (λh=>hb (by simp[h])) eo
 done:=λs Q E x hQ=>by have hit:=x.2.1;rw[show(items.size:Int) - 1 - (items.size:Int)=-1 by lia]at hit;exact next_end hh hit λh' he'=>hQ h' s.toks λb o hb eo=>he' b o (λh=>hb (by simp[h])) eo
 self:=λ_ _ _ _ x hQ=>Zfy x.2.1 hQ
def Zrr(hit:Is s.heap it l ((items.size:Int) - 1))(hl:IsTup s.heap l items)(hz:items.size<=sizeLine)
 (hQ:∀u tk,s.toks<=tk->Q (.int (items.size:Int) u) {s with toks:=tk}):YA (model prog w) A (PySem.call (.builtin "reversed.__length_hint__") [.ref it]) Q E s:=by
 have hfit:(items.size:Int)<2 ^ 63:=by have:=ZbG;lia
 obtain⟨o,ho,hc,hd⟩:=id hit;refine Wb Zuk hit.typeIs ZwK ?_ (Zw7 _);unfold Builtin.«reversed.__length_hint__»;refine Ya (Wg (a:=YC it) rfl ?_);refine Ya (YQ ho hd (x:=.ref l) rfl ?_);rw[if_neg (by simp)];refine Ya (len_tuple hl hfit ?_);refine Ya (m:=asInt? (.int _ _)) (Yc ?_);dsimp only;refine Ya (YQ ho hd (x:=rawInt ((items.size:Int) - 1)) rfl ?_);show YA _ _ (if (items.size:Int)<(items.size:Int) - 1+1 then _ else _) _ _ _;rw[if_neg (by lia),show(items.size:Int) - 1+1=items.size by lia];unfold retInt;refine Ya (wpAny_mkInt ?_);exact Yc ⟨_,rfl,hQ _ _ (by simp only;lia)⟩
def Zuj:typeLookup (.type "reversed") "__length_hint__" = pure (Wn (.builtin "reversed.__length_hint__")):=Zuk.lookup
end
end Rv
set_option tactic.hygienic true
namespace Tx
noncomputable def place(x:Str):List Str->Option Nat
 |[]=>Wo
 |y::r=>if y=x then Wn 0 else(place x r).map (·+1)
end Tx
noncomputable def Zgp(K:Yk):Bool:=K.all λp=>!Wt (p.2.cls=.type "tuple") || p.2.dict.isNone
namespace Rv
section
variable {prog:Yh}{w:Yg}{A:YG}{E:Yj->Yb->Prop}{s:Yb}
def ext(hh:A.handled=Wo)(hit:Is s.heap I l ((items.size:Int) - 1))(hl:IsTup s.heap l items)(hne:l≠I)(hz:items.size<=sizeLine)(hSI:S_≠I)(hSl:S_≠l)(res:Yj)(c₀:Nat)(hS1:s.heap.get? S_=Wn {cls:=.type "list",data:=.seq #[] c₀})
 (hR:∀s' acc c,Moved [S_,I] (λa b=>b=a) s s'->s'.heap.get? S_=Wn {cls:=.type "list",dict:=Wo,data:=.seq acc c,slots:=#[]}->ItemsOf (λi v=>items[items.size - 1 - i]? = Wn v) acc items.size->R (.ok (.ret res)) s') :
 YA (model prog w) A.in1 (Builtin.List.listExtendWith (.ref S_) (.ref I) res)
  (λfin s'=>match fin with|.done f=>R (.ok f) s'|.again c'=>c'.quiet=Wp/\codeAny (model prog w) A c' R s') (λe s'=>R (.error e) s') s:=by
 have W:=(walks (prog:=prog) (w:=w) (A:=A.in1) hh I l hne items hz).toS;have hst:0<=items.size/\Is s.heap I l ((items.size:Int) - 1 - ((0:Nat):Int))/\IsTup s.heap l items:=⟨Yw _,by simpa using hit,hl⟩
 have hSf:S_ ∉ [I,l]:=by simp only[O2,List.not_mem_nil,or_false,not_or];exact⟨hSI,hSl⟩
 have key:∀(s2:Yb) (c₁:Nat),Moved [S_] (λa b=>b=a) s s2->(0<=items.size/\Is s2.heap I l ((items.size:Int) - 1 - ((0:Nat):Int))/\IsTup s2.heap l items)->s2.heap.get? S_=Wn {cls:=.type "list",dict:=Wo,data:=.seq #[] c₁,slots:=#[]}->codeAny (model prog w) A (.builtin "list.extend.loop" ⟨[.ref S_,.ref I,res],[]⟩) R s2:=by intro s2 c₁ m2 hst2 hS2;refine codeAny_extend_loopS W hz S_ hSf res items.size 0 _ #[] c₁ rfl (Yw _) hst2 hS2 (ItemsOf.nil _) λs' acc' c' hm hS' hacc=>?_;refine hR s' acc' c' ⟨λb o hb e=>hm.heap b o hb (m2.heap b o (λh=>hb (by rw[Ox.mp h];exact Oi)) e),hm.gens.trans m2.gens,hm.drawn.trans m2.drawn,hm.os.trans m2.os,OE m2.toks hm.toks⟩ hS' hacc
 have e1:Builtin.List.listSameRef (.ref S_) (.ref I)=Wq:=by simp[Builtin.List.listSameRef,hSI]
 have hT:Shared.TypeIs s (.ref I) "reversed" := hit.typeIs;unfold Builtin.List.listExtendWith;refine Ya (wpAny_typeOf hT ?_);rw[if_neg (by rw[e1];decide)];refine Ya (W.self 0 _ _ _ hst (Ya (Wa ?_)));unfold Builtin.List.listLengthHint;refine Ya (wpAny_specialOf hT Zv3 ?_);show YA _ A.in1 (specialOf (YC I) (O "__length_hint__") >>= _) _ _ _;refine Ya (wpAny_specialOf hT Zuj ?_);have hsp:splitId "reversed.__length_hint__" = Wn ("reversed", "__length_hint__"):=by decide +kernel
 dsimp only;rw[hsp];dsimp only;refine Ya (wpAny_isInstance (b:=true) hT ZlC ?_);rw[if_neg (by decide),if_neg (by decide +kernel)];refine Ya (wpAny_rule (Ya (Wg (Zuk.bind _) ?_)));dsimp only;refine Ya (wpAny_attempt (Zrr (by simpa using hst.2.1) hst.2.2 hz λu tk htk=>?_));dsimp only;have ea:asInt? (Value.int (items.size:Int) u)=pure (Wn (items.size:Int)):=rfl;rw[ea];clear ea;generalize hk:(items.size:Int)=kk;refine Ya ?_;refine Yc ?_;dsimp only;have l1:Builtin.List.listFitsIndex kk=Wp:=by
  have:=ZbG;unfold Builtin.List.listFitsIndex;rw[Oa,decide_eq_true_iff,decide_eq_true_iff]
  lia
 have l2:Wh kk.toNat=Wq:=by
  unfold Wh;rw[decide_eq_false_iff_not]
  lia
 rw[if_neg (by rw[l1];decide),if_neg (by lia),if_neg (by rw[l2];decide)];refine Yc ?_;have m0:Moved [S_] (λa b=>b=a) s {s with toks:=tk}:=⟨λb o _ e=>e,rfl,rfl,rfl,htk⟩
 refine wpAny_ite_split (λ_=>?_) (λ_=>Yc ⟨plainId_quiet F.plain_extend_loop _,key _ c₀ m0 hst hS1⟩);refine Ya (wpAny_rule (Ya ?_));show YA _ A.in1 (updateSeq S_ (·.push .none) >>= λ_=>updateSeq S_ (·.pop)) _ _ _;refine Ya (wpAny_updateSeq hS1 rfl ?_);have hS2:=YV (Obj.mapSeq (·.push Value.none)) hS1 rfl;refine wpAny_updateSeq (hz:=by seq_fits) hS2 rfl ?_;have hS3:=YV (Obj.mapSeq (·.pop)) hS2 rfl;have oth:∀b o,b≠S_->s.heap.get? b=Wn o->((s.heap.update S_ (Obj.mapSeq (·.push Value.none))).update S_ (Obj.mapSeq (·.pop))).get? b=Wn o:=λb o hb e=>(YM _ _ (YK hb)).trans ((YM _ _ (YK hb)).trans e)
 have hst2:=W.frame 0 s _ tk hst htk λb hb o e=>oth b o (λh=>hSf (h ▸ hb)) e;refine Yc ⟨plainId_quiet F.plain_extend_loop _,key _ _ ⟨λb o hb e=>oth b o (λh=>hb (h ▸ Oi)) e,rfl,rfl,rfl,htk⟩ hst2 hS3⟩
def Zwf(hh:A.handled=Wo)(hit:Is s.heap I l ((items.size:Int) - 1))(hl:IsTup s.heap l items)(hne:l≠I)(hz:items.size<=sizeLine)(hSI:S_≠I)(hSl:S_≠l)(hS:s.heap.get? S_=Wn {cls:=.type "list",data:=.seq #[]})
 (hR:∀s' acc c,Moved [S_,I] (λa b=>b=a) s s'->s'.heap.get? S_=Wn {cls:=.type "list",dict:=Wo,data:=.seq acc c,slots:=#[]}->ItemsOf (λi v=>items[items.size - 1 - i]? = Wn v) acc items.size->R (.ok (.ret .none)) s') :
 YA (model prog w) A.in1 (Builtin.«list.__init__» ⟨[.ref S_,.ref I],[]⟩)
  (λfin s'=>match fin with|.done f=>R (.ok f) s'|.again c'=>c'.quiet=Wp/\codeAny (model prog w) A c' R s') (λe s'=>R (.error e) s') s:=by
 show YA _ _ (do let old <- Builtin.List.listItems (.ref S_);Builtin.List.listUpdate (.ref S_) (λ_=>#[]);letGo old.toList.reverse;Builtin.List.listExtendWith (.ref S_) (.ref I) .none) _ _ s;refine Ya ?_;unfold Builtin.List.listItems;refine Ya (wpAny_seqItems hS rfl (Yc ?_));show YA _ _ (updateSeq S_ (λ_=>#[]) >>= λ_=>letGo (#[]:Array Yj).toList.reverse >>= λ_=>Builtin.List.listExtendWith (.ref S_) (.ref I) .none) _ _ s;refine Ya (wpAny_updateSeq hS rfl ?_);have hS2:=YV (Obj.mapSeq (λ_=>(#[]:Array Yj))) hS rfl;have oth:∀b o,b≠S_->s.heap.get? b=Wn o->(s.heap.update S_ (Obj.mapSeq (λ_=>(#[]:Array Yj)))).get? b=Wn o:=λb o hb e=>(YM _ _ (YK hb)).trans e
 refine Ya (wpAny_letGo ?_);refine ext (l:=l) (items:=items) hh (hit.at λo e=>oth I o (YK hSI) e) (let ⟨o,e,r⟩:=hl;⟨o,oth l o (YK hSl) e,r⟩) hne hz hSI hSl .none _ hS2 λs' acc c hm hS' hacc=>hR s' acc c ⟨λb o hb e=>hm.heap b o hb (oth b o (λh=>hb (h ▸ Oi)) e),hm.gens,hm.drawn,hm.os,hm.toks⟩ hS' hacc
def Zrh(hh:A.handled=Wo)(hit:Is s.heap I l ((items.size:Int) - 1))(hl:IsTup s.heap l items)(hne:l≠I)(hz:items.size<=sizeLine)
 (hQ:∀s' acc c,(∀b o,b≠I->s.heap.get? b=Wn o->s'.heap.get? b=Wn o)->s'={s with heap:=s'.heap,toks:=s'.toks}->s'.heap.get? s.heap.objs.size=Wn {cls:=.type "list",dict:=Wo,data:=.seq acc c,slots:=#[]}->ItemsOf (λi v=>items[items.size - 1 - i]? = Wn v) acc items.size->Q (.ref s.heap.objs.size) s') :
 YA (model prog w) A (PySem.call (.type "list") [.ref I]) Q E s:=by
 refine callType_codes (Q₁:=λobj s₁=>obj=.ref s.heap.objs.size/\s₁={s with heap:=s.heap.push {cls:=.type "list",data:=.seq #[]}}) PySem.F.called_list (PySem.F.typeCall_list_1 _) PySem.F.entry_list_init
  (code_list_new _ ⟨rfl,rfl⟩) λobj s₁ h₁=>?_
 obtain⟨rfl,rfl⟩:=h₁;have hS:(s.heap.push {cls:=.type "list",data:=.seq #[]}).get? s.heap.objs.size=Wn {cls:=.type "list",data:=.seq #[]}:=Oj _ rfl;have lI:I<s.heap.objs.size:=by obtain⟨o,ho,_⟩:=hit;exact Ym ho
 have ll:l<s.heap.objs.size:=by obtain⟨o,ho,_⟩:=hl;exact Ym ho
 refine⟨⟨_,hS,rfl⟩,PySem.F.args_list_init_2 _ _,Zwf (A:=A.in1) (l:=l) (items:=items) hh (hit.at λo e=>Od _ e) (let ⟨o,e,r⟩:=hl;⟨o,Od _ e,r⟩) hne hz (Nat.ne_of_gt lI) (Nat.ne_of_gt ll) hS λs' acc c hm hS' hacc=>?_⟩;refine⟨rfl,hQ s' acc c (λb o hb e=>hm.heap b o (λh=>?_) (Od _ e)) ?_ hS' hacc⟩
 . rcases O2.mp h with q|q
   . exact absurd (Ym e) (by rw[q];exact Yv _)
   . exact hb (Ox.mp q)
 . have:=Moved.eq_with hm;rw[this]
end
end Rv
def Zqe(K:Yk)(ta:TA):TE:=λZ H Q=>ta Z H λvs H1=>∃a xs,vs=[.ref a]/\SqT K H1 a xs/\∀p,H1 p=Wo->Q (.ref p) (upd H1 p (.lst xs.reverse))
theorem Zm3 (hc:X.calm=Wp) (hgT:Gl X "list") (hmT:X.mg "list" = Wo) (hgR:Gl X "reversed") (hmR:X.mg "reversed" = Wo) (ha:PA X [l] ta)
   (hs:Yz [l] X.env=[(Wq,eval l X.env)]:=by rfl):PE X (.Call (.Name "list" p) [.Call (.Name "reversed" p2) [l] [] pos2] [] pos) (Zqe X.K ta):=by
 intro pins s Z H Q I h;refine Call_ (Zcm I hgT hmT boot_list (PyProof.Rows.callWith_type1 ?_ rfl rfl));show YA _ _ (spliced ((Wq,eval (.Call (.Name "reversed" p2) [l] [] pos2) X.env)::[])) _ _ s;refine Calls.spliced_cons ?_;refine Call_ (Zcm I hgR hmR boot_reversed (PyProof.Rows.callWith_type1 (thn (ha pos2 pins s Z H _ I h) fun us s1 ⟨vs,H1,I1,r1,q1⟩=>?_) hs rfl));obtain ⟨a,xs,rfl,hq,q⟩:=q1;obtain ⟨u,rfl,ru⟩:=vals1 r1;obtain rfl:u=YC a:=ru;obtain ⟨its,rv,pl,hz⟩:=I1.tuple hq;have hln:=rv.length;have hzz:its.toArray.size<=sizeLine:=by simp;lia
 refine Rv.call pl hzz (Calls.spliced_nil ?_);have hlt:a<s1.heap.objs.size:=by obtain ⟨o,ho,_⟩:=pl;exact Ym ho
 refine Rv.Zrh (I.ok.hd hc) (l:=a) (items:=its.toArray) ⟨_,Oj _ rfl,rfl,rfl⟩ (pl.push _) (Ou hlt) hzz fun s' acc c hk es hS hacc=>?_;have kp:∀ b o,s1.heap.get? b=Wn o->s'.heap.get? b=Wn o:=fun b o e=>hk b o (fun hb=>by
   rw [hb] at e;exact absurd (Ym e) (Yv _)) (Od _ e)
 have ea:acc.toList=its.reverse:=by
   apply List.ext_getElem?;intro j;rcases Nat.lt_or_ge j its.length with hj|hj
   . have hj':j<acc.size:=by rw [hacc.1];simpa using hj
     have e1:=hacc.2 j acc[j] (Array.getElem?_eq_getElem hj');rw [List.getElem?_reverse hj,Array.getElem?_toList,Array.getElem?_eq_getElem hj',<- e1];simp
   . rw [List.getElem?_eq_none (by have:=hacc.1;simp at this ⊢;lia),List.getElem?_eq_none (by simpa using hj)]
 have ev:acc=its.reverse.toArray:=by rw [<- ea]
 rw [ev] at hS;generalize hp:(s1.heap.push _).objs.size=pp at hS ⊢;have le:s1.heap.objs.size<=pp:=by rw [<- hp,Heap.size_push];lia
 have I3:Inv X pins Z (upd H1 pp (.lst xs.reverse)) {s1 with heap:=s'.heap,toks:=s'.toks}:=I1.laid (t':=s'.toks) kp le (show ZS X.prog X.w _ _ _ (.lst xs.reverse) from ⟨by simpa using hz,its.reverse,c,rv.reverse,hS⟩);rw [es];exact ⟨.ref pp,_,I3,rfl,q _ (I1.hok.fresh le)⟩
def Zwg(X:Cx)(hs:List ExceptHandler)(Q:Flow->Yb->Prop):Yj->Yb->Prop:=λe s₁=>YA (model X.prog X.w) X.A (noteFrame e X.env) (λ_ s₂=>YA (model X.prog X.w) X.A (setFlight e Wo) (λ_ s₃=>YA (model X.prog X.w) X.A (handleBy e X.env hs) Q X.xe s₃) X.xe s₂) X.xe s₁
section
variable {X:Cx}{cx:Str}{np hpos pos:Pos}{C2:Yi}{b0:Stmt}{suite body:List Stmt}
def Zm4(hgc:Gl X cx)(hmc:X.mg cx=Wn (.ref C2))(hC:ExcN X.K C2)(hstk:X.stack=X.env::X.outer)(hfrm:X.env.frame=Wn X.env.locals)
 (hdb2:(cx==("__debug__" : Str))=Wq) (hE:∀cls H',E1 cls Wo H'->YU X.K cls (.ref C2)=Wn Wp/\∀C,cls=.ref C->∀a oe s',oe.cls=cls->Inv (cxH X a oe) pins Z H' s'->YA (model X.prog X.w) (cxH X a oe).A (execs (b0::suite) X.env) Q (λ_ _=>False) s')
 (hcls:∀cls H',E1 cls Wo H'->∃C,cls=.ref C) (I1:Inv X pins Z H s) (hq:CXF X.prog X.w X.stack H s E1 e s'):Zwg X [.ExceptHandler (Wn (.Name cx np)) Wo (b0::suite) hpos] Q e s':=by
 obtain⟨a,cls,a0,H',B_,rfl,os,bare,un,hok,fl,kb,hna,h1⟩:=hq;obtain⟨C,rfl⟩:=hcls _ _ h1;obtain⟨hsub,hts⟩:=hE _ _ h1;have hfr:X.A.frames=Wn (X.env::X.outer):=by rw[<- hstk];exact I1.ok.frames
 have fl':Heap.FlyingW B_ (X.env::X.outer) a (.ref C) a0 s'.heap:=by rw[<- hstk];exact fl
 have I':=I1.call' (ch:=[]) os un hok bare (λb z=>absurd z (by simp));have hfo:∀b∈frs X.stack,∃o,s'.heap.get? b=Wn o/\∀vs,o.data≠.fields vs:=λb hb=>by obtain⟨_,o,q,nf⟩:=I'.stack.mem hb;exact⟨o,q,nf⟩
 have atH:∀h2:YF,B_.StaysIn h2->s'.heap.UpToSlots h2->∀tk,Inv X pins Z H' {s' with heap:=h2,toks:=tk}:=λh2 st up tk=>by obtain⟨r1,r2,_⟩:=ZcM un hok kb st up hfo;exact I1.call' (s':={s' with heap:=h2,toks:=tk}) (ch:=[]) os r1 r2 bare (λb z=>absurd z (by simp))
 refine wpAny_looks_onW hfr hfrm fl' λh4 held4 up4=>?_;refine wpAny_landsW held4 λh5 fl5 up5=>?_;have I5:Inv X pins Z H' {s' with heap:=h5}:=atH h5 fl5.1 (up4.trans up5) s'.toks;refine wpAny_handleBy_cons (codeAny_handlers_test (Zbv (X:=cxM X a) (I5.toM a) hgc hmc ?_ hdb2)) (by intro q;cases q);obtain⟨oe,hoe,hoc⟩:=fl5.there;refine ZfT (s:={s' with heap:=h5}) I5.kIn hC.ty hC.cls hC.exc hsub hoe hoc (codeAny_handlers_suite ?_);refine lands_againW fl5 λh6 fl6 up6=>?_;have I6:Inv X pins Z H' {s' with heap:=h6}:=atH h6 fl6.1 ((up4.trans up5).trans up6) s'.toks;obtain⟨oe6,ws,hoe6,hoc6,hod6,_⟩:=fl6.first;have hnl:a≠X.env.locals:=λz=>by obtain⟨m,⟨o,es',ep,ho,hd,_⟩,_⟩:=I6.loc;rw[<- z,hoe6]at ho;cases ho;rw[hod6]at hd;cases hd
 have hnf:a ∉ X.fs:=λz=>by obtain⟨_,o,q,nf⟩:=I6.funs.mem z;rw[hoe6]at q;cases q;exact nf _ hod6
 have IH:Inv (cxH X a oe6) pins Z H' {s' with heap:=h6}:=I6.toH hoe6 hna hnl hnf (λv z=>by rw[hod6]at z;cases z);exact Yf (hts C rfl a oe6 _ hoc6 IH) (λ_ _ z=>z) λ_ _ z=>z.elim
end
noncomputable def ZxC(d:PyData):Bool:=isDisplay d&&(PyData.showable d&&(PyData.intsShort 13 d&&(Wt (PyData.weight d<=2 ^ 20)&&Wt (PyData.depth d<=1000))))
structure XAs(K:Yk)(a b:Yi):Prop extends ExcN K a where
 sub:YU K (.ref b) (.ref a)=Wn Wp
 at':ExcA K b
 one:PySem.W.kitOne K (.ref b) (.ref b)=Wn Wp
def ZnG{n a b:Nat}(ha:a<n)(hb:b<n):ZipApart (n+4) (n+2) (n+3) n (n+1) a b:=by constructor<;>lia
structure ZL(n a b i:Nat)(f0:Yj)(h:YF):Prop where
 zip:IsZip h (n+4) (n+2) (n+3) f0
 ti:IsPair h (n+2) (.ref n) (.ref (n+1))
 to:∃c d,IsPair h (n+3) c d
 i1:h.IsListIter n a i
 i2:h.IsListIter (n+1) b i
def ZuS(K:Yk)(a b:Yi):It:=⟨λi H=>∃xs ys x y,SqL K H a xs/\SqL K H b ys/\xs[i]? = Wn x/\ys[i]? = Wn y,λi H v H'=>∃p x y,v=.ref p/\H p=Wo/\(∀xs,SqL K H a xs->xs[i]? = Wn x)/\(∀ys,SqL K H b ys->ys[i]? = Wn y)/\H'=upd H p (.tup [x,y]),λi H=>∃xs ys,SqL K H a xs/\SqL K H b ys/\xs.length=i⟩
theorem ZmJ{P:Yh}{w:Yg}{K:Yk}{es:List Expr}{kk:Nat}{tp:Pos}{n a b:Yi}(ha:a<n)(hb:b<n):Turn P w K (.Tuple es kk tp) (ZuS K a b) [n+4,n+3,n,n+1,n+2] (n+4) (fun i h=>ZL n a b i .none h) where
 mem:=by simp
 obj:=fun i h st c hc=>by
   obtain ⟨z0,z1,⟨_,_,z2⟩,⟨o3,z3,_,d3⟩,o4,z4,_,d4⟩:=st;simp only [O2,List.not_mem_nil,or_false] at hc;rcases hc with rfl|rfl|rfl|rfl|rfl
   . exact ⟨_,z0,nofun⟩
   . exact ⟨_,z2,nofun⟩
   . exact ⟨o3,z3,fun v z=>by rw [d3] at z;cases z⟩
   . exact ⟨o4,z4,fun v z=>by rw [d4] at z;cases z⟩
   . exact ⟨_,z1,nofun⟩
 keep:=fun i h h' st k=>by
   obtain ⟨z0,z1,⟨_,_,z2⟩,z3,z4⟩:=st;exact ⟨k _ (by simp) _ z0,k _ (by simp) _ z1,⟨_,_,k _ (by simp) _ z2⟩,z3.at fun o e=>k _ (by simp) o e,z4.at fun o e=>k _ (by simp) o e⟩
 item:=by
   intro X hP hw hK hc i pins s Z H E I hf st hg;subst hP hw hK;obtain ⟨xs,ys,x,y,hq,hr,hx,hy⟩:=hg;obtain ⟨its,rv,p,hz⟩:=I.list hq;obtain ⟨jts,rv',p',hz'⟩:=I.list hr;obtain ⟨u,hu,ru⟩:=rv.get hx;obtain ⟨v,hv,rw'⟩:=rv'.get hy;obtain ⟨z0,z1,⟨c0,d0,z2⟩,z3,z4⟩:=st;have l4:n+4<s.heap.objs.size:=Ym z0;refine wpAny_pyNext_zip_item (ZnG ha hb) z0 z1 z2 z3 z4 p.isList p'.isList (by simpa using hu) (by simpa using hv) fun h1 a1 a2 a3 a4 a5 a6 k1=>⟨_,rfl,wpAny_letOwnedTupleGo_zip a1 fun h2 y2 s2=>?_⟩
   have nT:s.heap.objs.size ∉ [n+4,n+3,n,n+1,n+2]:=by simp only [O2,List.not_mem_nil,or_false];lia
   have tup2:ZaW h2 s.heap.objs.size #[u,v]:=⟨_,s2.extBut _ _ (by lia) a5,rfl,rfl,_,rfl⟩
   have I2:Inv X pins Z (upd H s.heap.objs.size (.tup [x,y])) {s with heap:=h2,toks:=s.toks}:=I.turnT hf (fun c o hc e=>by
     simp only [O2,List.not_mem_nil,or_false,not_or] at hc;exact s2.extBut _ _ hc.1 (k1 c o hc.1 hc.2.1 hc.2.2.1 hc.2.2.2.1 e)) (Oq _) (us:=[u,v]) tup2 (.cons ru (.cons rw' .nil)) (by show 2<=sizeLine;decide)
   refine ⟨.ref s.heap.objs.size,_,I2,rfl,⟨_,x,y,rfl,I.hok.fresh (Oq _),fun zs hz=>by rw [I.list_inj hz hq];exact hx,fun zs hz=>by rw [I.list_inj hz hr];exact hy,rfl⟩,⟨y2,s2.extBut _ _ (by lia) (k1 _ _ (by lia) (by lia) (by lia) (by lia) z1),⟨_,_,s2.extBut _ _ (by lia) a2⟩,a3.at fun o e=>s2.extBut _ _ (by lia) e,a4.at fun o e=>s2.extBut _ _ (by lia) e⟩,fun c hc=>?_⟩;rw [Zk (fun z=>nT (by rw [<- z];exact hc))];exact (hf c hc).1
 done:=by
   intro X hP hw hK hc i pins s Z H E I hf st hg;subst hP hw hK;obtain ⟨xs,ys,hq,hr,hx⟩:=hg;obtain ⟨its,rv,p,hz⟩:=I.list hq;obtain ⟨jts,rv',p',hz'⟩:=I.list hr;have hl:=rv.length;obtain ⟨z0,z1,⟨c0,d0,z2⟩,z3,z4⟩:=st;exact wpAny_pyNext_zip_end (I.ok.hd hc) (ZnG ha hb) z0 z1 z2 z3 z4 p.isList p'.isList (.inl (by simp;lia)) fun h1 k1=>⟨rfl,I.turnL (t':=s.toks) hf fun c o hc e=>by
     simp only [O2,List.not_mem_nil,or_false,not_or] at hc;exact k1 c o hc.1 hc.2.1 hc.2.2.1 hc.2.2.2.1 e⟩
 self:=fun A i s Q E st h=>wpAny_pyIter_zip st.zip h
def Zwv(K:Yk)(ta:TA):TI:=λZ H R=>ta Z H λvs H1=>∃a b,vs=[.ref a,.ref b]/\(∃xs,SqL K H1 a xs)/\(∃ys,SqL K H1 b ys)/\R (ZuS K a b) H1
def ZqG{X:Cx}{es:List Expr}{kk:Nat}{tp:Pos}{l m:Expr}{ta:TA}{p pos:Pos}(hg:Gl X "zip")(hm:X.mg "zip" = Wo)(ha:PA X [l,m] ta)(hs:Yz [l,m] X.env=[(Wq,eval l X.env),(Wq,eval m X.env)])(hs2:Yz [m] X.env=[(Wq,eval m X.env)]):
 PI X (.Tuple es kk tp) (.Call (.Name "zip" p) [l,m] [] pos) (Zwv X.K ta):=by
 intro pins s Z H R I h;refine Call_ (Zcm I hg hm boot_zip (PyProof.Rows.callWith_type1 (thn (ha pos pins s Z H _ I h) λus s1 ⟨vs,H1,I1,r1,q1⟩=>?_) (by rw[hs,hs2]) (by rw[hs2];rfl)));obtain⟨a,b,rfl,⟨xs,hq⟩,⟨ys,hr⟩,q⟩:=q1;obtain⟨u,v,rfl,ru,rv⟩:=vals2 r1;obtain rfl:u=YC a:=ru;obtain rfl:v=YC b:=rv;obtain⟨its,_,pt,_⟩:=I1.list hq;obtain⟨jts,_,pt',_⟩:=I1.list hr;have la:a<s1.heap.objs.size:=by obtain⟨_,_,e,_⟩:=pt;exact Ym e
 have lb:b<s1.heap.objs.size:=by obtain⟨_,_,e,_⟩:=pt';exact Ym e
 refine call_zip_2 pt.isList pt'.isList λh1 z0 z1 z2 z3 z4 _ kp=>wpAny_pyIter_zip z0 ⟨s1.heap.objs.size+4,_,_,_,H1,rfl,I1.kept (t':=s1.toks) kp,ZmJ la lb,⟨z0,z1,⟨_,_,z2⟩,z3,z4⟩,λc hc=>?_,q⟩;have le:s1.heap.objs.size<=c:=by simp only[O2,List.not_mem_nil,or_false]at hc;lia
 exact I1.fpOk le (I1.hok.fresh le)
noncomputable def ZsX:List Nat->List (List Nat)
 |[]=>[[]]
 |c::r=>if c=32 then []::ZsX r else match ZsX r with
  |[]=>[[c]]
  |w::ws=>(c::w)::ws
noncomputable def Zwn:List (List Nat)->List Nat
 |[]=>[]
 |w::r=>match r with
  |[]=>w
  |_::_=>w++32::Zwn r
noncomputable def tx(l:List Nat):Str:=⟨l.toArray⟩
def ZsW(x:Str):List Str:=(ZsX x.cps.toList).map tx
noncomputable def blk:Str:=O " "
def Zwm(ss:List Str):Str:=tx (Zwn (ss.map (·.cps.toList)))
open Builtin Builtin.Str in
open Builtin Builtin.Str in
open Builtin Builtin.Str in
open Builtin Builtin.Str in
open Builtin Builtin.Str in
def ClV(mg:Str->Option Yj)(W:Str)(v:Yj):Prop:=(mg W=Wn v/\∃a,v=.ref a)\/(W=O "ValueError" /\ mg W=Wo/\v=.type "ValueError")
def ClV.one(h:ClV mg W v)(h':ClV mg W v'):v=v':=by
 rcases h with ⟨m,_⟩|⟨_,m,e⟩
 . rcases h' with ⟨m',_⟩|⟨_,m',_⟩
   . exact YE (m.symm.trans m')
   . rw[m]at m';cases m'
 . rcases h' with ⟨m',_⟩|⟨_,_,e'⟩
   . rw[m]at m';cases m'
   . rw[e,e']
def Ztv{X:Cx}(h:ClV X.mg W v)(g:Gl X W)(d:(W==("__debug__" : Str))=Wq):∃c,RelV c v/\∀pos,PE X (.Name W pos) (tC c):=by
 rcases h with ⟨m,a,rfl⟩|⟨rfl,m,rfl⟩
 . exact⟨.ref a,rfl,λ_=>ZlU g m rfl d⟩
 . exact⟨.ty "ValueError",rfl,λ_=>ZlW g m ZwU rfl (by decide) d⟩
def Kinds(mg:Str->Option Yj)(K:Yk)(c:Yi):List Str->List Bool->Prop
 |[],bs=>bs=[]
 |W::Ws,bs=>∃b r v,bs=b::r/\ClV mg W v/\PySem.W.kitOne K (.ref c) v=Wn b/\Kinds mg K c Ws r
def ZaY(m:Str):List Str->List Expr->Prop
 |[],ys=>ys=[]
 |W::Ws,ys=>∃ip mp wp cp r,ys=.Call (.Name (O "isinstance") ip) [.Name m mp,.Name W wp] [] cp::r/\ZaY m Ws r
noncomputable def Zxu(X:Cx)(a:Yi)(oe:Obj)(ie:Nat)(Ws:List Str):TA:=λZ H Q=>∃c bs,oe.cls=.ref c/\ExcA X.K c/\Kinds X.mg X.K c Ws bs/\Z[ie]? = Wn (Wn (.ref a))/\Q (bs.map V.bl) H
theorem ZoD{X:Cx}{ie:Nat}{m:Str}{a:Yi}{oe:Obj}(hgi:Gl X (O "isinstance"))(hmi:X.mg (O "isinstance")=Wo)(hie:X.N[ie]? = Wn m)(hl:X.env.scope.names.lookup m=Wn .local)(hdm:(m==("__debug__" : Str))=Wq)(hcm:(m==("__classdict__" : Str))=Wq):
 ∀{Ws ys},ZaY m Ws ys->(∀W∈Ws,Gl X W/\(W==("__debug__" : Str))=Wq/\∃v,ClV X.mg W v)->PA (cxH X a oe) ys (Zxu X a oe ie Ws)
 |[],ys,h,_=>by subst h;intro pos pins s Z H Q I ⟨c,bs,_,_,k,_,q⟩;cases (show bs=[]from k);exact Zck pos pins s Z H Q I q
 |W::Ws,ys,h,g=>by obtain⟨ip,mp,wp,cp,r,rfl,h⟩:=h;obtain⟨g1,g2,v,cv⟩:=g W (.head _);obtain⟨c0,rc,pw⟩:=Ztv (X:=cxH X a oe) cv g1 g2;have ih:=ZoD (oe:=oe) (a:=a) hgi hmi hie hl hdm hcm h λW' hW=>g W' (.tail _ hW);have pc:=Zah (ZbD (X:=cxH X a oe) (p:=ip) (pos:=cp) ZiR hgi hmi (by decide +kernel) (Zah (Zor (pos:=mp) hie (.inl hl) hdm hcm) (Zah (pw wp) Zck))) ih;intro pos pins s Z H Q I ⟨c,bs,hc,hA,k,hs,q⟩;obtain⟨b,r',v',rfl,cv',ko,k⟩:=k;cases cv.one cv';exact pc pos pins s Z H Q I ⟨_,hs,a,oe,c,c0,v,b,rfl,Ov _ (Ox.mpr rfl),hc,hA,rc,ko,c,r',hc,hA,k,hs,q⟩
def Znl{X:Cx}{i ie:Nat}{n m:Str}{a:Yi}{oe:Obj}(hgi:Gl X (O "isinstance"))(hmi:X.mg (O "isinstance")=Wo)(hN:X.N.Nodup)(hi:X.N[i]? = Wn n)(hx:Loc X.env.scope n)(hf:X.fn n=Wp\/X.env.scope.names.lookup n=Wn .local)(hie:X.N[ie]? = Wn m)(hl:X.env.scope.names.lookup m=Wn .local)(hdm:(m==("__debug__" : Str))=Wq)(hcm:(m==("__classdict__" : Str))=Wq)
 (h:ZaY m Ws ys) (g:∀W∈Ws,Gl X W/\(W==("__debug__" : Str))=Wq/\∃v,ClV X.mg W v) :
 PSs (cxH X a oe) [.Assign [.Name n px] (.List ys lp) ap] (λ(D:Ends) (Z:St) (H:Hp)=>∃(c:Yi) (bs:List Bool) (σ0:St),oe.cls=.ref c/\ExcA X.K c/\Kinds X.mg X.K c Ws bs/\Z=σ0.set ie (Wn (.ref a))/\bs.length<=sizeLine/\∀p,H p=Wo->D.nx (Z.set i (Wn (.ref p))) (upd H p (.lst (bs.map V.bl)))):=by
 have hp:=ZlQ (ZkC (X:=cxH X a oe) (i:=i) (pos:=ap) (pos':=px) hN hi hx (Zow (pos:=lp) (ZoD (oe:=oe) (a:=a) hgi hmi hie hl hdm hcm h g)) rfl hf);intro pins s Z H D I ⟨c,bs,σ0,hc,hA,k,e,hz,q⟩;have hl:ie<σ0.length:=by have:=I.len;rw[e,List.length_set]at this;rw[this];exact(Ob.mp hie).1
 exact hp pins s Z H D I ⟨c,bs,hc,hA,k,by rw[e];exact Ol hl,by rw[Yt];exact hz,q⟩
def KyS(K:Yk)(H:Hp)(b:Yi)(k:NK):Prop:=∃c,SqT K H b [.int k.1,.ref c]/\SqT K H c (k.2.map .str)
theorem Zjf:∀{ks:List Str}{us:List Yj},Zj (ks.map V.str) us->ItemsAre (PySem.strKind P w) ks us
 |[],_,r=>by rw[Oy]at r;cases r;exact .nil
 |k::ks,_,r=>by
  rw[Op]at r;cases r with
  |cons h t=>obtain⟨t',rfl⟩:=h;exact .cons (by show Value.isStrOf k (.str k t')=Wp;simp[Value.isStrOf]) (Zjf t)
abbrev KN(K:Yk)(H:Hp):List (NK×V)->List (NK×Yi×Yj)->Prop:=Paired λp q=>p.1=q.1/\KyS K H q.2.1 p.1/\RelV p.2 q.2.2
def KN.val{K:Yk}(r:KN K H kvs xs)(k:NK):Zd6 (Zbz kvs k) ((atKey xs k).map (·.2)):=by
 induction r with
 |nil=>exact True.intro
 |@cons p q ps qs h t ih=>
  obtain⟨h1,_,h2⟩:=h;by_cases e:p.1=k
  . rw[Zgn e,show atKey (q::qs) k=Wn q.2 by simp[atKey,Wj,h1.symm.trans e]];exact h2
  . have e':¬ q.1=k:=λz=>e (h1.trans z);rw[Zgo e,show atKey (q::qs) k=atKey qs k by simp[atKey,Wj,e']];exact ih
def KN.put{K:Yk}(r:KN K H kvs xs)(k:NK)(hb:KyS K H b k)(ry:RelV y u):KN K H (putK kvs k y) (storedH xs k b u):=by
 have e:(kvs.any λkv=>Wt (kv.1=k))=(atKey xs k).isSome:=by rw[Zi7,(r.val k).isSome_eq,Option.isSome_map]
 unfold putK storedH;rw[e];by_cases q:(atKey xs k).isSome=Wp
 . rw[if_pos q,if_pos q];clear e q;induction r with
   |nil=>exact .nil
   |@cons p q ps qs h t ih=>
    refine .cons ?_ ih;obtain⟨h1,h2,h3⟩:=h;show(if p.1=k then(p.1,y)else p).1=(putAt k u q).1/\KyS K H (putAt k u q).2.1 (if p.1=k then(p.1,y)else p).1/\RelV (if p.1=k then(p.1,y)else p).2 (putAt k u q).2.2;unfold putAt;by_cases e:p.1=k
    . rw[if_pos e,if_pos (h1.symm.trans e)];exact⟨h1,h2,ry⟩
    . rw[if_neg e,if_neg (λz=>e (h1.trans z))];exact⟨h1,h2,h3⟩
 . rw[if_neg q,if_neg q];exact Paired.snoc r ⟨rfl,hb,ry⟩
section
variable {X:Cx}{pins:List (Yi×Obj)}{Z:St}{H:Hp}{s:Yb}{a:Yi}
def Inv.nk(I:Inv X pins Z H s)(h:KyS X.K H b k):Zd7 X.prog X.w s.heap k b:=by
 obtain⟨c,h1,h2⟩:=h;obtain⟨its,r,⟨o,e,cl,n,d⟩,_⟩:=I.tuple h1;obtain⟨its2,r2,⟨o2,e2,cl2,n2,d2⟩,_⟩:=I.tuple h2;cases r with
 |cons ra t=>cases t with
  |cons rb t=>cases t;obtain⟨t,rfl⟩:=ra;cases (show _=YC c from rb);exact⟨o,t,c,n,e,cl,d,o2,its2.toArray,n2,e2,cl2,d2,by simpa using Zjf r2⟩
def Inv.dn(I:Inv X pins Z H s)(h:H a=Wn (.dT xs))(r:KN X.K H kvs xs):xs.length<=sizeLine/\(a==Ye)=Wq/\s.heap.DictOfH (Zes X.prog X.w) a xs:=by
 obtain⟨z,m,o,es,ep,e,ex,d,el,nd⟩:=(show ZS X.prog X.w H s.heap a (.dT xs)from I.hok a _ h)
 refine⟨z,m,o,es,ep,e,ex,d,el,?_,nd⟩;clear h z e el nd;induction r with
 |nil=>intro x hx;exact nomatch hx
 |@cons p q ps qs hq t ih=>
  intro x hx;rcases O2.mp hx with rfl|hx
  . have:=I.nk hq.2.1;rw[hq.1]at this;exact this
  . exact ih x hx
def Zgf(hr:Room k X.A):(Zes X.prog X.w).room X.A.in1:=by
 have:=hr.un;show X.A.units+1+1<cLine
 lia
def ZvG(K:Yk)(neg:Bool):R2:=λx y H Q=>∃a b kvs xs k,y=.ref a/\x=.ref b/\KyS K H b k/\H a=Wn (.dT xs)/\KN K H kvs xs/\Q (.bl (if neg then !(Zbz kvs k).isSome else(Zbz kvs k).isSome)) H
def ZtD(hr:Room n X.A):OpR X (YL .In) (ZvG X.K Wq):=by intro pins s Z H x y v u Q I rx ry h;obtain⟨a,b,kvs,xs,k,rfl,rfl,hb,ha,rel,q⟩:=h;cases rx;cases ry;obtain⟨z,hm,dd⟩:=I.dn ha rel;refine wpAny_in_heap (knd:=Zes X.prog X.w) (Zgf hr) (I.nk hb) hm dd ?_;have e:=(rel.val k).isSome_eq;rw[Option.isSome_map]at e;rw[<- e];exact⟨.bl _,H,I.tok _,rfl,q⟩
def Zm5(hr:Room n X.A):OpR X (YL .NotIn) (ZvG X.K Wp):=by intro pins s Z H x y v u Q I rx ry h;obtain⟨a,b,kvs,xs,k,rfl,rfl,hb,ha,rel,q⟩:=h;cases rx;cases ry;obtain⟨z,hm,dd⟩:=I.dn ha rel;refine wpAny_notIn_heap (knd:=Zes X.prog X.w) (Zgf hr) (I.nk hb) hm dd ?_;have e:=(rel.val k).isSome_eq;rw[Option.isSome_map]at e;rw[<- e];exact⟨.bl _,H,I.tok _,rfl,q⟩
def ZxR(K:Yk):R2:=λx y H Q=>∃a b kvs xs k v,x=.ref a/\y=.ref b/\KyS K H b k/\H a=Wn (.dT xs)/\KN K H kvs xs/\Zbz kvs k=Wn v/\Q v H
def Zwo(hr:Room n X.A):IxR X (ZxR X.K):=by intro value slice pins s Z H x y v u Q I rx ry h hs;obtain⟨a,b,kvs,xs,k,z,rfl,rfl,hb,ha,rel,hv,q⟩:=h;cases rx;cases ry;obtain⟨_,hm,dd⟩:=I.dn ha rel;obtain⟨w',hw,rw'⟩:=Zd6.some_of (v:=z) (o:=(atKey xs k).map (·.2)) (by rw[<- hv];exact rel.val k);obtain⟨p,hp,hp2⟩:=Oo.mp hw;exact subscriptTail_builtinR (x:=w') dd.typeIs PySem.F.slot_dict_getitem.lookup (wpAny_getItem_heap (knd:=Zes X.prog X.w) (Zgf hr) (I.nk hb) dd hp (by rw[hp2];exact⟨rfl,z,H,I.tok _,rw',q⟩)) hs
def Zvv(K:Yk):ZnB:=λo i v H Q=>∃a b kvs xs k,o=.ref a/\i=.ref b/\KyS K H b k/\H a=Wn (.dT xs)/\KN K H kvs xs/\kvs.length<sizeLine/\∀r,RelV v r->Q (upd H a (.dT (storedH xs k b r)))
def Zs1(hr:Room n X.A):ZnD X (Zvv X.K):=by
 intro pins s Z H o i v ov iv u Q I ro ri rv h;obtain⟨a,b,kvs,xs,k,rfl,rfl,hb,ha,rel,l,q⟩:=h;cases ro;cases ri;obtain⟨z,hm,dd⟩:=I.dn ha rel;refine wpAny_setItem_heap (hsz:=z) (knd:=Zes X.prog X.w) (Zgf hr) (I.nk hb) dd λh' dd' hs=>⟨_,?_,q u rv⟩
 obtain⟨o',es,ep,hq,h2,h3,h4,_,h5⟩:=dd';have hl:(storedH xs k b u).length<=sizeLine:=by
  have e1:=Paired.length (rel.put (b:=b) (u:=u) k hb rv);have:=Zdi kvs k v
  lia
 exact I.write (x:=a) (e:=a) (by rw[ha];exact True.intro) (.inl rfl) (λc q hc z=>(hs.2 c hc).trans z) ⟨_,hq⟩ (show ZS X.prog X.w _ h' a (.dT (storedH xs k b u))from⟨hl,hm,o',es,ep,hq,h2,h3,h4,h5⟩)
def ZsT:TE:=λ_ H Q=>∀p,H p=Wo->Q (.ref p) (upd H p (.dT []))
def Zoz:PE X (.Dict [] [] pos) ZsT:=λpins s Z H Q I h=>wpAny_Dict_empty ⟨.ref s.heap.objs.size,_,I.laid (a:=s.heap.objs.size) (o:=.dT []) (t':=s.toks) (λ_ _ q=>Od _ q) (Oq _) (show ZS X.prog X.w _ _ _ (.dT [])from⟨Yw _,beq_eq_false_iff_ne.mpr (YK (Ou I.big)),_,#[],0,Oj _ rfl,⟨rfl,rfl,rfl⟩,rfl,rfl,List.nodup_nil⟩),rfl,h _ (I.hok.fresh (Oq _))⟩
end
end L2
namespace L2
open PySem PySem.Spec PyProof.Rows
open AutoSeq1 (wpAny_loadPart')
def range_any(bs:List Bool):(List.range bs.length).any (λi=>bs.getD i Wq)=bs.any id:=by
 have:=range_all (bs.map λb=>!b);rw[Yt]at this;have e1:(List.range bs.length).any (λi=>bs.getD i Wq)=!((List.range bs.length).all λi=>(bs.map λb=>!b).getD i Wq):=by
  rw[List.not_all_eq_any_not,Bool.eq_iff_iff,List.any_eq_true,List.any_eq_true];have z:∀i∈List.range bs.length,bs.getD i Wq=!((bs.map λb=>!b).getD i Wq):=λi hi=>by have hi:=List.mem_range.mp hi;rw[List.getD_eq_getElem?_getD,List.getD_eq_getElem?_getD,On,Og hi];simp
  exact⟨λ⟨i,hi,h⟩=>⟨i,hi,by rw[<- z i hi];exact h⟩,λ⟨i,hi,h⟩=>⟨i,hi,by rw[z i hi];exact h⟩⟩
 rw[e1,this,List.not_all_eq_any_not,List.any_map];congr 1;funext b;cases b<;>rfl
section
variable {X:Cx}
def Znw(hc:X.calm=Wp):Zad X (.builtin "any") (λxs H Q=>∃(a:Yi) (bs:List Bool),xs=[.ref a]/\SqL X.K H a (bs.map V.bl)/\Q (.bl (bs.any id)) H):=by
 intro pins s Z H xs us Q I r h;obtain⟨a,bs,rfl,hx,q⟩:=h;obtain⟨u,rfl,rx⟩:=vals1 r;obtain rfl:u=YC a:=rx;obtain⟨its,rv,pl,hz⟩:=I.list hx;have hlt:a<s.heap.objs.size:=by obtain⟨_,_,e,_⟩:=pl;exact Ym e
 have hl:its.length=bs.length:=by have:=rv.length;rw[Yt]at this;exact this.symm
 refine call_any_walk (wpAny_pyIter_list pl.isList ?_);refine⟨s.heap.objs.size,_,_,_,_,_,λi=>bs.getD i Wq,rfl,Walks.list (A:=X.A.in1) (show X.A.in1.handled=Wo from I.ok.hd hc) s.heap.objs.size a (Ou hlt) its.toArray,⟨⟨_,Oj _ rfl,rfl,rfl⟩,pl.isList.push _⟩,?_,λh' tk hk=>?_⟩
 . intro i v s' Q' E' hv hq;have hv':its[i]? = Wn v:=by simpa using hv
   have hi:i<bs.length:=by rw[<- hl];exact(Ob.mp hv').1
   have hb:(bs.map V.bl)[i]? = Wn (.bl bs[i]):=by rw[On,Og hi]<;>rfl
   obtain⟨u',e',r'⟩:=rv.get hb;rw[hv']at e';cases e';obtain rfl:v=Value.bool bs[i]:=r';refine wpAny_truthy_bool ?_;have e:bs.getD i Wq=bs[i]:=by rw[List.getD_eq_getElem?_getD,Og hi]<;>rfl
   rw[<- e];exact hq
 . refine⟨.bl (bs.any id),H,I.kept λb o e=>hk b o (λz=>?_) (Od _ e),?_,q⟩
   . have:b=s.heap.objs.size:=by simpa using z
     subst this;exact absurd (Ym e) (Yv _)
   . rw[<- range_any];show Value.bool ((List.range its.toArray.size).any _)=_;rw[Of,hl]
def Zhr{prog:Yh}{w:Yg}{A:YG}{E:Yj->Yb->Prop}{s:Yb}{Q₁:Yj->Yb->Prop}(K:PySem.W.KdlSrc prog w T r d n P OK)(hh:A.handled=Wo)(hok:OK s.heap)(hn:n<=sizeLine)
 (h:∀(h':YF) (tk:Nat) (acc:Array Yj),s.heap.objs.size<=h'.objs.size->(∀b o,s.heap.get? b=Wn o->h'.get? b=Wn o)->ItemsOf P acc n->Q₁ (.ref h'.objs.size) {s with heap:=h'.push {cls:=.type "tuple",data:=.seq acc},toks:=tk}) :
 codeAny (model prog w) A (.call (.builtin "tuple.__new__") ⟨[.type "tuple",.ref r],[]⟩) (wants Q₁ E) s:=by
 refine codeAny_of_tree ?_;show YA _ A.in1 (do checkBuiltinCall "tuple.__new__" ⟨[.type "tuple",.ref r],[]⟩;again (.builtin "tuple.__new__" ⟨[.type "tuple",.ref r],[]⟩)) _ _ s;refine Ya (Wg (PySem.F.newCall_tuple_1 _) (Yc ⟨plainId_quiet PySem.F.plain_tuple_new _,codeAny_builtin PySem.F.entry_tuple_new ?_⟩));rw[Around.under_plainId PySem.F.plain_tuple_new _];have hsub:=sub_tuple_self;have hinit:=init_tuple_lookup;have hmh:=madeHere_tuple;have hTI:=K.type s hok;have hh2:A.in1.handled=Wo:=hh;have hh3:A.in1.in1.handled=Wo:=hh;have nt:=K.notTuple
 wp_walk using wpAny_typeOf hTI,Zdt K hh2 hok hn,Zdt K hh3 hok hn
 intro h' tk acc hsz hk hacc;show YA _ _ (Builtin.Tuple.tupleExact acc.toList.toArray >>= λv=>ret v) _ _ _;unfold Builtin.Tuple.tupleExact;refine Ya (Yq ?_ (by show acc.toList.toArray.size<=sizeLine;simp only[Array.toArray_toList];rw[hacc.1];exact hn));refine Yc ?_;have e:acc.toList.toArray=acc:=by simp
 rw[e];exact h h' tk acc hsz hk hacc
def Zhc{prog:Yh}{w:Yg}{A:YG}{E:Yj->Yb->Prop}{s:Yb}{Q:Yj->Yb->Prop}(K:PySem.W.KdlSrc prog w T r d n P OK)(hh:A.handled=Wo)(hok:OK s.heap)(hn:n<=sizeLine)
 (h:∀(h':YF) (tk:Nat) (acc:Array Yj),s.heap.objs.size<=h'.objs.size->(∀b o,s.heap.get? b=Wn o->h'.get? b=Wn o)->ItemsOf P acc n->Q (.ref h'.objs.size) {s with heap:=h'.push {cls:=.type "tuple",data:=.seq acc},toks:=tk}) :
 YA (model prog w) A (call (.type "tuple") [.ref r]) Q E s:=by
 refine callType_codes (Q₁:=λobj s₁=>s₁.TypeIs obj "tuple" /\ Q obj s₁) PySem.F.called_tuple (PySem.F.typeCall_tuple_1 _) PySem.F.entry_object_init
  (Zhr K hh hok hn λh' tk acc hsz hk hacc=>⟨⟨_,Oj _ rfl,rfl⟩,h h' tk acc hsz hk hacc⟩) λobj s₁ h₁=>?_
 exact⟨h₁.1,PySem.F.args_object_init_2 obj _,object_init_meets PySem.F.called_tuple.init.lookup PySem.F.called_tuple.made (by decide) prog w A.in1 _ s₁ ⟨h₁.1,rfl,h₁.2⟩⟩
def Zqt(P:Yh)(w:Yg)(K:Yk):List V->Hp->VK->Prop:=λxs H Q=>∃a kvs,∃ss:List Str,xs=[.ref a]/\Dk P w K H a kvs/\kvs.map (·.1)=ss.map YD/\∀p,H p=Wo->Q (.ref p) (upd H p (.tup (ss.map V.str)))
def Zj7(hc:X.A.handled=Wo):Zad X (.type "tuple") (Zqt X.prog X.w X.K):=by
 intro pins s Z H xs us Q I r h;obtain⟨a,kvs,ss,rfl,hd,hks,q⟩:=h;obtain⟨u,rfl,ru⟩:=vals1 r;cases ru;obtain⟨z,hm,vs,rel,dd⟩:=I.dk hd;obtain⟨ep,hat⟩:=dd.dictAt;have hl:vs.length=kvs.length:=(Paired.length rel).symm;have hl2:kvs.length=ss.length:=by have:=congrArg List.length hks;simpa using this
 have hkey:∀(j:Nat) k x,vs[j]? = Wn (k,x)->∃y,ss[j]? = Wn y/\k=YD y:=λj k x e=>by
  have hj:j<vs.length:=(Ob.mp e).1;have h1:kvs[j]? = Wn kvs[j]:=Og (by lia);obtain⟨u,hu,hu2⟩:=Zeq rel h1;rw[e]at hu;cases hu;have h3:(kvs.map (·.1))[j]? = Wn kvs[j].1:=by rw[On,h1];rfl
  rw[hks,On]at h3;obtain⟨y,hy,e3⟩:=Oo.mp h3;exact⟨y,hy,hu2.1.symm.trans e3.symm⟩
 refine Zhc (PySem.W.kdl_dict (knd:=ZO X.prog X.w) (kvs:=vs) (ep:=ep) hm) hc hat (by lia) λh' tk acc hsz hk hacc=>?_;have hS:=Zeo (P:=X.prog) (w:=X.w) ss acc.toList (by rw[Array.length_toList,hacc.1];lia) λj v hv=>by obtain⟨k,x,e,hk2⟩:=hacc.2 j v (by rw[<- Array.getElem?_toList];exact hv);obtain⟨y,hy,rfl⟩:=hkey j k x e;exact⟨y,hy,hk2⟩
 have I1:=I.kept (t':=tk) hk;exact⟨.ref h'.objs.size,_,I1.laid (a:=h'.objs.size) (o:=.tup (ss.map V.str)) (t':=tk) (λb o e=>Od _ e) (Oq _) ⟨by simp;lia,acc.toList,ZdQ hS,by rw[Array.toArray_toList];exact ZaW.fresh _ _⟩,rfl,q _ (I1.hok.fresh (Oq _))⟩
end
noncomputable def Zr6(K:Yk)(sp:Sp)(C2:Yi)(ts:Yi->Obj->TS)(t:TA):TS:=λD Z H=>t Z H λvs H1=>sp vs H1 (λ_ H2=>D.nx Z H2) (λcls _ H2=>∃C,cls=.ref C/\YU K (.ref C) (.ref C2)=Wn Wp/\∀a oe,ts a oe D Z H2)
section
variable {X:Cx}{k:Nat}{x cx:Str}{ps:List Str}{sp:Sp}{e:Expr}{es:List Expr}{t:TA}{p np cpos epos hpos pos:Pos}{C2:Yi}{b0:Stmt}{suite:List Stmt}{ts:Yi->Obj->TS}
def ZkA(F:Def X.prog X.w X.K X.mg X.base k x ps sp)(hr:Room k X.A)(hg:Gl X x)(ha:PA X.nox (e::es) t)
 (hgc:Gl X cx) (hmc:X.mg cx=Wn (.ref C2)) (hC:ExcN X.K C2) (hstk:X.stack=X.env::X.outer) (hfrm:X.env.frame=Wn X.env.locals)
 (hsuite:∀a oe,PSs (cxH X a oe) (b0::suite) (ts a oe)) (hdb:(x==("__debug__" : Str))=Wq) (hdb2:(cx==("__debug__" : Str))=Wq) (he:Yz (e::es) X.env=(Wq,eval e X.env)::Yz es X.env) (hpl:(YR cpos (Yz es X.env)).any (·.1)=Wq)
 (hsw:swapsWith (.Call (.Name x p) (e::es) [] cpos) Wo epos.line X.env=pure Wq:=by rfl) :
 PS X (.Try [.Expr (.Call (.Name x p) (e::es) [] cpos) epos] [.ExceptHandler (Wn (.Name cx np)) Wo (b0::suite) hpos] [] [] pos) (Zr6 X.K sp C2 ts t):=by
 obtain⟨f,fd,hm,hk,hb,F⟩:=F;intro pins s Z H D I h;refine wpAny_Try_except (wpAny_execs_cons (wpAny_Expr_any (YW (Zbv I hg hm ?_ hdb)) I.quiet hsw));refine PySem.W.callWith_K (h₀:=X.base) I.ok.mod.kin hk (Yf (ha cpos pins s Z H _ (I.wish _) h) (λus s1 ⟨vs,H1,I1',r,q⟩=>?_) λ_ _ z=>z.elim) he hpl;have I1:Inv X pins Z H1 s1:=I1'.unwish;refine⟨I1.kIn,?_⟩;have hlen:(us++[]).length=ps.length:=by rw[Ys,<- r.length];exact F.len _ _ _ _ q
 have hbt:=hb s1 us I1.kIn hlen;rw[Ys]at hbt;refine wpAny_call (codeAny_mono (F.run X.A X.stack s1 H1 ⟨us,[]⟩ us vs _ _ hr I1.env0 hbt r q) λr s' hq=>?_);cases r with
 |ok fl=>
  cases fl with
  |ret u=>obtain⟨v,H',I',rv,q'⟩:=I1.after hq;exact wpAny_execs_nil (wpAny_execs_nil ⟨Z,H',I',q'⟩)
  |next=>exact False.elim hq
  |brk=>exact False.elim hq
  |cont=>exact False.elim hq
 |error ev=>
  have hq:CXF X.prog X.w X.stack H1 s1 (λcls _ H2=>∃C,cls=.ref C/\YU X.K (.ref C) (.ref C2)=Wn Wp/\∀a oe,ts a oe D Z H2) ev s':=hq;refine Zm4 (np:=np) (hpos:=hpos) (Z:=Z) (Q:=SP X pins D) hgc hmc hC hstk hfrm hdb2 (λcls H' z=>?_) (λcls H' z=>?_) I1 hq
  . obtain⟨C,rfl,hs,ht⟩:=z;refine⟨hs,λ_ _ a oe s' _ I'=>?_⟩;refine Yf (hsuite a oe pins s' Z H' D I' (ht a oe)) (λfl s8 q8=>?_) λ_ _ z=>z;cases fl with
    |next=>obtain⟨σ',H8,I8,q8⟩:=q8;exact⟨σ',H8,I8.ofH I.ok.hd,q8⟩
    |brk=>obtain⟨σ',H8,I8,q8⟩:=q8;exact⟨σ',H8,I8.ofH I.ok.hd,q8⟩
    |cont=>obtain⟨σ',H8,I8,q8⟩:=q8;exact⟨σ',H8,I8.ofH I.ok.hd,q8⟩
    |ret v=>obtain⟨y,σ',H8,I8,r8,q8⟩:=q8;exact⟨y,σ',H8,I8.ofH I.ok.hd,r8,q8⟩
  . obtain⟨C,rfl,_⟩:=z;exact⟨C,rfl⟩
end
end L2
namespace IV
open PySem PySem.Spec PyProof.Rows L2
set_option tactic.hygienic false
inductive D where
 |non|bl (b:Bool)|int (i:Int)|str (x:Str)|tup (xs:List D)|ref (i:Nat)|ty (n:String)
 |ro (xs:List D)|kd (x:Str)
inductive DO where
 |lst (xs:List D)|dic (kvs:List (Key×D))|ins (C:Str) (fs:List (Str×D))
 |fdic (kvs:List (Key×D))
 |dnk (kvs:List (NK×D))
noncomputable abbrev Hd:=List DO
inductive R(α:Type) where
 |bad|ok (a:α) (h:Hd)|exc (c:Str) (h:Hd)
noncomputable def R.bind(r:R α)(k:α->Hd->R β):R β:=match r with
 |.bad=>.bad
 |.ok a h=>k a h
 |.exc c h=>.exc c h
def R.bind_ok:(R.ok a h).bind k=k a h:=rfl
def R.bind_bad:(R.bad:R α).bind k=.bad:=rfl
noncomputable def R.ofO(o:Option α)(h:Hd):R α:=match o with
 |some a=>.ok a h
 |none=>.bad
def R.ofO_some:R.ofO (Wn a) h=.ok a h:=rfl
noncomputable abbrev Ev:=List (Option D)
inductive Bf where
 |len|isi|int|tup|lst|sum|all|srt|mx|sri|lnd|dct|ldk|sto|itx|anb|tdk
 deriving DecidableEq
inductive Mf where
 |app|ext|pop|rev|clr
 deriving DecidableEq
inductive Tf where
 |spl|joi
 deriving DecidableEq
mutual
inductive Ex where
 |var (i:Nat)|cst (d:D)|glo (x:Str)
 |bin (op:Operator) (a b:Ex)|cmp (op:CmpOp) (a b:Ex)|cmp2 (op op':CmpOp) (a b c:Ex)
 |neg (a:Ex)|nt (a:Ex)|ands (es:Exs)|ors (es:Exs)|ite (c:Tx) (a b:Ex)
 |tupl (es:Exs)|lstl (es:Exs)|ix (a i:Ex)|sl (a:Ex) (lo hi:Option Ex)
 |blt (f:Bf) (es:Exs)|call (f:Str) (es:Exs)|meth (m:Mf) (o:Ex) (es:Exs)
 |comp (NC:List Str) (js:List (Option Nat)) (it:Ix) (g:Tg) (c:Option Tx) (e:Ex)
 |sorts (e:Ex)|dictl (ps:Exs)|maxd (e d:Ex)
 |att (Cs:List Str) (o:Ex) (f:Str)|mk (C:Str) (es:Exs)|mcl (C m:Str) (o:Ex) (es:Exs)|any
 |trev (e:Ex)|tix (o e:Ex)|lrv (e:Ex)|lix (o e:Ex)|lin (a b:Ex)
 |rpn (a b:Ex)
 |dne (a b:Ex)
 |tmt (m:Tf) (o e:Ex)|sin (a b:Ex)|lmu (a b:Ex)
 |nin (n:Bool) (a b:Ex)|nix (a b:Ex)|ndl
inductive Exs where
 |nil|cons (e:Ex) (es:Exs)
inductive Ix where
 |pl (e:Ex)|rng (e:Ex)|rng2 (a b:Ex)|enu (e:Ex)|rev (e:Ex)
 |en1 (e:Ex)|en0 (e:Ex)|dk (e:Ex)
 |zp (a b:Ex)
 |zl (a b:Ex)
 |tw (e:Ex)
inductive Tg where
 |nm (i:Nat)|two (i j:Nat)|many (is:List Nat)
inductive Tx where
 |ex (e:Ex)|ands (ts:Txs)|ors (ts:Txs)|nt (a:Tx)
inductive Txs where
 |one (t:Tx)|cons (t:Tx) (ts:Txs)
end
noncomputable abbrev Ex.ci(i:Int):Ex:=.cst (.int i)
noncomputable abbrev Ex.Ci_(x:String):Ex:=.cst (.str (O x))
mutual
inductive Sx where
 |ret (e:Ex)|set (g:Tg) (e:Ex)|put (o i e:Ex)|aug (i:Nat) (op:Operator) (e:Ex)|drp (e:Ex)
 |iff (c:Tx) (a b:Sxs)|whl (c:Tx) (b:Sxs)|forr (g:Tg) (it:Ix) (b:Sxs)|pas|brk|cnt
 |seta (Cs:List Str) (o:Ex) (f:Str) (e:Ex)|auga (Cs:List Str) (o:Ex) (f:Str) (e:Ex)|any
 |rai (C:Str) (e:Ex)|trs (i:Nat) (f:Str) (es:Exs) (C:Str)
 |unl (i j:Nat) (e:Ex)
 |trw (i n:Nat) (f:Str) (es:Exs) (C W w:Str)
 |raf (C:Str) (e:Ex)|tre (i n:Nat) (f:Str) (es:Exs) (C:Str) (Ws:List Str) (bs:List (Str×List Bool))
 |npt (o i e:Ex)|trr (f:Str) (es:Exs) (C:Str) (b:Bool)
inductive Sxs where
 |nil|cons (s:Sx) (r:Sxs)
end
noncomputable abbrev Ex.v:=Ex.var
noncomputable abbrev Exs.c:=Exs.cons
noncomputable abbrev Exs.n:=Exs.nil
noncomputable abbrev Sxs.c:=Sxs.cons
noncomputable abbrev Sxs.n:=Sxs.nil
noncomputable abbrev Txs.c:=Txs.cons
noncomputable instance:DecidableEq D:=λa b=>Classical.propDecidable (a=b)
noncomputable instance:DecidableEq DO:=λa b=>Classical.propDecidable (a=b)
mutual
def D.py(rd:Nat->Option PyData):D->Option PyData
 |.non=>Wn .none
 |.bl b=>Wn (.bool b)
 |.int i=>Wn (.int i)
 |.str x=>Wn (.str x)
 |.tup xs=>(D.pys rd xs).map .tuple
 |.ro xs=>(D.pys rd xs).map .list
 |.ref i=>rd i
 |_=>Wo
def D.pys(rd:Nat->Option PyData):List D->Option (List PyData)
 |[]=>Wn []
 |x::xs=>(D.py rd x).bind λd=>(D.pys rd xs).map λds=>d::ds
end
def Zdc(h:Hd):Nat->Nat->Option PyData
 |0,_=>Wo
 |n+1,i=>match h[i]? with
  |some (.lst xs)=>(D.pys (Zdc h n) xs).map .list
  |_=>Wo
def Zdd(h:Hd)(d:D):Option PyData:=D.py (Zdc h 4) d
noncomputable def Zba(o:DO)(h:Hd):R D:=.ok (.ref h.length) (h++[o])
noncomputable def lstOf(d:D)(h:Hd):Option (List D):=match d with
 |.ref i=>match h[i]? with
  |some (.lst xs)=>Wn xs
  |_=>Wo
 |.ro xs=>Wn xs
 |_=>Wo
noncomputable def dicOf(GD:Str->Option (List (Key×D)))(d:D)(h:Hd):Option (List (Key×D)):=match d with
 |.ref i=>match h[i]? with
  |some (.dic kvs)=>Wn kvs
  |some (.fdic kvs)=>Wn kvs
  |_=>Wo
 |.kd x=>GD x
 |_=>Wo
noncomputable def keyOf:D->Option Key
 |.int i=>Wn (.inl i)
 |.str x=>Wn (.inr x)
 |_=>Wo
noncomputable def ZK(kvs:List (Key×D))(k:Key):Option D:=(kvs.find? λp=>Wt (p.1=k)).map (·.2)
noncomputable def putD(kvs:List (Key×D))(k:Key)(v:D):List (Key×D):=if (kvs.any λkv=>Wt (kv.1=k))=Wp then kvs.map (λkv=>if kv.1=k then(kv.1,v)else kv)else kvs++[(k,v)]
def cutD(xs:List D)(lo hi:Option Int):List D:=(xs.drop (HT.sIx xs.length 0 lo)).take (HT.sIx xs.length xs.length hi - HT.sIx xs.length 0 lo)
noncomputable def D.flat:D->Bool
 |.int _|.str _|.bl _|.non=>Wp
 |_=>Wq
noncomputable def eqF:D->D->Bool
 |.int i,.int j=>i==j
 |.str i,.str j=>i==j
 |.non,.non=>Wp
 |.bl i,.bl j=>i==j
 |.int i,.bl j=>i==(if j then 1 else 0)
 |.bl i,.int j=>(if i then 1 else 0)==j
 |_,_=>Wq
noncomputable def Zen(GD:Str->Option (List (Key×D)))(d:D)(h:Hd):Option Bool:=match d with
 |.non=>Wn Wq
 |.bl b=>Wn b
 |.int i=>Wn (i != 0)
 |.str x=>if x.length<=sizeLine then Wn (!(x.length==0))else Wo
 |.tup xs=>Wn (!xs.isEmpty)
 |.ref i=>match h[i]? with
  |some (.lst xs)=>Wn (!xs.isEmpty)
  |some (.dic xs)=>Wn (!xs.isEmpty)
  |_=>Wo
 |.ro xs=>Wn (!xs.isEmpty)
 |_=>Wo
noncomputable def int2(x y:D)(k:Int->Int->R D):R D:=match x with
 |.int i=>match y with
  |.int j=>k i j
  |_=>.bad
 |_=>.bad
def ZrX(x y:D)(h:Hd):R D:=match x with
 |.int i=>match y with
  |.int j=>.ok (.int (i+j)) h
  |_=>.bad
 |.str i=>match y with
  |.str j=>if i.length+j.length<=sizeLine then .ok (.str (i++j)) h else .bad
  |_=>.bad
 |.tup xs=>match y with
  |.tup ys=>if xs.length+ys.length<=sizeLine then .ok (.tup (xs++ys)) h else .bad
  |_=>.bad
 |.ref i=>match y with
  |.ref j=>match h[i]? with
   |some (.lst xs)=>match h[j]? with
    |some (.lst ys)=>if xs.length+ys.length<=sizeLine then Zba (.lst (xs++ys)) h else .bad
    |_=>.bad
   |_=>.bad
  |_=>.bad
 |_=>.bad
def Zv7(x y:D)(h:Hd):R D:=match x with
 |.str z=>match y with
  |.int n=>if 0<=n/\n<=1000/\z.length<=1000 then .ok (.str (Zfr z n.toNat)) h else .bad
  |_=>.bad
 |x=>int2 x y λi j=>if i.natAbs<2 ^ 2000/\j.natAbs<2 ^ 2000 then .ok (.int (i * j)) h else .bad
def opB(op:Operator)(x y:D)(h:Hd):R D:=match op with
 |.Add=>ZrX x y h
 |.Sub=>int2 x y λi j=>.ok (.int (i - j)) h
 |.Mult=>Zv7 x y h
 |.Mod=>int2 x y λi j=>if 0<j then .ok (.int (i % j)) h else .bad
 |.FloorDiv=>int2 x y λi j=>if 0<j/\j<1073741824 then .ok (.int (i / j)) h else .bad
 |.Pow=>int2 x y λi j=>if 0<=j/\j<=1000000/\i.natAbs<2 ^ 64 then .ok (.int (i ^ j.toNat)) h else .bad
 |_=>.bad
def Zav(neg:Bool)(x y:D)(h:Hd):R D:=match Zdd h x,Zdd h y with
 |some a,Wn b=>if min a.depth b.depth<=1100 then .ok (.bl (if neg then !YO a b else YO a b)) h else .bad
 |_,_=>.bad
def seqOf(d:D)(h:Hd):Option (List D):=match d with
 |.tup xs=>Wn xs
 |d=>lstOf d h
def ZbU(GD:Str->Option (List (Key×D)))(neg:Bool)(x y:D)(h:Hd):R D:=match seqOf y h with
 |some xs=>if x.flat&&xs.all D.flat then .ok (.bl (if neg then !xs.any (λz=>eqF z x)else xs.any λz=>eqF z x)) h else .bad
 |none=>match dicOf GD y h,keyOf x with
  |some kvs,Wn k=>.ok (.bl (if neg then !(ZK kvs k).isSome else(ZK kvs k).isSome)) h
  |_,_=>.bad
noncomputable def Zio(f:Int->Int->Bool)(x y:D)(h:Hd):R D:=match x,y with
 |.int i,.int j=>.ok (.bl (f i j)) h
 |_,_=>.bad
noncomputable def opN(neg:Bool)(x y:D)(h:Hd):R D:=match y with
 |.non=>.ok (.bl (if neg then !Wt (x=.non)else Wt (x=.non))) h
 |_=>.bad
def opC(GD:Str->Option (List (Key×D)))(op:CmpOp)(x y:D)(h:Hd):R D:=match op with
 |.Eq=>Zav Wq x y h
 |.NotEq=>Zav Wp x y h
 |.Lt=>Zio (λi j=>Wt (i<j)) x y h
 |.LtE=>Zio (λi j=>Wt (i<=j)) x y h
 |.Gt=>Zio (λi j=>Wt (j<i)) x y h
 |.GtE=>Zio (λi j=>Wt (j<=i)) x y h
 |.In=>ZbU GD Wq x y h
 |.NotIn=>ZbU GD Wp x y h
 |.Is=>opN Wq x y h
 |.IsNot=>opN Wp x y h
def Za8(GD:Str->Option (List (Key×D)))(x y:D)(h:Hd):R D:=match y with
 |.int i=>match seqOf x h with
  |some xs=>R.ofO (atI xs i) h
  |none=>match x with
   |.str z=>if z.length<=sizeLine then R.ofO ((atI z.cps.toList i).map λc=>.str ⟨#[c]⟩) h else .bad
   |_=>match dicOf GD x h with
    |some kvs=>R.ofO (ZK kvs (.inl i)) h
    |none=>.bad
 |.str z=>match dicOf GD x h with
  |some kvs=>R.ofO (ZK kvs (.inr z)) h
  |none=>.bad
 |_=>.bad
def Zjt(x:D)(l u:Option Int)(h:Hd):R D:=match x with
 |.tup xs=>.ok (.tup (cutD xs l u)) h
 |.str y=>if y.length<=sizeLine then .ok (.str (Yp y l u)) h else .bad
 |d=>match lstOf d h with
  |some xs=>Zba (.lst (cutD xs l u)) h
  |none=>.bad
def Zp7(d:D)(h:Hd):Option String:=match d with
 |.int _=>Wn "int"
 |.str _=>Wn "str"
 |.bl _=>Wn "bool"
 |.non=>Wn "NoneType"
 |.tup _=>Wn "tuple"
 |d=>(lstOf d h).map λ_ => "list"
noncomputable def ZgL(t T:String):Option Bool:=if T∈["int", "str", "bool", "tuple", "list"]/\t∈["int", "str", "bool", "tuple", "list", "NoneType"]then Wn (t==T || (t == "bool" && T == "int"))else Wo
noncomputable def intsOf:List D->Option (List Int)
 |[]=>Wn []
 |.int i::r=>(intsOf r).map λz=>i::z
 |_=>Wo
noncomputable def Zdv:List D->Option (List Bool)
 |[]=>Wn []
 |.bl i::r=>(Zdv r).map λz=>i::z
 |_=>Wo
noncomputable def strsOf:List D->Option (List Str)
 |[]=>Wn []
 |.str i::r=>(strsOf r).map λz=>i::z
 |_=>Wo
noncomputable def Z7:List (Key×D)->Option (List Str)
 |[]=>Wn []
 |(.inr x,_)::r=>(Z7 r).map λz=>x::z
 |_=>Wo
noncomputable def Zmd:List (Key×D)->Option (List Int)
 |[]=>Wn []
 |(.inl x,_)::r=>(Zmd r).map λz=>x::z
 |_=>Wo
noncomputable def ZvN(x:Int):List Int->List Int
 |[]=>[x]
 |y::r=>if y<x then y::ZvN x r else x::y::r
def Zsd:List Int->List Int
 |[]=>[]
 |x::r=>ZvN x (Zsd r)
noncomputable def ZmX(x:Str):List Str->List Str
 |[]=>[x]
 |y::r=>if ltCps y.cps.toList x.cps.toList then y::ZmX x r else x::y::r
def Zcq:List Str->List Str
 |[]=>[]
 |x::r=>ZmX x (Zcq r)
noncomputable def ddS:List Str->List Str
 |[]=>[]
 |x::r=>if x∈r then ddS r else x::ddS r
def ZhC(xs:List D)(h:Hd):R D:=match xs with
 |[.str y]=>if y.length<=sizeLine then .ok (.int y.length) h else .bad
 |[d]=>R.ofO ((seqOf d h).map λxs=>.int xs.length) h
 |_=>.bad
def ZpQ(xs:List D)(h:Hd):R D:=match xs with
 |[d,.ty T]=>R.ofO ((Zp7 d h).bind λt=>(ZgL t T).map .bl) h
 |_=>.bad
noncomputable def Zym(xs:List D)(h:Hd):R D:=match xs with
 |[.int i]=>.ok (.int i) h
 |[.bl b]=>.ok (.int (if b then 1 else 0)) h
 |_=>.bad
def Znz(xs:List D)(h:Hd):R D:=match xs with
 |[.tup xs]=>.ok (.tup xs) h
 |[d]=>R.ofO ((lstOf d h).map .tup) h
 |_=>.bad
def ZpP(xs:List D)(h:Hd):R D:=match xs with
 |[d]=>match seqOf d h with
  |some xs=>Zba (.lst xs) h
  |none=>.bad
 |_=>.bad
def ZpM(xs:List D)(h:Hd):R D:=match xs with
 |[d]=>R.ofO (((lstOf d h).bind intsOf).map λns=>.int ns.sum) h
 |_=>.bad
def ZuL(xs:List D)(h:Hd):R D:=match xs with
 |[d]=>R.ofO (((lstOf d h).bind Zdv).map λbs=>.bl (bs.all id)) h
 |_=>.bad
def Zfo(GD:Str->Option (List (Key×D)))(xs:List D)(h:Hd):R D:=match xs with
 |[d]=>match (dicOf GD d h).bind Z7 with
  |some ss=>if ss.length<64/\ss.all Yo=Wp then Zba (.lst ((Zcq ss).map .str)) h else .bad
  |none=>.bad
 |_=>.bad
def Zyg(GD:Str->Option (List (Key×D)))(xs:List D)(h:Hd):R D:=match xs with
 |[d]=>match (dicOf GD d h).bind Zmd with
  |some ns=>if ns.length<64 then Zba (.lst ((Zsd ns).map .int)) h else .bad
  |none=>.bad
 |_=>.bad
def Zyh(GD:Str->Option (List (Key×D)))(xs:List D)(h:Hd):R D:=match xs with
 |[d]=>R.ofO ((dicOf GD d h).map λkvs=>.int kvs.length) h
 |_=>.bad
def Zyn(xs:List D)(h:Hd):R D:=match xs with
 |[.ref i]=>match h[i]? with
  |some (.dic kvs)=>Zba (.dic kvs) h
  |_=>.bad
 |_=>.bad
def Zyk(GD:Str->Option (List (Key×D)))(xs:List D)(h:Hd):R D:=match xs with
 |[d]=>match (dicOf GD d h).bind Z7 with
  |some ss=>if ss.all Yo=Wp then Zba (.lst (ss.map .str)) h else .bad
  |none=>.bad
 |_=>.bad
noncomputable def Zyf(xs:List D)(h:Hd):R D:=match xs with
 |[.int i]=>if i.natAbs.log2<1920/\Yo (Str.ofString (toString i))=Wp then .ok (.str (Str.ofString (toString i))) h else .bad
 |[.str y]=>.ok (.str y) h
 |_=>.bad
noncomputable def Zyl(xs:List D)(h:Hd):R D:=match xs with
 |[.str y]=>match PySem.intText? y with
  |some n=>if y.length<=640 then .ok (.int n) h else .bad
  |none=>.bad
 |_=>.bad
noncomputable def Zws:D->Bool
 |.str _=>Wp
 |_=>Wq
def txm(m:Tf)(x y:D)(h:Hd):R D:=match m,x with
 |.spl,.str a=>match y with
  |.str b=>if b=L2.blk/\a.length<=1000000/\(L2.ZsW a).length<=1000002/\(L2.ZsW a).all Yo=Wp then Zba (.lst ((L2.ZsW a).map .str)) h else .bad
  |_=>.bad
 |.joi,.str b=>match (lstOf y h).bind strsOf with
  |some ss=>if b=L2.blk/\JoinOk L2.blk ss=Wp/\Yo (L2.Zwm ss)=Wp then .ok (.str (L2.Zwm ss)) h else .bad
  |none=>.bad
 |_,_=>.bad
noncomputable def ZwW(x y:D)(h:Hd):R D:=match x,y with
 |.str a,.str b=>.ok (.bl (!(Builtin.Str.occurrences b a 0 b.length 1).isEmpty)) h
 |_,_=>.bad
def ZwY(x y:D)(h:Hd):R D:=match x with
 |.ref i=>match y with
  |.int n=>match h[i]? with
   |some (.lst xs)=>if 0<=n/\n<=1000000/\xs.length * n.toNat<=1000000 then Zba (.lst (YJ n.toNat xs).flatten) h else .bad
   |_=>.bad
  |_=>.bad
 |_=>.bad
def nkD:D->Option NK
 |.tup [.int n,.tup ss]=>(strsOf ss).map λss=>(n,ss)
 |_=>Wo
noncomputable def valN(kvs:List (NK×D))(k:NK):Option D:=(kvs.find? λp=>Wt (p.1=k)).map (·.2)
noncomputable def putN(kvs:List (NK×D))(k:NK)(v:D):List (NK×D):=if (kvs.any λkv=>Wt (kv.1=k))=Wp then kvs.map (λkv=>if kv.1=k then(kv.1,v)else kv)else kvs++[(k,v)]
noncomputable def Zns(d:D)(h:Hd):Option (List (NK×D)):=match d with
 |.ref i=>match h[i]? with
  |some (.dnk kvs)=>Wn kvs
  |_=>Wo
 |_=>Wo
def Zkl(n:Bool)(x y:D)(h:Hd):R D:=match Zns y h with
 |some kvs=>match nkD x with
  |some k=>.ok (.bl (if n then !(valN kvs k).isSome else(valN kvs k).isSome)) h
  |none=>.bad
 |none=>.bad
def ZpO(x y:D)(h:Hd):R D:=match Zns x h with
 |some kvs=>match nkD y with
  |some k=>R.ofO (valN kvs k) h
  |none=>.bad
 |none=>.bad
def ZpN(o i v:D)(h:Hd):R Unit:=match o with
 |.ref a=>match h[a]? with
  |some (.dnk kvs)=>match nkD i with
   |some k=>if kvs.length<sizeLine then .ok () (h.set a (.dnk (putN kvs k v)))else .bad
   |none=>.bad
  |_=>.bad
 |_=>.bad
def ZuK(xs:List D)(h:Hd):R D:=match xs with
 |[d]=>R.ofO (((lstOf d h).bind Zdv).map λbs=>.bl (bs.any id)) h
 |_=>.bad
def ZpL(GD:Str->Option (List (Key×D)))(xs:List D)(h:Hd):R D:=match xs with
 |[d]=>match (dicOf GD d h).bind Z7 with
  |some ss=>if ss.all Yo=Wp then .ok (.tup (ss.map .str)) h else .bad
  |none=>.bad
 |_=>.bad
def ZxF(h:Hd)(o:Option D)(d:D):Bool:=Wt (o=Wn d)&&match Zdd h d with
 |some p=>Wt (p.depth<=60)&&YO p p
 |none=>Wq
def ZwZ(GD:Str->Option (List (Key×D)))(x y:D)(h:Hd):R D:=match dicOf GD x h with
 |some k1=>match dicOf GD y h with
  |some k2=>if k1.length=k2.length/\(k1.all λp=>ZxF h (ZK k2 p.1) p.2)=Wp then .ok (.bl Wq) h else .bad
  |none=>.bad
 |none=>.bad
def ZmF(x d:D)(h:Hd):R D:=match d with
 |.int d=>R.ofO (((lstOf x h).bind intsOf).map λns=>.int (Zdg ns d)) h
 |_=>.bad
def bMx(xs:List D)(h:Hd):R D:=match xs with
 |[.int i,.int j]=>.ok (.int (if j > i then j else i)) h
 |[d]=>match (lstOf d h).bind intsOf with
  |some ns=>if ns≠[]then .ok (.int (Zdg ns 0)) h else .bad
  |none=>.bad
 |_=>.bad
def Z0(GD:Str->Option (List (Key×D))):Bf->List D->Hd->R D
 |.len=>ZhC
 |.isi=>ZpQ
 |.int=>Zym
 |.tup=>Znz
 |.lst=>ZpP
 |.sum=>ZpM
 |.all=>ZuL
 |.srt=>Zfo GD
 |.mx=>bMx
 |.sri=>Zyg GD
 |.lnd=>Zyh GD
 |.dct=>Zyn
 |.ldk=>Zyk GD
 |.sto=>Zyf
 |.itx=>Zyl
 |.anb=>ZuK
 |.tdk=>ZpL GD
noncomputable def ZsA(x:D)(h:Hd):R D:=match x with
 |.tup (y::ys)=>.ok (.tup (y::ys).reverse) h
 |_=>.bad
def ZwX(x:D)(h:Hd):R D:=match x with
 |.tup ys=>Zba (.lst ys.reverse) h
 |_=>.bad
noncomputable def Zwr:D->Bool
 |.tup _=>Wp
 |_=>Wq
def ZwV(x y:D)(h:Hd):R D:=match x,y with
 |.tup xs,.str z=>match strsOf xs with
  |some ss=>R.ofO ((Tx.place z ss).map λ(j:Nat)=>.int (j:Int)) h
  |none=>.bad
 |_,_=>.bad
def Zyi(x y:D)(h:Hd):R D:=match lstOf x h,y with
 |some xs,.str z=>match strsOf xs with
  |some ss=>R.ofO ((Tx.place z ss).map λ(j:Nat)=>.int (j:Int)) h
  |none=>.bad
 |_,_=>.bad
def Zyj(x y:D)(h:Hd):R D:=match Zdd h x,Zdd h y with
 |some a,Wn (.list bs)=>if min (PyData.depthAll bs) a.depth<=1000 then .ok (.bl (bs.any λb=>YO b a)) h else .bad
 |_,_=>.bad
def Zcj:List D->Option (List (Key×D))
 |[]=>Wn []
 |k::v::r=>match keyOf k,Zcj r with
  |some k,Wn r=>Wn ((k,v)::r)
  |_,_=>Wo
 |_=>Wo
def ZcK(kvs more:List (Key×D)):List (Key×D):=more.foldl (λacc kv=>putD acc kv.1 kv.2) kvs
noncomputable def ZoX(i:Nat)(ys xs:List D)(h:Hd):R D:=match xs with
 |[d]=>if ys.length<sizeLine then .ok .non (h.set i (.lst (ys++[d])))else .bad
 |_=>.bad
noncomputable def ZtU(i:Nat)(ys xs:List D)(h:Hd):R D:=match xs with
 |[.ref j]=>match h[j]? with
  |some (.lst zs)=>if ys.length+zs.length<=sizeLine then .ok .non (h.set i (.lst (ys++zs)))else .bad
  |_=>.bad
 |[.tup zs]=>if ys.length+zs.length<=sizeLine then .ok .non (h.set i (.lst (ys++zs)))else .bad
 |_=>.bad
noncomputable def Zrf(i:Nat)(ys xs:List D)(h:Hd):R D:=match xs with
 |[]=>match ys[ys.length - 1]? with
  |some y=>.ok y (h.set i (.lst ys.dropLast))
  |none=>.bad
 |_=>.bad
noncomputable def ZtT(i:Nat)(ys xs:List D)(h:Hd):R D:=match xs with
 |[]=>.ok .non (h.set i (.lst ys.reverse))
 |_=>.bad
noncomputable def Zwa(i:Nat)(ys xs:List D)(h:Hd):R D:=match xs with
 |[]=>.ok .non (h.set i (.lst []))
 |_=>.bad
def shD(x:D)(h:Hd):R Str:=match Zdd h x with
 |some d=>if L2.ZxC d=Wp then .ok d.shown h else .bad
 |none=>.bad
def Zf3:Mf->Nat->List D->List D->Hd->R D
 |.app=>ZoX
 |.ext=>ZtU
 |.pop=>Zrf
 |.rev=>ZtT
 |.clr=>Zwa
def ZbF(m:Mf)(o:D)(xs:List D)(h:Hd):R D:=match o with
 |.ref i=>match h[i]? with
  |some (.lst ys)=>Zf3 m i ys xs h
  |_=>.bad
 |_=>.bad
noncomputable def ZeY(o:D)(h:Hd):Bool:=match o with
 |.ref i=>match h[i]? with
  |some (.lst _)=>Wp
  |_=>Wq
 |_=>Wq
def Zau(o i v:D)(h:Hd):R Unit:=match o with
 |.ref a=>match h[a]? with
  |some (.lst xs)=>match i with
   |.int k=>match ixN xs.length k with
    |some j=>.ok () (h.set a (.lst (xs.set j v)))
    |none=>.bad
   |_=>.bad
  |some (.dic kvs)=>match keyOf i with
   |some k=>if kvs.length<sizeLine then .ok () (h.set a (.dic (putD kvs k v)))else .bad
   |none=>.bad
  |_=>.bad
 |_=>.bad
structure Wk where
 src:List (Nat×List D)
 xs:List D
noncomputable def Wk.stays:List (Nat×List D)->Hd->Bool
 |[],_=>Wp
 |(i,xs)::r,h=>Wt (h[i]? = Wn (.lst xs))&&Wk.stays r h
noncomputable def ZaN(d:D)(h:Hd):Option Wk:=match d with
 |.tup xs=>Wn ⟨[],xs⟩
 |.ro xs=>Wn ⟨[],xs⟩
 |.ref i=>match h[i]? with
  |some (.lst xs)=>Wn ⟨[(i,xs)],xs⟩
  |_=>Wo
 |_=>Wo
noncomputable def ZhF(d:D)(h:Hd):Option Wk:=match d with
 |.ro xs=>Wn ⟨[],xs⟩
 |.ref i=>match h[i]? with
  |some (.lst xs)=>Wn ⟨[(i,xs)],xs⟩
  |_=>Wo
 |_=>Wo
noncomputable def ZhE(d:D)(h:Hd):Option Wk:=match d with
 |.tup xs=>Wn ⟨[],xs⟩
 |.ref i=>match h[i]? with
  |some (.lst xs)=>Wn ⟨[(i,xs)],xs⟩
  |_=>Wo
 |_=>Wo
noncomputable def ZY(lo:Int)(n:Nat):List D:=(List.range n).map λ(k:Nat)=>.int (lo+(k:Int))
noncomputable def Zds(xs:List D):List D:=xs.mapIdx λk x=>.tup [.int (k:Int),x]
noncomputable def ZuC(xs:List D):List D:=xs.mapIdx λk x=>.tup [.int ((k+1:Nat):Int),x]
noncomputable def Zic(xs ys:List D):List D:=List.zipWith (λx y=>.tup [x,y]) xs ys
noncomputable def Zwl:Key->D
 |.inl i=>.int i
 |.inr x=>.str x
def zpD(x y:D)(h:Hd):R Wk:=match x with
 |.tup xs=>match y with
  |.tup ys=>if xs.length=ys.length then .ok ⟨[],Zic xs ys⟩ h else .bad
  |_=>.bad
 |_=>.bad
def zlD(x y:D)(h:Hd):R Wk:=match x with
 |.ref i=>match y with
  |.ref j=>match h[i]? with
   |some (.lst xs)=>match h[j]? with
    |some (.lst ys)=>if xs.length<=ys.length then .ok ⟨[(i,xs),(j,ys)],Zic xs ys⟩ h else .bad
    |_=>.bad
   |_=>.bad
  |_=>.bad
 |_=>.bad
def Zx0(x:D)(h:Hd):R Wk:=match x with
 |.ref i=>match h[i]? with
  |some (.dic kvs)=>.ok ⟨[],kvs.map λp=>Zwl p.1⟩ (h.set i (.fdic kvs))
  |some (.fdic kvs)=>.ok ⟨[],kvs.map λp=>Zwl p.1⟩ h
  |_=>.bad
 |_=>.bad
noncomputable def Zas(i:Int):Bool:=Wt (-(2 ^ 62)<=i)&&Wt (i<2 ^ 62)
noncomputable def Zkx:List Nat->List D->Ev->Ev
 |i::is,x::xs,S=>Zkx is xs (S.set i (Wn x))
 |_,_,S=>S
def ZbJ(g:Tg)(d:D)(S:Ev):Option Ev:=match g with
 |.nm i=>Wn (S.set i (Wn d))
 |.two i j=>match d with
  |.tup [a,b]=>Wn ((S.set i (Wn a)).set j (Wn b))
  |_=>Wo
 |.many is=>match d with
  |.tup xs=>if xs.length=is.length then Wn (Zkx is xs S)else Wo
  |_=>Wo
def ZbI(js:List (Option Nat))(S:Ev):Ev:=js.map λo=>o.bind λj=>(S[j]?).join
inductive Fl where
 |nx|bk|ct|rt (d:D)
def Z3(src:List (Nat×List D))(g:Tg)(body:Ev->Hd->R (Fl×Ev)):List D->Ev->Hd->R (Fl×Ev)
 |[],S,h=>if Wk.stays src h then .ok (.nx,S) h else .bad
 |d::ds,S,h=>if Wk.stays src h then match ZbJ g d S with
  |none=>.bad
  |some ρ1=>(body ρ1 h).bind λp h2=>match p with
   |(.nx,ρ2)=>Z3 src g body ds ρ2 h2
   |(.ct,ρ2)=>Z3 src g body ds ρ2 h2
   |(.bk,ρ2)=>.ok (.nx,ρ2) h2
   |(.rt d,ρ2)=>.ok (.rt d,ρ2) h2
  else .bad
noncomputable def ZT(test:Ev->Hd->R Bool)(body:Ev->Hd->R (Fl×Ev)):Nat->Ev->Hd->R (Fl×Ev)
 |0,_,_=>.bad
 |n+1,S,h=>(test S h).bind λb h1=>if b then(body S h1).bind λp h2=>match p with
  |(.nx,ρ2)=>ZT test body n ρ2 h2
  |(.ct,ρ2)=>ZT test body n ρ2 h2
  |(.bk,ρ2)=>.ok (.nx,ρ2) h2
  |(.rt d,ρ2)=>.ok (.rt d,ρ2) h2
  else .ok (.nx,S) h1
@[reducible] def R.plain:R α->R α
 |.exc _ _=>.bad
 |r=>r
def Zz(src:List (Nat×List D))(g:Tg)(test:Ev->Hd->R Bool)(elt:Ev->Hd->R D):List D->Ev->List D->Hd->R (List D)
 |[],_,acc,h=>if Wk.stays src h then .ok acc h else .bad
 |d::ds,S,acc,h=>if Wk.stays src h/\acc.length<sizeLine then match ZbJ g d S with
  |none=>.bad
  |some ρ1=>(test ρ1 h).plain.bind λb h1=>if b then(elt ρ1 h1).plain.bind λx h2=>Zz src g test elt ds S (acc++[x]) h2 else Zz src g test elt ds S acc h1
  else .bad
noncomputable def catchR(C:Str)(b:Bool)(S:Ev)(r:R D):R (Fl×Ev):=match r with
 |.ok _ h=>.ok (.nx,S) h
 |.exc c h=>if c=C then .ok (.rt (.bl b),S) h else .bad
 |.bad=>.bad
noncomputable def ZuF(C:Str)(i:Nat)(S:Ev)(r:R D):R (Fl×Ev):=match r with
 |.bad=>.bad
 |.ok v h=>.ok (.nx,S.set i (Wn v)) h
 |.exc c h=>if c=C then .ok (.nx,S.set i (Wn .non)) h else .bad
noncomputable def ZuE(W w:Str)(i n:Nat)(S:Ev)(r:R D):R (Fl×Ev):=match r with
 |.bad=>.bad
 |.ok v h=>.ok (.nx,S.set i (Wn v)) h
 |.exc c h=>if c=W then .ok (.nx,((S.set n Wo).set i (Wn (.ref h.length))).set n Wo) (h++[.lst [.str w,.bl Wp]])else .bad
noncomputable def ZpC(bs:List (Str×List Bool))(i n:Nat)(S:Ev)(r:R D):R (Fl×Ev):=match r with
 |.bad=>.bad
 |.ok _ h=>.ok (.nx,S) h
 |.exc c h=>match bs.lookup c with
  |some l=>.ok (.nx,((S.set n Wo).set i (Wn (.ref h.length))).set n Wo) (h++[.lst (l.map .bl)])
  |none=>.bad
noncomputable def ZxJ(C:Str)(x:D)(h:Hd):R (Fl×Ev):=match x with
 |.str y=>if y.length<=50000 then .exc C h else .bad
 |_=>.bad
noncomputable def mnm(C m:Str):Str:=C++(O "." ++ m)
def ZR(d:D)(h:Hd):Option (Str×List (Str×D)):=match d with
 |.ref i=>match h[i]? with
  |some (.ins C fs)=>Wn (C,fs)
  |_=>Wo
 |_=>Wo
def Zeu(Cs:List Str)(f:Str)(x:D)(h:Hd):R D:=match ZR x h with
 |some (C,fs)=>if C∈Cs then R.ofO (fs.lookup f) h else .bad
 |none=>.bad
noncomputable def ZgA(f:Str)(v:D):List (Str×D)->List (Str×D)
 |[]=>[(f,v)]
 |(g,x)::r=>if g=f then(g,v)::r else(g,x)::ZgA f v r
def Zhq(Cs:List Str)(f:Str)(x d:D)(h:Hd):R D:=match x with
 |.ref i=>match h[i]? with
  |some (.ins C fs)=>if C∈Cs/\fs.length<1000 then .ok .non (h.set i (.ins C (ZgA f d fs)))else .bad
  |_=>.bad
 |_=>.bad
def ZkP(Cf:Str->List D->Hd->R D)(C:Str)(xs:List D)(h:Hd):R D:=(Cf (mnm C (O "__init__")) (.ref h.length::xs) (h++[.ins C []])).bind λd h2=>match d with
 |.non=>.ok (.ref h.length) h2
 |_=>.bad
structure Tb where
 G:Str->Option D
 GD:Str->Option (List (Key×D))
 C:Str->List D->Hd->R D
 L:Nat
mutual
def ev(T:Tb):Ex->Ev->Hd->R D
 |.var i,S,h=>R.ofO (S[i]?).join h
 |.cst d,_,h=>.ok d h
 |.glo x,_,h=>R.ofO (T.G x) h
 |.bin op a b,S,h=>(ev T a S h).bind λx h1=>(ev T b S h1).bind λy h2=>opB op x y h2
 |.cmp op a b,S,h=>(ev T a S h).bind λx h1=>(ev T b S h1).bind λy h2=>opC T.GD op x y h2
 |.cmp2 op op' a b c,S,h=>(ev T a S h).bind λx h1=>(ev T b S h1).bind λy h2=>(opC T.GD op x y h2).bind λr h3=>match r with
  |.bl Wp=>(ev T c S h3).bind λz h4=>opC T.GD op' y z h4
  |.bl Wq=>.ok (.bl Wq) h3
  |_=>.bad
 |.neg a,S,h=>(ev T a S h).bind λx h1=>match x with
  |.int i=>.ok (.int (-i)) h1
  |_=>.bad
 |.nt a,S,h=>(ev T a S h).bind λx h1=>match x with
  |.bl b=>.ok (.bl (!b)) h1
  |_=>.bad
 |.ands es,S,h=>evAnd T es S h
 |.ors es,S,h=>evOr T es S h
 |.ite c a b,S,h=>(tst T c S h).bind λc h1=>if c then ev T a S h1 else ev T b S h1
 |.tupl es,S,h=>(evs T es S h).bind λxs h1=>if xs.length<=sizeLine then .ok (.tup xs) h1 else .bad
 |.lstl es,S,h=>(evs T es S h).bind λxs h1=>if xs.length<=sizeLine then Zba (.lst xs) h1 else .bad
 |.ix a i,S,h=>(ev T a S h).bind λx h1=>(ev T i S h1).bind λy h2=>Za8 T.GD x y h2
 |.sl a lo hi,S,h=>(ev T a S h).bind λx h1=>(evo T lo S h1).bind λl h2=>(evo T hi S h2).bind λu h3=>Zjt x l u h3
 |.blt f es,S,h=>(evs T es S h).bind λxs h1=>Z0 T.GD f xs h1
 |.call f es,S,h=>(evs T es S h).bind λxs h1=>T.C f xs h1
 |.meth m o es,S,h=>(ev T o S h).bind λx h1=>if ZeY x h1 then(evs T es S h1).bind λxs h2=>ZbF m x xs h2 else .bad
 |.comp _ js it g c e,S,h=>(evi T it S h).bind λw h1=>(Zz w.src g (tsto T c) (ev T e) w.xs (ZbI js S) [] h1).bind λxs h2=>Zba (.lst xs) h2
 |.sorts e,S,h=>(ev T e S h).bind λx h1=>match (lstOf x h1).bind strsOf with
  |some ss=>if ss.length<4000/\(ddS ss).length<64/\ss.all Yo=Wp then Zba (.lst ((Zcq (ddS ss)).map .str)) h1 else .bad
  |none=>.bad
 |.maxd e d,S,h=>(ev T e S h).bind λx h1=>(ev T d S h1).bind λy h2=>ZmF x y h2
 |.dictl ps,S,h=>(evs T ps S h).bind λxs h1=>match Zcj xs with
  |some kvs=>if kvs.length<=15 then Zba (.dic (ZcK [] kvs)) h1 else .bad
  |none=>.bad
 |.att Cs o f,S,h=>(ev T o S h).bind λx h1=>Zeu Cs f x h1
 |.mk C es,S,h=>(evs T es S h).bind λxs h1=>ZkP T.C C xs h1
 |.mcl C m o es,S,h=>(ev T o S h).bind λx h1=>match ZR x h1 with
  |some (C',fs)=>if C'=C/\fs.lookup m=Wo then(evs T es S h1).bind λxs h2=>T.C (mnm C m) (x::xs) h2 else .bad
  |none=>.bad
 |.any,_,_=>.bad
 |.trev e,S,h=>(ev T e S h).bind λx h1=>ZsA x h1
 |.lrv e,S,h=>(ev T e S h).bind λx h1=>ZwX x h1
 |.tix o e,S,h=>(ev T o S h).bind λx h1=>if Zwr x then(ev T e S h1).bind λy h2=>ZwV x y h2 else .bad
 |.lix o e,S,h=>(ev T o S h).bind λx h1=>if ZeY x h1 then(ev T e S h1).bind λy h2=>Zyi x y h2 else .bad
 |.lin a b,S,h=>(ev T a S h).bind λx h1=>(ev T b S h1).bind λy h2=>Zyj x y h2
 |.tmt m o e,S,h=>(ev T o S h).bind λx h1=>if Zws x then(ev T e S h1).bind λy h2=>txm m x y h2 else .bad
 |.lmu a b,S,h=>(ev T a S h).bind λx h1=>(ev T b S h1).bind λy h2=>ZwY x y h2
 |.sin a b,S,h=>(ev T a S h).bind λx h1=>(ev T b S h1).bind λy h2=>ZwW x y h2
 |.nin n a b,S,h=>(ev T a S h).bind λx h1=>(ev T b S h1).bind λy h2=>Zkl n x y h2
 |.nix a b,S,h=>(ev T a S h).bind λx h1=>(ev T b S h1).bind λy h2=>ZpO x y h2
 |.ndl,_,h=>Zba (.dnk []) h
 |.dne a b,S,h=>(ev T a S h).bind λx h1=>(ev T b S h1).bind λy h2=>ZwZ T.GD x y h2
 |.rpn a b,S,h=>(ev T a S h).bind λx h1=>(shD x h1).bind λp h1=>(ev T b S h1).bind λy h2=>(shD y h2).bind λq h3=>.ok (.bl (!Wt (p=q))) h3
def evs(T:Tb):Exs->Ev->Hd->R (List D)
 |.nil,_,h=>.ok [] h
 |.cons e es,S,h=>(ev T e S h).bind λx h1=>(evs T es S h1).bind λxs h2=>.ok (x::xs) h2
def evAnd(T:Tb):Exs->Ev->Hd->R D
 |.nil,_,_=>.bad
 |.cons e es,S,h=>match es with
  |.nil=>ev T e S h
  |.cons _ _=>(ev T e S h).bind λx h1=>match x with
   |.bl Wp=>evAnd T es S h1
   |.bl Wq=>.ok (.bl Wq) h1
   |_=>.bad
def evOr(T:Tb):Exs->Ev->Hd->R D
 |.nil,_,_=>.bad
 |.cons e es,S,h=>match es with
  |.nil=>ev T e S h
  |.cons _ _=>(ev T e S h).bind λx h1=>match x with
   |.bl Wp=>.ok (.bl Wp) h1
   |.bl Wq=>evOr T es S h1
   |_=>.bad
def evo(T:Tb):Option Ex->Ev->Hd->R (Option Int)
 |none,_,h=>.ok Wo h
 |some e,S,h=>(ev T e S h).bind λx h1=>match x with
  |.int i=>.ok (Wn i) h1
  |_=>.bad
def tst(T:Tb):Tx->Ev->Hd->R Bool
 |.ex e,S,h=>(ev T e S h).bind λx h1=>R.ofO (Zen T.GD x h1) h1
 |.ands ts,S,h=>tstAnd T ts S h
 |.ors ts,S,h=>tstOr T ts S h
 |.nt a,S,h=>(tst T a S h).bind λc h1=>.ok (!c) h1
def tstAnd(T:Tb):Txs->Ev->Hd->R Bool
 |.one t,S,h=>tst T t S h
 |.cons t ts,S,h=>(tst T t S h).bind λc h1=>if c then tstAnd T ts S h1 else .ok Wq h1
def tstOr(T:Tb):Txs->Ev->Hd->R Bool
 |.one t,S,h=>tst T t S h
 |.cons t ts,S,h=>(tst T t S h).bind λc h1=>if c then .ok Wp h1 else tstOr T ts S h1
def tsto(T:Tb):Option Tx->Ev->Hd->R Bool
 |none,_,h=>.ok Wp h
 |some e,S,h=>tst T e S h
def evi(T:Tb):Ix->Ev->Hd->R Wk
 |.pl e,S,h=>(ev T e S h).bind λx h1=>R.ofO (ZaN x h1) h1
 |.rng e,S,h=>(ev T e S h).bind λx h1=>match x with
  |.int j=>if Zas j then .ok ⟨[],ZY 0 j.toNat⟩ h1 else .bad
  |_=>.bad
 |.rng2 a b,S,h=>(ev T a S h).bind λx h1=>(ev T b S h1).bind λy h2=>match x,y with
  |.int i,.int j=>if Zas i&&Zas j then .ok ⟨[],ZY i (j - i).toNat⟩ h2 else .bad
  |_,_=>.bad
 |.enu e,S,h=>(ev T e S h).bind λx h1=>R.ofO ((ZhF x h1).map λw=>⟨w.src,Zds w.xs⟩) h1
 |.rev e,S,h=>(ev T e S h).bind λx h1=>R.ofO ((ZhE x h1).map λw=>⟨w.src,w.xs.reverse⟩) h1
 |.en1 e,S,h=>(ev T e S h).bind λx h1=>match x with
  |.tup xs=>.ok ⟨[],ZuC xs⟩ h1
  |_=>.bad
 |.en0 e,S,h=>(ev T e S h).bind λx h1=>match x with
  |.tup xs=>.ok ⟨[],Zds xs⟩ h1
  |_=>.bad
 |.dk e,S,h=>(ev T e S h).bind λx h1=>Zx0 x h1
 |.zp a b,S,h=>(ev T a S h).bind λx h1=>(ev T b S h1).bind λy h2=>zpD x y h2
 |.tw e,S,h=>(ev T e S h).bind λx h1=>match x with
  |.str y=>.ok ⟨[],y.cps.toList.map λc=>.str ⟨#[c]⟩⟩ h1
  |_=>.bad
 |.zl a b,S,h=>(ev T a S h).bind λx h1=>(ev T b S h1).bind λy h2=>zlD x y h2
end
def Zxk(i j:Nat)(S:Ev)(x:D)(h:Hd):R (Fl×Ev):=match lstOf x h with
 |some [a,b]=>.ok (.nx,(S.set i (Wn a)).set j (Wn b)) h
 |_=>.bad
mutual
def xs1(T:Tb):Sx->Ev->Hd->R (Fl×Ev)
 |.ret e,S,h=>(ev T e S h).bind λx h1=>.ok (.rt x,S) h1
 |.set g e,S,h=>(ev T e S h).bind λx h1=>(R.ofO (ZbJ g x S) h1).bind λρ1 h2=>.ok (.nx,ρ1) h2
 |.put o i e,S,h=>(ev T e S h).bind λx h1=>(ev T o S h1).bind λy h2=>(ev T i S h2).bind λz h3=>(Zau y z x h3).bind λ_ h4=>.ok (.nx,S) h4
 |.aug i op e,S,h=>(R.ofO (S[i]?).join h).bind λx h1=>(ev T e S h1).bind λy h2=>match op,x,y with
  |.Add,.int a,.int b=>.ok (.nx,S.set i (Wn (.int (a+b)))) h2
  |_,_,_=>.bad
 |.drp e,S,h=>(ev T e S h).bind λ_ h1=>.ok (.nx,S) h1
 |.iff c a b,S,h=>(tst T c S h).bind λt h1=>if t then xs2 T a S h1 else xs2 T b S h1
 |.whl c b,S,h=>ZT (tst T c) (xs2 T b) T.L S h
 |.forr g it b,S,h=>(evi T it S h).bind λw h1=>Z3 w.src g (xs2 T b) w.xs S h1
 |.pas,S,h=>.ok (.nx,S) h
 |.brk,S,h=>.ok (.bk,S) h
 |.cnt,S,h=>.ok (.ct,S) h
 |.seta Cs o f e,S,h=>(ev T e S h).bind λd h1=>(ev T o S h1).bind λx h2=>(Zhq Cs f x d h2).bind λ_ h3=>.ok (.nx,S) h3
 |.auga Cs o f e,S,h=>(ev T o S h).bind λx h1=>(Zeu Cs f x h1).bind λv h2=>(ev T e S h2).bind λy h3=>match v,y with
  |.int a,.int b=>if (ZR x h1).map (·.1)=(ZR x h3).map (·.1)then(Zhq Cs f x (.int (a+b)) h3).bind λ_ h4=>.ok (.nx,S) h4 else .bad
  |_,_=>.bad
 |.any,_,_=>.bad
 |.rai C e,S,h=>(ev T e S h).bind λ_ h1=>.exc C h1
 |.trs i f es C,S,h=>(evs T es S h).plain.bind λxs h1=>ZuF C i S (T.C f xs h1)
 |.unl i j e,S,h=>(ev T e S h).bind λx h1=>Zxk i j S x h1
 |.raf C e,S,h=>(ev T e S h).bind λx h1=>ZxJ C x h1
 |.tre i n f es _ _ bs,S,h=>(evs T es S h).plain.bind λxs h1=>ZpC bs i n S (T.C f xs h1)
 |.npt o i e,S,h=>(ev T e S h).bind λx h1=>(ev T o S h1).bind λy h2=>(ev T i S h2).bind λz h3=>(ZpN y z x h3).bind λ_ h4=>.ok (.nx,S) h4
 |.trr f es C b,S,h=>(evs T es S h).plain.bind λxs h1=>catchR C b S (T.C f xs h1)
 |.trw i n f es _ W w,S,h=>(evs T es S h).plain.bind λxs h1=>ZuE W w i n S (T.C f xs h1)
def xs2(T:Tb):Sxs->Ev->Hd->R (Fl×Ev)
 |.nil,S,h=>.ok (.nx,S) h
 |.cons s r,S,h=>(xs1 T s S h).bind λp h1=>match p with
  |(.nx,ρ1)=>xs2 T r ρ1 h1
  |p=>.ok p h1
end
structure Fd where
 ps:List Str
 N:List Str
 body:Sxs
structure Pg where
 tb:List (Str×Fd)
 G:Str->Option D
 GD:Str->Option (List (Key×D))
 L:Nat
 ms:List (Str×Fd):=[]
noncomputable def Pg.look(P:Pg)(f:Str):Option Fd:=match P.tb.lookup f with
 |some fd=>Wn fd
 |none=>P.ms.lookup f
noncomputable def ZB(N:List Str)(ds:List D):Ev:=ds.map Wn++YJ (N.length - ds.length) Wo
noncomputable def Ze:R (Fl×Ev)->R D
 |.ok (.rt d,_) h=>.ok d h
 |.ok (.nx,_) h=>.ok .non h
 |.exc c h=>.exc c h
 |_=>.bad
def run(P:Pg):Nat->Str->List D->Hd->R D
 |0,_,_,_=>.bad
 |n+1,f,ds,h=>match P.look f with
  |none=>.bad
  |some fd=>if ds.length=fd.ps.length then Ze (xs2 ⟨P.G,P.GD,run P n,P.L⟩ fd.body (ZB fd.N ds) h)else .bad
def Pg.tbl(P:Pg)(n:Nat):Tb:=⟨P.G,P.GD,run P n,P.L⟩
def FzL(K:Yk)(H:Hp)(a:Yi)(xs:List V):Prop:=(∃o,H a=Wn (.frz o (.lst xs)))\/∃(o:Obj) (its:Array Yj) (n:Nat),K.lookup a=Wn o/\o.cls=.type "list" /\ o.dict=Wo/\o.data=.seq its n/\its.size<=sizeLine/\Zj xs its.toList
def FzL.sq{K:Yk}(h:FzL K H a xs):SqL K H a xs:=h.elim (λ⟨o,h⟩=>.inl (.inr ⟨o,h⟩)) .inr
structure Yx where
 K:Yk
 mg:Str->Option Yj
mutual
inductive RD(Y:Yx)(H:Hp)(B:List Yi):D->V->Prop
 |non:RD Y H B .non .non
 |bl (b:Bool):RD Y H B (.bl b) (.bl b)
 |int (i:Int):RD Y H B (.int i) (.int i)
 |str (x:Str) (ok:Yo x=Wp):RD Y H B (.str x) (.str x)
 |tup {a:Yi}{vs:List V}{ds:List D}:SqT Y.K H a vs->RDs Y H B ds vs->RD Y H B (.tup ds) (.ref a)
 |ref {i:Nat}{a:Yi}:B[i]? = Wn a->RD Y H B (.ref i) (.ref a)
 |ty (n:String):RD Y H B (.ty n) (.ty n)
 |ro {a:Yi}{vs:List V}{ds:List D}:FzL Y.K H a vs->RDs Y H B ds vs->RD Y H B (.ro ds) (.ref a)
 |kd {x:Str}{a:Yi}:Y.mg x=Wn (.ref a)->RD Y H B (.kd x) (.ref a)
inductive RDs(Y:Yx)(H:Hp)(B:List Yi):List D->List V->Prop
 |nil:RDs Y H B [] []
 |cons {d:D}{v:V}{ds:List D}{vs:List V}:RD Y H B d v->RDs Y H B ds vs->RDs Y H B (d::ds) (v::vs)
end
inductive RKs(Y:Yx)(H:Hp)(B:List Yi){κ:Type}:List (κ×D)->List (κ×V)->Prop
 |nil:RKs Y H B [] []
 |cons {k:κ}{d:D}{v:V}{ds:List (κ×D)}{vs:List (κ×V)}:RD Y H B d v->RKs Y H B ds vs->RKs Y H B ((k,d)::ds) ((k,v)::vs)
def RO(Y:Yx)(H:Hp)(B:List Yi)(a:Yi):DO->Prop
 |.lst ds=>∃vs,H a=Wn (.lst vs)/\RDs Y H B ds vs
 |.dic kvs=>∃kvs',H a=Wn (.dK kvs')/\RKs Y H B kvs kvs'
 |.ins C fs=>∃Ca dx fs',H a=Wn (.ins Ca dx fs')/\Y.mg C=Wn (.ref Ca)/\RKs Y H B fs fs'
 |.fdic kvs=>∃o kvs',H a=Wn (.frz o (.dK kvs'))/\RKs Y H B kvs kvs'
 |.dnk kvs=>∃kvs' xs,H a=Wn (.dT xs)/\KN Y.K H kvs' xs/\RKs Y H B kvs kvs'
def ZcW(kvs:List (Key×D)):Prop:=∀p∈kvs,∀x,p.1=.inr x->Yo x=Wp
def DOk:DO->Prop
 |.dic kvs=>ZcW kvs
 |.fdic kvs=>ZcW kvs
 |_=>True
structure RH(Y:Yx)(H:Hp)(B:List Yi)(h:Hd):Prop where
 len:h.length=B.length
 nd:B.Nodup
 ob:∀(i:Nat) (o:DO) (a:Yi),h[i]? = Wn o->B[i]? = Wn a->RO Y H B a o
 ks:∀(i:Nat) (o:DO),h[i]? = Wn o->DOk o
structure Gr(H:Hp)(B:List Yi)(H':Hp)(μ':List Yi):Prop where
 pre:∀(i:Nat) (a:Yi),B[i]? = Wn a->μ'[i]? = Wn a
 new:∀a∈μ',a∈B\/H a=Wo
 keep:∀b o,b ∉ B->H b=Wn o->H' b=Wn o
 fz:∀b o u,H b=Wn (.frz o u)->H' b=Wn (.frz o u)
def Gr.refl:Gr H B H B:=⟨λ_ _ h=>h,λ_ h=>.inl h,λ_ _ _ h=>h,λ_ _ _ h=>h⟩
def Gr.trans(a:Gr H B H1 μ1)(b:Gr H1 μ1 H2 μ2):Gr H B H2 μ2:=by
 refine⟨λi x h=>b.pre i x (a.pre i x h),λx hx=>?_,λx o hx h=>?_,λx o u h=>b.fz x o u (a.fz x o u h)⟩
 . rcases b.new x hx with h|h
   . exact a.new x h
   . by_cases hm:x∈B
     . exact .inl hm
     . cases q:H x with
       |none=>exact .inr rfl
       |some o=>rw[a.keep x o hm q]at h;cases h
 . refine b.keep x o (λhm=>?_) (a.keep x o hx h);rcases a.new x hm with z|z
   . exact hx z
   . rw[h]at z;cases z
def Mu:Option HO->Prop
 |some (.lst _)|some (.dK _)|some (.ins _ _ _)|some (.frz _ (.dK _))|some (.dT _)=>True
 |_=>False
def RO.mut(h:RO Y H B a o):Mu (H a):=by
 cases o with
 |lst ds=>obtain⟨vs,e,_⟩:=h;rw[e];trivial
 |dic ds=>obtain⟨vs,e,_⟩:=h;rw[e];trivial
 |ins C ds=>obtain⟨_,_,_,e,_⟩:=h;rw[e];trivial
 |fdic ds=>obtain⟨_,_,e,_⟩:=h;rw[e];trivial
 |dnk ds=>obtain⟨_,_,e,_⟩:=h;rw[e];trivial
def RH.mem(r:RH Y H B h)(ha:a∈B):∃(i:Nat) (o:DO),B[i]? = Wn a/\h[i]? = Wn o/\RO Y H B a o:=by
 obtain⟨i,hi⟩:=List.mem_iff_getElem?.mp ha;have hl:i<h.length:=by rw[r.len];exact(Ob.mp hi).1
 exact⟨i,h[i],hi,Og hl,r.ob i _ a (Og hl) hi⟩
theorem RH.mut(r:RH Y H B h)(ha:a∈B):Mu (H a):=let ⟨_,_,_,_,q⟩:=r.mem ha;q.mut
def Gr.rdT(r:RH Y H B h)(g:Gr H B H' μ')(t:SqT Y.K H a xs):SqT Y.K H' a xs:=by
 rcases t with t|t
 . rcases t with t|⟨o,t⟩
   . exact .inl (.inl (g.keep a _ (λhm=>by have:=r.mut hm;rw[t]at this;exact this) t))
   . exact .inl (.inr ⟨o,g.fz a _ _ t⟩)
 . exact .inr t
def Gr.rdF(r:RH Y H B h)(g:Gr H B H' μ')(t:FzL Y.K H a xs):FzL Y.K H' a xs:=by
 rcases t with ⟨o,t⟩|t
 . exact .inl ⟨o,g.fz a _ _ t⟩
 . exact .inr t
section
variable {Y:Yx}{H H':Hp}{B μ':List Yi}{h:Hd}
structure Tr(Y:Yx)(H:Hp)(B:List Yi)(H':Hp)(μ':List Yi):Prop where
 t:∀{a xs},SqT Y.K H a xs->SqT Y.K H' a xs
 f:∀{a xs},FzL Y.K H a xs->FzL Y.K H' a xs
 m:∀{i:Nat}{a},B[i]? = Wn a->μ'[i]? = Wn a
mutual
theorem RD.tr(T:Tr Y H B H' μ'):∀{d:D}{v:V},RD Y H B d v->RD Y H' μ' d v
 |_,_,.non=>.non
 |_,_,.bl b=>.bl b
 |_,_,.int i=>.int i
 |_,_,.str x ok=>.str x ok
 |_,_,.tup t s=>.tup (T.t t) (RDs.tr T s)
 |_,_,.ref e=>.ref (T.m e)
 |_,_,.ty n=>.ty n
 |_,_,.ro t s=>.ro (T.f t) (RDs.tr T s)
 |_,_,.kd e=>.kd e
theorem RDs.tr(T:Tr Y H B H' μ'):∀{d:List D}{v:List V},RDs Y H B d v->RDs Y H' μ' d v
 |_,_,.nil=>.nil
 |_,_,.cons a s=>.cons (RD.tr T a) (RDs.tr T s)
end
theorem RKs.tr(T:Tr Y H B H' μ'):∀{d:List (κ×D)}{v:List (κ×V)},RKs Y H B d v->RKs Y H' μ' d v
 |_,_,.nil=>.nil
 |_,_,.cons a s=>.cons (a.tr T) (RKs.tr T s)
def KyS.tr(T:Tr Y H B H' μ'):KyS Y.K H b k->KyS Y.K H' b k:=λ⟨c,h1,h2⟩=>⟨c,T.t h1,T.t h2⟩
theorem KN.tr(T:Tr Y H B H' μ')(r:KN Y.K H kvs xs):KN Y.K H' kvs xs:=Paired.mapP r λ_ _ z=>⟨z.1,KyS.tr T z.2.1,z.2.2⟩
theorem RO.tr(T:Tr Y H B H' μ')(q:RO Y H B a o)(e:H' a=H a):RO Y H' μ' a o:=by
 cases o with
 |lst ds=>obtain⟨vs,z,s⟩:=q;exact⟨vs,e.trans z,s.tr T⟩
 |dic ds=>obtain⟨vs,z,s⟩:=q;exact⟨vs,e.trans z,s.tr T⟩
 |ins C ds=>obtain⟨a1,a2,a3,z,m,s⟩:=q;exact⟨a1,a2,a3,e.trans z,m,s.tr T⟩
 |fdic ds=>obtain⟨o,vs,z,s⟩:=q;exact⟨o,vs,e.trans z,s.tr T⟩
 |dnk ds=>obtain⟨vs,xs,z,n,s⟩:=q;exact⟨vs,xs,e.trans z,KN.tr T n,s.tr T⟩
def Gr.tr(r:RH Y H B h)(g:Gr H B H' μ'):Tr Y H B H' μ':=⟨g.rdT r,g.rdF r,g.pre _ _⟩
def RD.mono(r:RH Y H B h)(g:Gr H B H' μ')(q:RD Y H B d v):RD Y H' μ' d v:=q.tr (g.tr r)
def RDs.mono(r:RH Y H B h)(g:Gr H B H' μ')(q:RDs Y H B d v):RDs Y H' μ' d v:=q.tr (g.tr r)
def RKs.mono{d:List (κ×D)}(r:RH Y H B h)(g:Gr H B H' μ')(q:RKs Y H B d v):RKs Y H' μ' d v:=q.tr (g.tr r)
theorem RDs.length:∀{d:List D}{v:List V},RDs Y H B d v->d.length=v.length
 |_,_,.nil=>rfl
 |_,_,.cons a s=>by rw[Os,Os,s.length]
theorem RKs.length:∀{d:List (κ×D)}{v:List (κ×V)},RKs Y H B d v->d.length=v.length
 |_,_,.nil=>rfl
 |_,_,.cons a s=>by rw[Os,Os,s.length]
theorem RDs.get:∀{ds:List D}{vs:List V},RDs Y H B ds vs->∀{i:Nat}{d:D},ds[i]? = Wn d->∃v,vs[i]? = Wn v/\RD Y H B d v
 |_,_,.nil,i,d,e=>by simp at e
 |_,_,.cons a s,0,d,e=>by cases e;exact⟨_,rfl,a⟩
 |_,_,.cons a s,i+1,d,e=>by obtain⟨v,h1,h2⟩:=RDs.get s (i:=i) (d:=d) (by simpa using e);exact⟨v,by simpa using h1,h2⟩
theorem RDs.append:∀{ds es:List D}{vs ws:List V},RDs Y H B ds vs->RDs Y H B es ws->RDs Y H B (ds++es) (vs++ws)
 |_,_,_,_,.nil,s=>s
 |_,_,_,_,.cons a r,s=>.cons a (r.append s)
theorem RDs.take:∀{ds:List D}{vs:List V} (n:Nat),RDs Y H B ds vs->RDs Y H B (ds.take n) (vs.take n)
 |_,_,0,_=>.nil
 |_,_,_+1,.nil=>.nil
 |_,_,n+1,.cons a s=>.cons a (s.take n)
theorem RDs.drop:∀{ds:List D}{vs:List V} (n:Nat),RDs Y H B ds vs->RDs Y H B (ds.drop n) (vs.drop n)
 |_,_,0,s=>s
 |_,_,_+1,.nil=>.nil
 |_,_,n+1,.cons a s=>s.drop n
theorem RDs.reverse(s:RDs Y H B ds vs):RDs Y H B ds.reverse vs.reverse:=by
 have gen:∀{ds es:List D}{vs ws:List V},RDs Y H B ds vs->RDs Y H B es ws->RDs Y H B (ds.reverseAux es) (vs.reverseAux ws):=by
  intro ds;induction ds with
  |nil=>intro es vs ws a b;cases a;exact b
  |cons d ds ih=>
   intro es vs ws a b;cases a with
   |cons a s=>have z:=ih s (RDs.cons a b);exact z
 exact gen s .nil
theorem RDs.dropLast(s:RDs Y H B ds vs):RDs Y H B ds.dropLast vs.dropLast:=by rw[List.dropLast_eq_take,List.dropLast_eq_take,s.length];exact s.take _
theorem RDs.set(r:RD Y H B d v):∀{ds:List D}{vs:List V} (i:Nat),RDs Y H B ds vs->RDs Y H B (ds.set i d) (vs.set i v)
 |_,_,_,.nil=>.nil
 |_,_,0,.cons _ s=>.cons r s
 |_,_,i+1,.cons a s=>.cons a (RDs.set r i s)
def RDs.cut(s:RDs Y H B ds vs)(lo hi:Option Int):RDs Y H B (cutD ds lo hi) (Zj0 vs lo hi):=by unfold cutD Zj0;rw[s.length];exact(s.drop _).take _
theorem RDs.isEmpty(s:RDs Y H B ds vs):ds.isEmpty=vs.isEmpty:=by cases s<;>rfl
theorem RDs.atI(s:RDs Y H B ds vs)(e:L2.atI ds i=Wn d):∃v,L2.atI vs i=Wn v/\RD Y H B d v:=by
 unfold L2.atI at e ⊢;rw[s.length]at e;cases q:ixN vs.length i with
 |none=>rw[q]at e;cases e
 |some j=>rw[q]at e;exact s.get (i:=j) e
theorem RKs.val[DecidableEq κ]:∀{ds:List (κ×D)}{vs:List (κ×V)},RKs Y H B ds vs->∀(k:κ),((ds.find? λp=>Wt (p.1=k))=Wo/\(vs.find? λp=>Wt (p.1=k))=Wo)\/∃d v,(ds.find? λp=>Wt (p.1=k))=Wn (k,d)/\(vs.find? λp=>Wt (p.1=k))=Wn (k,v)/\RD Y H B d v
 |_,_,.nil,k=>.inl ⟨rfl,rfl⟩
 |_,_,.cons (k:=k') (d:=d) (v:=v) a s,k=>by
  by_cases e:k'=k
  . subst e;exact .inr ⟨d,v,by simp,by simp,a⟩
  . rcases s.val k with ⟨h1,h2⟩|⟨d,v,h1,h2,h3⟩
    . exact .inl ⟨by simp[e,h1],by simp[e,h2]⟩
    . exact .inr ⟨d,v,by simp[e,h1],by simp[e,h2],h3⟩
end
def Zud{α:Type}{l:List α}(hl:l.Nodup){i j:Nat}{x:α}(a:l[i]? = Wn x)(b:l[j]? = Wn x):i=j:=by obtain⟨h1,e1⟩:=Ob.mp a;obtain⟨h2,e2⟩:=Ob.mp b;exact(List.getElem_inj hl).mp (e1.trans e2.symm)
section
variable {Y:Yx}{H:Hp}{B:List Yi}{h:Hd}
def Gr.add(g:Gr H0 μ0 H B)(hp:H0 p=Wo):Gr H0 μ0 H (B++[p]):=⟨λi a e=>by have e:=g.pre i a e;rw[Oe (Ob.mp e).1];exact e,λa ha=>(OD.mp ha).elim (g.new a) λz=>by rw[Ox.mp z];exact .inr hp,g.keep,g.fz⟩
def ZnL{H0 H:Hp}(hp:H0 p=Wo)(e:H0 b=Wn u):upd H p o b=H b:=Zk λz=>by rw[z,hp]at e;cases e
def Gr.put(g:Gr H0 μ0 H B)(hp:H0 p=Wo):Gr H0 μ0 (upd H p o) B:=⟨g.pre,g.new,λb u hb e=>(ZnL hp e).trans (g.keep b u hb e),λb u v e=>(ZnL hp e).trans (g.fz b u v e)⟩
def Gr.lay0(hp:H p=Wo):Gr H B (upd H p o) B:=Gr.refl.put hp
def Gr.lay(hp:H p=Wo):Gr H B (upd H p o) (B++[p]):=(Gr.lay0 hp).add hp
def NF:Option HO->Prop
 |some (.frz _ _)=>False
 |_=>True
def Gr.write(hp:p∈B)(nf:NF (H p)):Gr H B (upd H p o) B:=⟨λ_ _ e=>e,λa ha=>.inl ha,λb u hb e=>by rw[Zk (show b≠p from λz=>hb (by rw[z];exact hp))];exact e,λb u v e=>by rw[Zk (λz=>by rw[z]at e;rw[e]at nf;exact nf)];exact e⟩
def RO.mono(r:RH Y H B h)(g:Gr H B H' μ')(q:RO Y H B a o)(e:H' a=H a):RO Y H' μ' a o:=q.tr (g.tr r) e
theorem RH.tr(r:RH Y H B h)(T:Tr Y H B H' B)(k:∀a∈B,H' a=H a):RH Y H' B h:=⟨r.len,r.nd,λi o a e1 e2=>(r.ob i o a e1 e2).tr T (k a (O1 e2)),r.ks⟩
def RH.keep(r:RH Y H B h)(g:Gr H B H' B)(k:∀a∈B,H' a=H a):RH Y H' B h:=r.tr (g.tr r) k
def Tr.more:Tr Y H B H (B++[p]):=⟨id,id,λe=>by rw[Oe (Ob.mp e).1];exact e⟩
def Zt5(k:∀(i:Nat) (o:DO),h[i]? = Wn o->DOk o)(dk:DOk o):∀(i:Nat) (o':DO),(h++[o])[i]? = Wn o'->DOk o':=by
 intro i o' e1;by_cases hi:i<h.length
 . rw[Oe hi]at e1;exact k i o' e1
 . have hi':i=h.length:=by
    have:=(Ob.mp e1).1;simp at this
    lia
   subst hi';rw[Om (Oq _)]at e1;simp at e1;subst e1;exact dk
def RH.add(r:RH Y H B h)(np:p ∉ B)(n:RO Y H (B++[p]) p o)(dk:DOk o:=by trivial):RH Y H (B++[p]) (h++[o]):=by
 refine⟨by simp[r.len],?_,λi o' a e1 e2=>?_,Zt5 r.ks dk⟩
 . rw[List.nodup_append];refine⟨r.nd,by simp,λa ha b hb=>?_⟩;rw[Ox.mp hb];intro z;exact np (z ▸ ha)
 . by_cases hi:i<h.length
   . rw[Oe hi]at e1;rw[Oe (by rw[<- r.len];exact hi)]at e2;exact(r.ob i o' a e1 e2).tr .more rfl
   . have hi':i=h.length:=by
      have:=(Ob.mp e1).1;simp at this
      lia
     subst hi';rw[Om (Oq _)]at e1;rw[Om (by rw[r.len];exact Oq _)]at e2;simp[r.len]at e1 e2;subst e1;subst e2;exact n
def RH.fr(r:RH Y H B h)(hp:H p=Wo):p ∉ B:=λz=>by have:=r.mut z;rw[hp]at this;exact this
theorem RH.lay0(r:RH Y H B h)(hp:H p=Wo):RH Y (upd H p u) B h:=r.keep (Gr.lay0 hp) λa ha=>Zk λz=>r.fr hp (z ▸ ha)
def RH.lay(r:RH Y H B h)(hp:H p=Wo)(n:RO Y (upd H p u) (B++[p]) p o)(dk:DOk o:=by trivial):RH Y (upd H p u) (B++[p]) (h++[o]):=(r.lay0 hp).add (r.fr hp) n dk
theorem RH.write{p:Yi}{i:Nat}{u:HO}{o:DO}(r:RH Y H B h)(hp:B[i]? = Wn p)(n:RO Y (upd H p u) B p o)(nf:NF (H p))(dk:DOk o:=by trivial):RH Y (upd H p u) B (h.set i o):=by
 have hm:p∈B:=O1 hp;refine⟨by simp[r.len],r.nd,λj o' a e1 e2=>?_,λj o' e1=>?_⟩
 rotate_right
 . by_cases hj:j=i
   . subst hj;have hl:j<h.length:=by rw[r.len];exact(Ob.mp hp).1
     rw[Ol hl]at e1;cases e1;exact dk
   . rw[Oc (YK hj)]at e1;exact r.ks j o' e1
 by_cases hj:j=i
 . subst hj;rw[hp]at e2;cases e2;have hl:j<h.length:=by rw[r.len];exact(Ob.mp hp).1
   rw[Ol hl]at e1;cases e1;exact n
 . rw[Oc (YK hj)]at e1;refine(r.ob j o' a e1 e2).mono r (Gr.write hm nf) (Zk λz=>hj ?_);subst z;exact Zud r.nd e2 hp
end
def Fin(Y:Yx)(rel:Hp->List Yi->α->β->Prop)(H:Hp)(B:List Yi)(r:R α)(Q:β->Hp->Prop)(E:XK):Prop:=match r with
 |.bad=>False
 |.ok a h'=>∀b H' μ',Gr H B H' μ'->RH Y H' μ' h'->rel H' μ' a b->Q b H'
 |.exc c h'=>∀H' μ' C,Gr H B H' μ'->RH Y H' μ' h'->Y.mg c=Wn (.ref C)->E (.ref C) Wo H'
section
variable {Y:Yx}{α β α' β':Type}{rel:Hp->List Yi->α->β->Prop}{rel':Hp->List Yi->α'->β'->Prop}{H H1:Hp}{B μ1:List Yi}{E:XK}
def Fin.mono(g:Gr H B H1 μ1)(f:Fin Y rel H B r Q E):Fin Y rel H1 μ1 r Q E:=by
 cases r with
 |bad=>exact f
 |ok a h=>exact λb H' μ' g'=>f b H' μ' (g.trans g')
 |exc c h=>exact λH' μ' C g'=>f H' μ' C (g.trans g')
theorem Fin.bind(f:Fin Y rel' H B (r.bind k) Q E)
 (hk:∀a h1 b H1 μ1,r=.ok a h1->Gr H B H1 μ1->RH Y H1 μ1 h1->rel H1 μ1 a b->Fin Y rel' H1 μ1 (k a h1) Q E->Q1 b H1):Fin Y rel H B r Q1 E:=by
 cases r with
 |bad=>exact f
 |ok a h=>exact λb H' μ' g' rh rl=>hk a h b H' μ' rfl g' rh rl (Fin.mono g' f)
 |exc c h=>exact f
theorem Fin.ok(f:Fin Y rel H B (.ok a h) Q E)(rh:RH Y H B h)(r:rel H B a b):Q b H:=f b H B Gr.refl rh r
def Fin.at(f:Fin Y rel H B (.ok a h) Q E)(g:Gr H B H1 μ1)(rh:RH Y H1 μ1 h)(r:rel H1 μ1 a b):Q b H1:=f b H1 μ1 g rh r
theorem Fin.ofO(f:Fin Y rel H B (R.ofO o h) Q E):∃a,o=Wn a/\Fin Y rel H B (.ok a h) Q E:=by
 cases o with
 |none=>exact f.elim
 |some a=>exact⟨a,rfl,f⟩
def Fin.iff[Decidable c](f:Fin Y rel H B (if c then r else .bad) Q E):c/\Fin Y rel H B r Q E:=by
 by_cases h:c
 . rw[if_pos h]at f;exact⟨h,f⟩
 . rw[if_neg h]at f;exact f.elim
def Fin.new(f:Fin Y (RD Y) H B (Zba o h) Q E)(rh:RH Y H B h)(hp:H p=Wo)(n:RO Y (upd H p u) (B++[p]) p o)(dk:DOk o:=by trivial):Q (.ref p) (upd H p u):=f.at (Gr.lay hp) (rh.lay hp n dk) (.ref (by rw[rh.len];simp))
theorem Fin.tup(f:Fin Y (RD Y) H B (.ok (.tup ds) h) Q E)(rh:RH Y H B h)(hp:H p=Wo)(r:RDs Y H B ds vs):Q (.ref p) (upd H p (.tup vs)):=f.at (Gr.lay0 hp) (rh.lay0 hp) (.tup (.inl (.inl Zh)) (r.mono rh (Gr.lay0 hp)))
def Fin.wrote(f:Fin Y rel H B (.ok a (h.set i o)) Q E)(rh:RH Y H B h)(hp:B[i]? = Wn p)(n:RO Y (upd H p u) B p o)(r:rel (upd H p u) B a b)(nf:NF (H p))(dk:DOk o:=by trivial):Q b (upd H p u):=f.at (Gr.write (O1 hp) nf) (rh.write hp n nf dk) r
end
section
variable {Y:Yx}{H:Hp}{B:List Yi}{h:Hd}
theorem RD.lst(rh:RH Y H B h)(r:RD Y H B (.ref i) v)(e:h[i]? = Wn (.lst xs)):∃a vs,v=.ref a/\B[i]? = Wn a/\H a=Wn (.lst vs)/\RDs Y H B xs vs:=by
 cases r with
 |ref q=>obtain⟨vs,h1,h2⟩:=rh.ob i _ _ e q;exact⟨_,vs,rfl,q,h1,h2⟩
theorem RD.dic(rh:RH Y H B h)(r:RD Y H B (.ref i) v)(e:h[i]? = Wn (.dic xs)):∃a vs,v=.ref a/\B[i]? = Wn a/\H a=Wn (.dK vs)/\RKs Y H B xs vs:=by
 cases r with
 |ref q=>obtain⟨vs,h1,h2⟩:=rh.ob i _ _ e q;exact⟨_,vs,rfl,q,h1,h2⟩
theorem RD.lstOf(rh:RH Y H B h)(r:RD Y H B d v)(e:lstOf d h=Wn xs):∃a vs,v=.ref a/\SqL Y.K H a vs/\RDs Y H B xs vs:=by
 cases d with
 |ref i=>
  unfold IV.lstOf at e;simp only at e;split at e
  . cases e;rename_i q;obtain⟨a,vs,h1,h2,h3,h4⟩:=r.lst rh q;exact⟨a,vs,h1,.of h3,h4⟩
  . cases e
 |ro ys=>
  cases e;cases r with
  |ro q s=>exact⟨_,_,rfl,q.sq,s⟩
 |_=>cases e
theorem RD.seqOf(rh:RH Y H B h)(r:RD Y H B d v)(e:seqOf d h=Wn xs):∃a vs,v=.ref a/\(SqL Y.K H a vs\/SqT Y.K H a vs)/\RDs Y H B xs vs:=by
 by_cases ht:∃ys,d=.tup ys
 . obtain⟨ys,rfl⟩:=ht;cases e;cases r with
   |tup q s=>exact⟨_,_,rfl,.inr q,s⟩
 . have e':IV.lstOf d h=Wn xs:=by
    cases d with
    |tup ys=>exact absurd ⟨ys,rfl⟩ ht
    |_=>exact e
   obtain⟨a,vs,h1,h2,h3⟩:=r.lstOf rh e';exact⟨a,vs,h1,.inl h2,h3⟩
def RD.int_inv(r:RD Y H B (.int i) v):v=.int i:=by cases r;rfl
def RD.str_inv(r:RD Y H B (.str i) v):v=.str i/\Yo i=Wp:=by cases r with|str x ok=>exact⟨rfl,ok⟩
def RD.tup_inv(r:RD Y H B (.tup ds) v):∃a vs,v=.ref a/\SqT Y.K H a vs/\RDs Y H B ds vs:=by cases r with|tup q s=>exact⟨_,_,rfl,q,s⟩
def ZhN(hx:Yo x=Wp)(hy:Yo y=Wp):Yo (x++y)=Wp:=by show(x.cps++y.cps).all _=Wp;rw[Array.all_append];unfold Yo at hx hy;rw[hx,hy];rfl
def ZoM(hx:Yo x=Wp)(n:Nat):Yo (Zfr x n)=Wp:=by
 have gen:∀(n:Nat) (a:Array Nat),a.all (·<0x110000)=Wp->((YJ n x.cps).foldl (·++·) a).all (·<0x110000)=Wp:=by
  intro n;induction n with
  |zero=>intro a h;exact h
  |succ n ih=>intro a h;rw[List.replicate_succ,Wi];refine ih _ ?_;rw[Array.all_append,h];exact hx
 exact gen n #[] (by simp)
def ZoN(hx:Yo x=Wp)(h:c∈x.cps.toList):Yo ⟨#[c]⟩=Wp:=by unfold Yo at hx ⊢;rw[Array.all_eq_true']at hx;have:=hx c (by simpa using h);simpa using this
def Zrd(h:atI xs i=Wn x):x∈xs:=by
 unfold atI at h;cases q:ixN xs.length i with
 |none=>rw[q]at h;cases h
 |some j=>rw[q]at h;exact O1 (i:=j) h
end
section
variable {X:Cx}{Y:Yx}{E:XK}
noncomputable def rB(Y:Yx)(E:XK)(f:D->D->Hd->R D):R2:=λx y H Q=>∃dx dy h B,RH Y H B h/\RD Y H B dx x/\RD Y H B dy y/\Fin Y (RD Y) H B (f dx dy h) Q E
theorem Fin.int2(f:Fin Y (RD Y) H B (int2 x y k) Q E):∃i j,x=.int i/\y=.int j/\Fin Y (RD Y) H B (k i j) Q E:=by
 cases x with
 |int i=>
  cases y with
  |int j=>exact⟨i,j,rfl,rfl,f⟩
  |_=>exact f.elim
 |_=>exact f.elim
def ZtI(hY:Y.K=X.K)(op:Operator):OpR X (binaryOp op) (rB Y E (opB op)):=by
 intro pins s Z H x y v u Q I rx ry hh;obtain⟨dx,dy,h,B,rh,r1,r2,f⟩:=hh;cases op with
 |Add=>
  have f:Fin Y (RD Y) H B (ZrX dx dy h) Q E:=f;cases dx with
  |int i=>
   cases dy with
   |int j=>cases r1;cases r2;exact ZtG pins s Z H _ _ v u Q I rx ry ⟨_,_,rfl,rfl,f.ok rh (.int _)⟩
   |_=>exact f.elim
  |str i=>
   cases dy with
   |str j=>
    obtain⟨hz,f⟩:=Fin.iff f;cases r1 with|str _ o1=>
    cases r2 with|str _ o2=>
    exact ZkI pins s Z H _ _ v u Q I rx ry ⟨_,_,rfl,rfl,hz,f.ok rh (.str _ (ZhN o1 o2))⟩
   |_=>exact f.elim
  |tup xs=>
   cases dy with
   |tup ys=>
    obtain⟨hz,f⟩:=Fin.iff f;obtain⟨a,vs,rfl,t1,s1⟩:=r1.tup_inv;obtain⟨b,ws,rfl,t2,s2⟩:=r2.tup_inv;rw[s1.length,s2.length]at hz;by_cases h0:vs=[]
    . subst h0;cases s1;exact ZqW pins s Z H _ _ v u Q I rx ry ⟨a,b,ws,rfl,rfl,hY ▸ t1,hY ▸ t2,f.ok rh (.tup t2 s2)⟩
    . refine ZqV pins s Z H _ _ v u Q I rx ry ⟨a,b,vs,ws,rfl,rfl,hY ▸ t1,hY ▸ t2,h0,hz,λe=>?_,λe p hp=>f.tup rh hp (s1.append s2)⟩;subst e;cases s2;rw[Ys]at f;exact f.ok rh (.tup t1 s1)
   |_=>exact f.elim
  |ref i=>
   cases dy with
   |ref j=>
    unfold ZrX at f;simp only at f;split at f
    . rename_i e1;split at f
      . rename_i e2;obtain⟨hz,f⟩:=f.iff;obtain⟨a,vs,rfl,_,h1,s1⟩:=r1.lst rh e1;obtain⟨b,ws,rfl,_,h2,s2⟩:=r2.lst rh e2;rw[s1.length,s2.length]at hz;exact ZtF pins s Z H _ _ v u Q I rx ry ⟨a,b,vs,ws,rfl,rfl,h1,h2,hz,λp hp=>f.new rh hp ⟨_,Zh,(s1.append s2).mono rh (Gr.lay hp)⟩⟩
      . exact f.elim
    . exact f.elim
   |_=>exact f.elim
  |_=>exact f.elim
 |Sub=>obtain⟨i,j,rfl,rfl,f⟩:=Fin.int2 f;cases r1;cases r2;exact Ztz pins s Z H _ _ v u Q I rx ry ⟨_,_,rfl,rfl,f.ok rh (.int _)⟩
 |Mult=>
  have f:Fin Y (RD Y) H B (Zv7 dx dy h) Q E:=f;cases dx with
  |str z=>
   cases dy with
   |int n=>
    obtain⟨hz,f⟩:=Fin.iff f;cases r1 with|str _ o1=>
    cases r2;exact ZqT pins s Z H _ _ v u Q I rx ry ⟨_,_,rfl,rfl,hz.1,hz.2.1,hz.2.2,f.ok rh (.str _ (ZoM o1 _))⟩
   |_=>exact f.elim
  |int i=>obtain⟨i,j,e1,rfl,f⟩:=Fin.int2 (show Fin Y (RD Y) H B (IV.int2 (.int i) dy λi j=>if i.natAbs<2 ^ 2000/\j.natAbs<2 ^ 2000 then .ok (.int (i * j)) h else .bad) Q E from f);cases e1;obtain⟨hz,f⟩:=f.iff;cases r1;cases r2;exact Zm7 pins s Z H _ _ v u Q I rx ry ⟨_,_,rfl,rfl,hz,f.ok rh (.int _)⟩
  |_=>exact f.elim
 |Mod=>obtain⟨i,j,rfl,rfl,f⟩:=Fin.int2 f;obtain⟨hz,f⟩:=f.iff;cases r1;cases r2;exact ZtB pins s Z H _ _ v u Q I rx ry ⟨_,_,rfl,rfl,hz,f.ok rh (.int _)⟩
 |FloorDiv=>obtain⟨i,j,rfl,rfl,f⟩:=Fin.int2 f;obtain⟨hz,f⟩:=f.iff;cases r1;cases r2;exact ZqU pins s Z H _ _ v u Q I rx ry ⟨_,_,rfl,rfl,hz,f.ok rh (.int _)⟩
 |Pow=>obtain⟨i,j,rfl,rfl,f⟩:=Fin.int2 f;obtain⟨hz,f⟩:=f.iff;cases r1;cases r2;exact ZtA pins s Z H _ _ v u Q I rx ry ⟨_,_,rfl,rfl,hz,f.ok rh (.int _)⟩
 |_=>exact f.elim
end
set_option tactic.hygienic true
structure Gk(X:Cx)(Y:Yx)(T:Tb):Prop where
 K:Y.K=X.K
 mg:Y.mg=X.mg
 gd:∀x kvs,T.GD x=Wn kvs->∃a kvs',X.mg x=Wn (.ref a)/\DkK X.prog X.w X.K a kvs'/\∀H B,RKs Y H B kvs kvs'
 g:∀x d,T.G x=Wn d->∃v u,X.mg x=Wn u/\RelV v u/\∀H B,RD Y H B d v
 bare:Zgp X.K=Wp
section
variable {X:Cx}{Y:Yx}{E:XK}{T:Tb}{H:Hp}{B:List Yi}{h:Hd}
theorem RD.dicOf(G:Gk X Y T)(rh:RH Y H B h)(r:RD Y H B d v)(e:dicOf T.GD d h=Wn kvs):∃a kvs',v=.ref a/\Dk X.prog X.w X.K H a kvs'/\RKs Y H B kvs kvs':=by
 cases d with
 |ref i=>
  unfold IV.dicOf at e;simp only at e;split at e
  . cases e;rename_i q;obtain⟨a,vs,h1,_,h3,h4⟩:=r.dic rh q;exact⟨a,vs,h1,.inl (.inl h3),h4⟩
  . cases e;rename_i q;cases r with
    |ref qm=>obtain⟨o,vs,h1,h2⟩:=rh.ob i _ _ q qm;exact⟨_,vs,rfl,.inl (.inr ⟨o,h1⟩),h2⟩
  . cases e
 |kd x=>
  obtain⟨a,kvs',h1,h2,h3⟩:=G.gd x kvs e;cases r with
  |kd q=>rw[G.mg,h1]at q;cases q;exact⟨a,kvs',rfl,.inr h2,h3 H B⟩
 |_=>cases e
def Zo5(r:RD Y H B d v)(e:keyOf d=Wn k):∀x,k=.inr x->Yo x=Wp:=by
 cases d with
 |int i=>cases e;intro x z;cases z
 |str i=>
  cases e;intro x z;cases z;cases r with
  |str _ ok=>exact ok
 |_=>cases e
def ZgK(h:ZcW kvs)(hk:∀x,k=.inr x->Yo x=Wp):ZcW (putD kvs k c):=by
 intro p hp x e;unfold putD at hp;split at hp
 . obtain⟨q,hq,rfl⟩:=List.mem_map.mp hp;refine h q hq x ?_;split at e<;>exact e
 . rcases OD.mp hp with hp|hp
   . exact h p hp x e
   . rw[Ox.mp hp]at e;exact hk x e
def ZdV(r:RD Y H B d v)(e:keyOf d=Wn k):v=kV k:=by
 cases d with
 |int i=>cases e;cases r;rfl
 |str i=>cases e;cases r;rfl
 |_=>cases e
def RKs.valV_rel(s:RKs Y H B ds vs)(k:Key):(ZK ds k=Wo/\Zbz vs k=Wo)\/∃d v,ZK ds k=Wn d/\Zbz vs k=Wn v/\RD Y H B d v:=by
 unfold ZK Zbz;rcases s.val k with ⟨h1,h2⟩|⟨d,v,h1,h2,h3⟩
 . exact .inl ⟨by rw[h1];rfl,by rw[h2];rfl⟩
 . exact .inr ⟨d,v,by rw[h1];rfl,by rw[h2];rfl,h3⟩
theorem RKs.any_rel[DecidableEq κ](k:κ):∀{ds:List (κ×D)}{vs:List (κ×V)},RKs Y H B ds vs->(ds.any λkv=>Wt (kv.1=k))=(vs.any λkv=>Wt (kv.1=k))
 |_,_,.nil=>rfl
 |_,_,.cons a s=>by rw[YY,YY,s.any_rel k]
theorem RKs.map_rel[DecidableEq κ](k:κ)(r:RD Y H B d v):∀{ds:List (κ×D)}{vs:List (κ×V)},RKs Y H B ds vs->RKs Y H B (ds.map λkv=>if kv.1=k then(kv.1,d)else kv) (vs.map λkv=>if kv.1=k then(kv.1,v)else kv)
 |_,_,.nil=>.nil
 |_,_,.cons (k:=k') a s=>by
  rw[Op,Op];by_cases e:k'=k
  . rw[if_pos e,if_pos e];exact .cons r (s.map_rel k r)
  . rw[if_neg e,if_neg e];exact .cons a (s.map_rel k r)
theorem RKs.append:∀{ds es:List (κ×D)}{vs ws:List (κ×V)},RKs Y H B ds vs->RKs Y H B es ws->RKs Y H B (ds++es) (vs++ws)
 |_,_,_,_,.nil,s=>s
 |_,_,_,_,.cons a r,s=>.cons a (r.append s)
def RKs.put(s:RKs Y H B ds vs)(k:Key)(r:RD Y H B d v):RKs Y H B (putD ds k d) (putK vs k v):=by
 unfold putD putK;rw[s.any_rel k];split
 . exact s.map_rel k r
 . exact s.append (.cons r .nil)
mutual
theorem RD.dp(rh:RH Y H B h)(rd:Nat->Option PyData)(hr:∀i p a,rd i=Wn p->B[i]? = Wn a->Dp Y.K H (.ref a) p):∀{d:D}{v:V}{p:PyData},RD Y H B d v->D.py rd d=Wn p->Dp Y.K H v p
 |_,_,_,.non,e=>by cases e;exact .non
 |_,_,_,.bl b,e=>by cases e;exact .bl b
 |_,_,_,.int i,e=>by cases e;exact .int i
 |_,_,_,.str x ok,e=>by cases e;exact .str x ok
 |_,_,_,.tup t s,e=>by rw[D.py]at e;obtain⟨ps,e1,rfl⟩:=Oo.mp e;exact .tup t (RDs.dps rh rd hr s e1)
 |_,_,_,.ref q,e=>hr _ _ _ e q
 |_,_,_,.ty n,e=>by cases e
 |_,_,_,.ro t s,e=>by rw[D.py]at e;obtain⟨ps,e1,rfl⟩:=Oo.mp e;exact .lst t.sq (RDs.dps rh rd hr s e1)
 |_,_,_,.kd q,e=>by cases e
theorem RDs.dps(rh:RH Y H B h)(rd:Nat->Option PyData)(hr:∀i p a,rd i=Wn p->B[i]? = Wn a->Dp Y.K H (.ref a) p):∀{d:List D}{v:List V}{p:List PyData},RDs Y H B d v->D.pys rd d=Wn p->Dps Y.K H v p
 |_,_,_,.nil,e=>by cases e;exact .nil
 |_,_,_,.cons a s,e=>by rw[D.pys]at e;obtain⟨q,e1,e2⟩:=Option.bind_eq_some_iff.mp e;obtain⟨qs,e3,rfl⟩:=Oo.mp e2;exact .cons (RD.dp rh rd hr a e1) (RDs.dps rh rd hr s e3)
end
theorem ZlJ(rh:RH Y H B h):∀(n i:Nat) (p:PyData) (a:Yi),Zdc h n i=Wn p->B[i]? = Wn a->Dp Y.K H (.ref a) p
 |0,i,p,a,e,q=>by cases e
 |n+1,i,p,a,e,q=>by
  rw[Zdc]at e;split at e
  . rename_i xs he;obtain⟨ps,e1,rfl⟩:=Oo.mp e;obtain⟨vs,z,s⟩:=rh.ob i _ a he q;exact .lst (.of z) (RDs.dps rh _ (ZlJ rh n) s e1)
  . cases e
def Zgh(rh:RH Y H B h)(r:RD Y H B d v)(e:Zdd h d=Wn p):Dp Y.K H v p:=r.dp rh _ (ZlJ rh 4) e
def ZgV(r:RD Y H B d v)(f:d.flat=Wp):Zee v=Wp:=by cases r<;>first|rfl|cases f
theorem Zfz:∀{ds:List D}{vs:List V},RDs Y H B ds vs->ds.all D.flat=Wp->vs.all Zee=Wp
 |_,_,.nil,_=>rfl
 |_,_,.cons a s,f=>by rw[List.all_cons,Oa]at f;rw[List.all_cons,ZgV a f.1,Zfz s f.2];rfl
def ZuA(r:RD Y H B d v)(q:RD Y H B e w)(f:d.flat=Wp)(g:e.flat=Wp):eqF d e=eqV v w:=by cases r<;>cases q<;>first|rfl|exact absurd f (by simp[D.flat])|exact absurd g (by simp[D.flat])
theorem any_rel(q:RD Y H B e w)(g:e.flat=Wp):∀{ds:List D}{vs:List V},RDs Y H B ds vs->ds.all D.flat=Wp->(ds.any λz=>eqF z e)=vs.any λy=>eqV y w
 |_,_,.nil,_=>rfl
 |_,_,.cons a s,f=>by rw[List.all_cons,Oa]at f;rw[YY,YY,ZuA a q f.1 g,any_rel q g s f.2]
def Zq3(hr:Room k X.A)(h60:60<=k)(hY:Y.K=X.K):OpR X (YL .Eq) (rB Y E (Zav Wq)):=by
 intro pins s Z H x y v u Q I rx ry hh;obtain⟨dx,dy,h,B,rh,r1,r2,f⟩:=hh;unfold Zav at f;split at f
 . rename_i e1 e2;obtain⟨hz,f⟩:=f.iff;have d1:=Zgh rh r1 e1;have d2:=Zgh rh r2 e2;rw[hY]at d1 d2;obtain⟨as,q1⟩:=I.reads d1 rx;obtain⟨bs,q2⟩:=I.reads d2 ry;have:=hr.un;exact SeqAt.compareEq_reads q1 q2 d1.lay d2.lay (by lia) ⟨.bl _,H,I,rfl,f.ok rh (.bl _)⟩
 . exact f.elim
def ZqY(hr:Room k X.A)(h60:60<=k)(hY:Y.K=X.K):OpR X (YL .NotEq) (rB Y E (Zav Wp)):=by
 intro pins s Z H x y v u Q I rx ry hh;obtain⟨dx,dy,h,B,rh,r1,r2,f⟩:=hh;unfold Zav at f;split at f
 . rename_i e1 e2;obtain⟨hz,f⟩:=f.iff;have d1:=Zgh rh r1 e1;have d2:=Zgh rh r2 e2;rw[hY]at d1 d2;obtain⟨as,q1⟩:=I.reads d1 rx;obtain⟨bs,q2⟩:=I.reads d2 ry;have:=hr.un;exact SeqAt.compareNe_reads q1 q2 d1.lay d2.lay (by lia) ⟨.bl _,H,I,rfl,f.ok rh (.bl _)⟩
 . exact f.elim
def Zgi(ho:OpR X (YL op) (rI0 λi j=>.bl (g i j))):OpR X (YL op) (rB Y E (Zio g)):=by
 intro pins s Z H x y v u Q I rx ry hh;obtain⟨dx,dy,h,B,rh,r1,r2,f⟩:=hh;unfold Zio at f;split at f
 . cases r1;cases r2;exact ho pins s Z H _ _ v u Q I rx ry ⟨_,_,rfl,rfl,f.ok rh (.bl _)⟩
 . exact f.elim
def ZlZ(r:RD Y H B d v):Wt (d=.non)=Wt (v=.non):=by cases r<;>simp
def Zq1:OpR X (YL .Is) (rB Y E (opN Wq)):=by
 intro pins s Z H x y v u Q I rx ry hh;obtain⟨dx,dy,h,B,rh,r1,r2,f⟩:=hh;unfold opN at f;split at f
 . cases r2;have z:=ZlZ r1;simp only[OG,if_false,z]at f;exact ZtC pins s Z H _ _ v u Q I rx ry ⟨rfl,f.ok rh (.bl _)⟩
 . exact f.elim
def Zm9:OpR X (YL .IsNot) (rB Y E (opN Wp)):=by
 intro pins s Z H x y v u Q I rx ry hh;obtain⟨dx,dy,h,B,rh,r1,r2,f⟩:=hh;unfold opN at f;split at f
 . cases r2;have z:=ZlZ r1;simp only[if_true,z]at f;exact ZqS pins s Z H _ _ v u Q I rx ry ⟨rfl,f.ok rh (.bl _)⟩
 . exact f.elim
def Zq2(G:Gk X Y T):OpR X (YL .In) (rB Y E (ZbU T.GD Wq)):=by
 intro pins s Z H x y v u Q I rx ry hh;obtain⟨dx,dy,h,B,rh,r1,r2,f⟩:=hh;unfold ZbU at f;split at f
 . rename_i xs e1;obtain⟨hz,f⟩:=f.iff;rw[Oa]at hz;obtain⟨a,vs,rfl,hs,rs⟩:=r2.seqOf rh e1;have q:=f.ok rh (.bl _);simp only[OG,if_false,any_rel r1 hz.1 rs hz.2]at q;exact Zm8 pins s Z H _ _ v u Q I rx ry ⟨a,vs,rfl,G.K ▸ hs,ZgV r1 hz.1,Zfz rs hz.2,q⟩
 . split at f
   . rename_i kvs k e1 e2;obtain⟨a,kvs',rfl,hd,rk⟩:=r2.dicOf G rh e1;have q:=f.ok rh (.bl _);have z:(ZK kvs k).isSome=(Zbz kvs' k).isSome:=by rcases rk.valV_rel k with ⟨h1,h2⟩|⟨d,v,h1,h2,_⟩<;>rw[h1,h2]<;>rfl
     rw[z]at q;exact ZtE pins s Z H _ _ v u Q I rx ry ⟨a,kvs',k,rfl,ZdV r1 e2,hd,q⟩
   . exact f.elim
def ZkJ(G:Gk X Y T):OpR X (YL .NotIn) (rB Y E (ZbU T.GD Wp)):=by
 intro pins s Z H x y v u Q I rx ry hh;obtain⟨dx,dy,h,B,rh,r1,r2,f⟩:=hh;unfold ZbU at f;split at f
 . rename_i xs e1;obtain⟨hz,f⟩:=f.iff;rw[Oa]at hz;obtain⟨a,vs,rfl,hs,rs⟩:=r2.seqOf rh e1;have q:=f.ok rh (.bl _);simp only[if_true,any_rel r1 hz.1 rs hz.2]at q;exact Zin pins s Z H _ _ v u Q I rx ry ⟨a,vs,rfl,G.K ▸ hs,ZgV r1 hz.1,Zfz rs hz.2,q⟩
 . split at f
   . rename_i kvs k e1 e2;obtain⟨a,kvs',rfl,hd,rk⟩:=r2.dicOf G rh e1;have q:=f.ok rh (.bl _);have z:(ZK kvs k).isSome=(Zbz kvs' k).isSome:=by rcases rk.valV_rel k with ⟨h1,h2⟩|⟨d,v,h1,h2,_⟩<;>rw[h1,h2]<;>rfl
     rw[z]at q;exact Zm6 pins s Z H _ _ v u Q I rx ry ⟨a,kvs',k,rfl,ZdV r1 e2,hd,q⟩
   . exact f.elim
def Zfu(hr:Room k X.A)(h60:60<=k)(G:Gk X Y T)(op:CmpOp):OpR X (YL op) (rB Y E (opC T.GD op)):=by
 cases op with
 |Eq=>exact Zq3 hr h60 G.K
 |NotEq=>exact ZqY hr h60 G.K
 |Lt=>exact Zgi ZvU
 |LtE=>exact Zgi ZvV
 |Gt=>exact Zgi ZvW
 |GtE=>exact Zgi ZvX
 |Is=>exact Zq1
 |IsNot=>exact Zm9
 |In=>exact Zq2 G
 |NotIn=>exact ZkJ G
def ZqZ(G:Gk X Y T):IxR X (rB Y E (Za8 T.GD)):=by
 intro value slice pins s Z H x y v u Q I rx ry hh hs;obtain⟨dx,dy,h,B,rh,r1,r2,f⟩:=hh;have dict:∀(kvs:List (Key×D)) (k:Key),dicOf T.GD dx h=Wn kvs->y=kV k->Fin Y (RD Y) H B (R.ofO (ZK kvs k) h) Q E->YA (model X.prog X.w) X.A (subscriptTail value slice v u) (EP X pins Z Q) X.xe s:=by
  intro kvs k e1 ey f;obtain⟨d,e2,f⟩:=f.ofO;obtain⟨a,kvs',rfl,hd,rk⟩:=r1.dicOf G rh e1;rcases rk.valV_rel k with ⟨h1,h2⟩|⟨d',w,h1,h2,h3⟩
  . rw[h1]at e2;cases e2
  . rw[h1]at e2;cases e2;exact Zrn value slice pins s Z H _ _ v u Q I rx ry ⟨a,kvs',k,w,rfl,ey,hd,h2,f.ok rh h3⟩ hs
 unfold Za8 at f;split at f
 . rename_i i;cases r2;split at f
   . rename_i xs e1;obtain⟨d,e2,f⟩:=f.ofO;obtain⟨a,vs,rfl,hq,rs⟩:=r1.seqOf rh e1;obtain⟨w,e3,rw'⟩:=rs.atI e2;rcases hq with hq|hq
     . exact Zrm value slice pins s Z H _ _ v u Q I rx ry ⟨a,vs,i,w,rfl,rfl,G.K ▸ hq,e3,f.ok rh rw'⟩ hs
     . exact Zub value slice pins s Z H _ _ v u Q I rx ry ⟨a,vs,i,w,rfl,rfl,G.K ▸ hq,e3,f.ok rh rw'⟩ hs
   . split at f
     . obtain⟨hz,f⟩:=f.iff;obtain⟨d,e2,f⟩:=f.ofO;obtain⟨c,e3,rfl⟩:=Oo.mp e2;obtain⟨rfl,ok⟩:=r1.str_inv;exact Zuc value slice pins s Z H _ _ v u Q I rx ry ⟨_,i,c,rfl,rfl,hz,e3,f.ok rh (.str _ (ZoN ok (Zrd e3)))⟩ hs
     . split at f
       . rename_i kvs e1;exact dict kvs (.inl i) e1 rfl f
       . exact f.elim
 . rename_i z;obtain⟨rfl,ok⟩:=r2.str_inv;split at f
   . rename_i kvs e1;exact dict kvs (.inr z) e1 rfl f
   . exact f.elim
 . exact f.elim
def ZoL(hx:Yo x=Wp)(h:∀c∈y.cps.toList,c∈x.cps.toList):Yo y=Wp:=by unfold Yo at hx ⊢;rw[Array.all_eq_true']at hx ⊢;intro c hc;exact hx c (by simpa using h c (by simpa using hc))
def Zp9(hY:Y.K=X.K)(rh:RH Y H B h)(r:RD Y H B d v)(e:Zen T.GD d h=Wn b):ZuR X.K v H b:=by
 cases d with
 |non=>cases r;cases e;rfl
 |bl c=>cases r;cases e;rfl
 |int c=>cases r;cases e;rfl
 |str c=>
  cases r;unfold Zen at e;simp only at e;split at e
  . rename_i hz;cases e;refine⟨hz,?_⟩;by_cases h0:c.length=0
    . simp[h0]
    . have h1:((c.length:Int) != 0)=Wp:=by
       simp
       lia
      rw[h1];simp[h0]
  . cases e
 |tup xs=>obtain⟨a,vs,rfl,t,s⟩:=r.tup_inv;cases e;exact .inr (.inl ⟨vs,hY ▸ t,by rw[s.isEmpty]⟩)
 |ref i=>
  unfold Zen at e;simp only at e;split at e
  . rename_i q;cases e;obtain⟨a,vs,rfl,_,h3,s⟩:=r.lst rh q;exact .inl ⟨vs,.of h3,by rw[s.isEmpty]⟩
  . rename_i q;cases e;obtain⟨a,vs,rfl,_,h3,s⟩:=r.dic rh q;exact .inr (.inr ⟨vs,h3,by cases s<;>rfl⟩)
  . cases e
 |ro xs=>
  cases e;cases r with
  |ro q s=>exact .inl ⟨_,hY ▸ q.sq,by rw[s.isEmpty]⟩
 |ty n=>cases e
 |kd x=>cases e
end
section
variable {X:Cx}{Y:Yx}{E:XK}{T:Tb}{H:Hp}{B:List Yi}{h:Hd}
def rS(Y:Yx)(E:XK):V->Option Int->Option Int->Hp->VK->Prop:=λx l u H Q=>∃d h B,RH Y H B h/\RD Y H B d x/\Fin Y (RD Y) H B (Zjt d l u h) Q E
def Zgt(y:Str)(l u:Option Int):∀c∈(Yp y l u).cps.toList,c∈y.cps.toList:=by
 intro c hc;unfold Yp at hc;split at hc
 . exact hc
 . simp only[List.mem_filterMap]at hc;obtain⟨i,_,hi⟩:=hc;have:=Array.mem_of_getElem? hi;simpa using this
def Znt{xs:List D}{lo hi:Option Int}(h:HT.sIx xs.length 0 lo=0/\HT.sIx xs.length xs.length hi=xs.length):cutD xs lo hi=xs:=by unfold cutD;rw[h.1,h.2];simp
def ZqX(hY:Y.K=X.K):SlR X (rS Y E):=by
 intro pins s Z H x v vl vu lo hi sl Q I rx hs pl pu hh;obtain⟨d,h,B,rh,r,f⟩:=hh;unfold Zjt at f;split at f
 . rename_i xs;obtain⟨a,vs,rfl,t,rs⟩:=r.tup_inv;by_cases hw:HT.sIx vs.length 0 lo=0/\HT.sIx vs.length vs.length hi=vs.length
   . rw[Znt (by rw[rs.length];exact hw)]at f;exact ZnV pins s Z H _ v vl vu lo hi sl Q I rx hs pl pu ⟨a,vs,rfl,hY ▸ t,hw,f.ok rh (.tup t rs)⟩
   . exact ZsY pins s Z H _ v vl vu lo hi sl Q I rx hs pl pu ⟨a,vs,rfl,hY ▸ t,hw,λp hp=>f.tup rh hp (rs.cut lo hi)⟩
 . obtain⟨hz,f⟩:=f.iff;obtain⟨rfl,ok⟩:=r.str_inv;exact ZsZ pins s Z H _ v vl vu lo hi sl Q I rx hs pl pu ⟨_,rfl,hz,f.ok rh (.str _ (ZoL ok (Zgt _ _ _)))⟩
 . split at f
   . rename_i xs e1;obtain⟨a,vs,rfl,hl,rs⟩:=r.lstOf rh e1;exact Zqg pins s Z H _ v vl vu lo hi sl Q I rx hs pl pu ⟨a,vs,rfl,hY ▸ hl,λp hp=>f.new rh hp ⟨_,Zh,(rs.cut lo hi).mono rh (Gr.lay hp)⟩⟩
   . exact f.elim
def rF(Y:Yx)(E:XK)(f:List D->Hd->R D):List V->Hp->VK->Prop:=λxs H Q=>∃ds h B,RH Y H B h/\RDs Y H B ds xs/\Fin Y (RD Y) H B (f ds h) Q E
def RDs.one(r:RDs Y H B [d] xs):∃x,xs=[x]/\RD Y H B d x:=by
 cases r with
 |cons a s=>cases s;exact⟨_,rfl,a⟩
def RDs.two(r:RDs Y H B [d,e] xs):∃x y,xs=[x,y]/\RD Y H B d x/\RD Y H B e y:=by
 cases r with
 |cons a s=>obtain⟨y,rfl,b⟩:=s.one;exact⟨_,_,rfl,a,b⟩
def ZrP(hY:Y.K=X.K):Zad X (.builtin "len") (rF Y E ZhC):=by
 intro pins s Z H xs us Q I r hh;obtain⟨ds,h,B,rh,rs,f⟩:=hh;unfold ZhC at f;split at f
 . obtain⟨hz,f⟩:=f.iff;obtain⟨x,rfl,rd⟩:=rs.one;obtain⟨rfl,ok⟩:=rd.str_inv;exact ZiP pins s Z H _ us Q I r ⟨_,rfl,hz,f.ok rh (.int _)⟩
 . obtain⟨e,e1,f⟩:=f.ofO;obtain⟨zs,e2,rfl⟩:=Oo.mp e1;obtain⟨x,rfl,rd⟩:=rs.one;obtain⟨a,vs,rfl,hq,rv⟩:=rd.seqOf rh e2;refine ZiQ pins s Z H _ us Q I r ⟨a,vs,rfl,hY ▸ hq,?_⟩;rw[<- rv.length];exact f.ok rh (.int _)
 . exact f.elim
def Zrl{K:Yk}{t T:String}{b:Bool}(e:ZgL t T=Wn b):PySem.W.kitOne K (.type t) (.type T)=Wn b:=by
 have all:(["int", "str", "bool", "tuple", "list"].all λT=>["int", "str", "bool", "tuple", "list", "NoneType"].all λt=>Wt (PySem.W.kitOne [] (.type t) (.type T)=Wn (t==T || (t == "bool" && T == "int"))))=Wp:=by decide +kernel
 unfold ZgL at e;split at e
 . rename_i hm;cases e;rw[OC]at all;have h1:=all T hm.1;rw[OC]at h1;exact Znj (of_decide_eq_true (h1 t hm.2))
 . cases e
def Zu9(hY:Y.K=X.K)(rh:RH Y H B h)(r:RD Y H B d v)(e:Zp7 d h=Wn t):TyN X.K v H t:=by
 have lst:(IV.lstOf d h).map (λ_ => "list")=Wn t->TyN X.K v H t:=λe=>by obtain⟨xs,e1,rfl⟩:=Oo.mp e;obtain⟨a,vs,rfl,hl,rs⟩:=r.lstOf rh e1;exact .inl ⟨rfl,vs,hY ▸ hl⟩
 cases d with
 |int i=>cases e;cases r;rfl
 |str i=>cases e;cases r;rfl
 |bl i=>cases e;cases r;rfl
 |non=>cases e;cases r;rfl
 |tup xs=>cases e;obtain⟨a,vs,rfl,t,rs⟩:=r.tup_inv;exact .inr ⟨rfl,vs,hY ▸ t⟩
 |ref i=>exact lst e
 |ro xs=>exact lst e
 |ty n=>exact lst e
 |kd x=>exact lst e
def ZrQ(hY:Y.K=X.K):Zad X (.builtin "isinstance") (rF Y E ZpQ):=by
 intro pins s Z H xs us Q I r hh;obtain⟨ds,h,B,rh,rs,f⟩:=hh;unfold ZpQ at f;split at f
 . obtain⟨e,e1,f⟩:=f.ofO;obtain⟨t,e2,e3⟩:=Option.bind_eq_some_iff.mp e1;obtain⟨b,e4,rfl⟩:=Oo.mp e3;obtain⟨x,y,rfl,r1,r2⟩:=rs.two;cases r2;exact ZpD pins s Z H _ us Q I r ⟨x,t,_,b,rfl,Zu9 hY rh r1 e2,Zrl e4,f.ok rh (.bl _)⟩
 . exact f.elim
def ZrK(hY:Y.K=X.K):Zad X (.type "tuple") (rF Y E Znz):=by
 intro pins s Z H xs us Q I r hh;obtain⟨ds,h,B,rh,rs,f⟩:=hh;unfold Znz at f;split at f
 . obtain⟨x,rfl,r1⟩:=rs.one;obtain⟨a,vs,rfl,t,rv⟩:=r1.tup_inv;exact Zel pins s Z H _ us Q I r ⟨a,vs,rfl,.inr ⟨hY ▸ t,f.ok rh (.tup t rv)⟩⟩
 . obtain⟨e,e1,f⟩:=f.ofO;obtain⟨zs,e2,rfl⟩:=Oo.mp e1;obtain⟨x,rfl,r1⟩:=rs.one;obtain⟨a,vs,rfl,hl,rv⟩:=r1.lstOf rh e2;exact Zel pins s Z H _ us Q I r ⟨a,vs,rfl,.inl ⟨hY ▸ hl,λp hp=>f.tup rh hp rv⟩⟩
 . exact f.elim
def ZrO(hY:Y.K=X.K):Zad X (.type "list") (rF Y E ZpP):=by
 intro pins s Z H xs us Q I r hh;obtain⟨ds,h,B,rh,rs,f⟩:=hh;unfold ZpP at f;split at f
 . split at f
   . rename_i e2;obtain⟨x,rfl,r1⟩:=rs.one;obtain⟨a,vs,rfl,hq,rv⟩:=r1.seqOf rh e2;exact ZiO pins s Z H _ us Q I r ⟨a,vs,rfl,hY ▸ hq,λp hp=>f.new rh hp ⟨_,Zh,rv.mono rh (Gr.lay hp)⟩⟩
   . exact f.elim
 . exact f.elim
theorem ZgN:∀{ds:List D}{vs:List V}{ns:List Int},RDs Y H B ds vs->intsOf ds=Wn ns->vs=ns.map V.int
 |_,_,_,.nil,e=>by cases e;rfl
 |_,_,_,.cons (d:=d) a s,e=>by
  cases d with
  |int i=>rw[intsOf]at e;obtain⟨z,e1,rfl⟩:=Oo.mp e;cases a;rw[ZgN s e1];rfl
  |_=>cases e
theorem ZiS:∀{ds:List D}{vs:List V}{ns:List Bool},RDs Y H B ds vs->Zdv ds=Wn ns->vs=ns.map V.bl
 |_,_,_,.nil,e=>by cases e;rfl
 |_,_,_,.cons (d:=d) a s,e=>by
  cases d with
  |bl i=>rw[Zdv]at e;obtain⟨z,e1,rfl⟩:=Oo.mp e;cases a;rw[ZiS s e1];rfl
  |_=>cases e
def ZrM(hc:X.A.handled=Wo)(hY:Y.K=X.K):Zad X (.builtin "sum") (rF Y E ZpM):=by
 intro pins s Z H xs us Q I r hh;obtain⟨ds,h,B,rh,rs,f⟩:=hh;unfold ZpM at f;split at f
 . obtain⟨e,e1,f⟩:=f.ofO;obtain⟨ns,e2,rfl⟩:=Oo.mp e1;obtain⟨zs,e3,e4⟩:=Option.bind_eq_some_iff.mp e2;obtain⟨x,rfl,r1⟩:=rs.one;obtain⟨a,vs,rfl,hl,rv⟩:=r1.lstOf rh e3;rw[ZgN rv e4]at hl;exact Znv hc pins s Z H _ us Q I r ⟨a,ns,rfl,hY ▸ hl,f.ok rh (.int _)⟩
 . exact f.elim
def ZrS(hc:X.calm=Wp)(hY:Y.K=X.K):Zad X (.builtin "all") (rF Y E ZuL):=by
 intro pins s Z H xs us Q I r hh;obtain⟨ds,h,B,rh,rs,f⟩:=hh;unfold ZuL at f;split at f
 . obtain⟨e,e1,f⟩:=f.ofO;obtain⟨ns,e2,rfl⟩:=Oo.mp e1;obtain⟨zs,e3,e4⟩:=Option.bind_eq_some_iff.mp e2;obtain⟨x,rfl,r1⟩:=rs.one;obtain⟨a,vs,rfl,hl,rv⟩:=r1.lstOf rh e3;rw[ZiS rv e4]at hl;exact ZpE hc pins s Z H _ us Q I r ⟨a,ns,rfl,hY ▸ hl,f.ok rh (.bl _)⟩
 . exact f.elim
theorem Zje:∀(ss:List Str),(∀x∈ss,Yo x=Wp)->RDs Y H B (ss.map D.str) (ss.map V.str)
 |[],_=>.nil
 |x::ss,h=>.cons (.str _ (h x (.head _))) (Zje ss λy hy=>h y (.tail _ hy))
theorem ZhH:∀{ds:List D}{vs:List V}{ss:List Str},RDs Y H B ds vs->strsOf ds=Wn ss->vs=ss.map V.str
 |_,_,_,.nil,e=>by cases e;rfl
 |_,_,_,.cons (d:=d) a s,e=>by
  cases d with
  |str i=>rw[strsOf]at e;obtain⟨z,e1,rfl⟩:=Oo.mp e;cases a;rw[ZhH s e1];rfl
  |_=>cases e
def rM(Y:Yx)(E:XK)(m:Mf):V->List V->Hp->VK->Prop:=λx xs H Q=>∃d ds h B,RH Y H B h/\RD Y H B d x/\RDs Y H B ds xs/\Fin Y (RD Y) H B (ZbF m d ds h) Q E
noncomputable def mid:Mf->String
 |.app => "list.append"
 |.ext => "list.extend"
 |.pop => "list.pop"
 |.rev => "list.reverse"
 |.clr => "list.clear"
def Zl1(hY:Y.K=X.K)(m:Mf):MtM X (mid m) (rM Y E m):=by
 intro pins s Z H x xs v us Q I rx rs hh;obtain⟨d,ds,h,B,rh,r1,r2,f⟩:=hh;unfold ZbF at f;split at f
 . split at f
   . rename_i i ys e;obtain⟨a,vs,rfl,hi,hl,rv⟩:=r1.lst rh e;cases m with
     |app=>
      unfold Zf3 ZoX at f;simp only at f;split at f
      . obtain⟨hz,f⟩:=f.iff;obtain⟨y,rfl,ry⟩:=r2.one;have g:Gr H B (upd H a (.lst (vs++[y]))) B:=Gr.write (O1 hi) (by rw[hl];trivial);exact ZhO pins s Z H _ _ v us Q I rx rs ⟨a,vs,y,rfl,rfl,hl,by rw[<- rv.length];exact hz,f.wrote rh hi ⟨_,Zh,(rv.append (.cons ry .nil)).mono rh g⟩ .non (by rw[hl];trivial)⟩
      . exact f.elim
     |ext=>
      unfold Zf3 ZtU at f;simp only at f;split at f
      . split at f
        . rename_i zs e2;obtain⟨hz,f⟩:=f.iff;obtain⟨y,rfl,ry⟩:=r2.one;obtain⟨b,ws,rfl,hj,hl2,rw'⟩:=ry.lst rh e2;have g:Gr H B (upd H a (.lst (vs++ws))) B:=Gr.write (O1 hi) (by rw[hl];trivial);exact Znc pins s Z H _ _ v us Q I rx rs ⟨a,b,vs,ws,rfl,rfl,hl,hl2,by rw[<- rv.length,<- rw'.length];exact hz,f.wrote rh hi ⟨_,Zh,(rv.append rw').mono rh g⟩ .non (by rw[hl];trivial)⟩
        . exact f.elim
      . obtain⟨hz,f⟩:=f.iff;obtain⟨y,rfl,ry⟩:=r2.one;obtain⟨b,ws,rfl,t,rw'⟩:=ry.tup_inv;have g:Gr H B (upd H a (.lst (vs++ws))) B:=Gr.write (O1 hi) (by rw[hl];trivial);exact ZkR pins s Z H _ _ v us Q I rx rs ⟨a,b,vs,ws,rfl,rfl,hl,hY ▸ t,by rw[<- rv.length,<- rw'.length];exact hz,f.wrote rh hi ⟨_,Zh,(rv.append rw').mono rh g⟩ .non (by rw[hl];trivial)⟩
      . exact f.elim
     |pop=>
      unfold Zf3 Zrf at f;simp only at f;split at f
      . split at f
        . rename_i y e2;cases r2;rw[rv.length]at e2;obtain⟨w,e3,rw'⟩:=rv.get e2;have g:Gr H B (upd H a (.lst vs.dropLast)) B:=Gr.write (O1 hi) (by rw[hl];trivial);exact ZtQ pins s Z H _ _ v us Q I rx rs ⟨a,vs,w,rfl,rfl,hl,e3,f.wrote rh hi ⟨_,Zh,rv.dropLast.mono rh g⟩ (rw'.mono rh g) (by rw[hl];trivial)⟩
        . exact f.elim
      . exact f.elim
     |rev=>
      unfold Zf3 ZtT at f;simp only at f;split at f
      . cases r2;have g:Gr H B (upd H a (.lst vs.reverse)) B:=Gr.write (O1 hi) (by rw[hl];trivial);exact ZkQ pins s Z H _ _ v us Q I rx rs ⟨a,vs,rfl,rfl,hl,f.wrote rh hi ⟨_,Zh,rv.reverse.mono rh g⟩ .non (by rw[hl];trivial)⟩
      . exact f.elim
     |clr=>
      unfold Zf3 Zwa at f;simp only at f;split at f
      . cases r2;exact ZoR pins s Z H _ _ v us Q I rx rs ⟨a,vs,rfl,rfl,hl,f.wrote rh hi ⟨_,Zh,.nil⟩ .non (by rw[hl];trivial)⟩
      . exact f.elim
   . exact f.elim
 . exact f.elim
def rP(Y:Yx)(E:XK):ZnB:=λo i v H Q=>∃a b c h B,RH Y H B h/\RD Y H B a o/\RD Y H B b i/\RD Y H B c v/\Fin Y (λ_ _ (_:Unit) (_:Unit)=>True) H B (Zau a b c h) (λ_ H'=>Q H') E
def Ztg:ZnD X (rP Y E):=by
 intro pins s Z H o i v ov iv u Q I ro ri rv hh;obtain⟨a,b,c,h,B,rh,ra,rb,rc,f⟩:=hh;unfold Zau at f;split at f
 . split at f
   . rename_i j xs e;split at f
     . split at f
       . rename_i j' e2;obtain⟨p,vs,rfl,hi,hl,rs⟩:=ra.lst rh e;have hb:=rb.int_inv;subst hb;rw[rs.length]at e2;have g:Gr H B (upd H p (.lst (vs.set j' v))) B:=Gr.write (O1 hi) (by rw[hl];trivial);exact set_list pins s Z H _ _ v ov iv u Q I ro ri rv ⟨p,vs,_,j',rfl,rfl,hl,e2,f.wrote (b:=()) rh hi ⟨_,Zh,(RDs.set rc j' rs).mono rh g⟩ trivial (by rw[hl];trivial)⟩
       . exact f.elim
     . exact f.elim
   . rename_i j kvs e;split at f
     . rename_i k e2;obtain⟨hz,f⟩:=f.iff;obtain⟨p,vs,rfl,hi,hl,rs⟩:=ra.dic rh e;have g:Gr H B (upd H p (.dK (putK vs k v))) B:=Gr.write (O1 hi) (by rw[hl];trivial);exact set_dict pins s Z H _ _ v ov iv u Q I ro ri rv ⟨p,vs,k,rfl,ZdV rb e2,hl,by rw[<- rs.length];exact hz,f.wrote (b:=()) rh hi ⟨_,Zh,(rs.put k rc).mono rh g⟩ trivial (by rw[hl];trivial) (ZgK (rh.ks _ _ e) (Zo5 rb e2))⟩
     . exact f.elim
   . exact f.elim
 . exact f.elim
end
def rW(K:Yk)(x:V)(H1:Hp)(R:It->Hp->Prop):Prop:=(∃a,x=.ref a/\(∃xs,SqL K H1 a xs)/\R (Itl K a) H1)\/(∃a,x=.ref a/\(∃xs,SqT K H1 a xs)/\R (Itt K a) H1)
def Ztn(hl:PE X l tl):PI X tg l (λZ H R=>tl Z H λx H1=>rW X.K x H1 R):=by
 intro pins s Z H R I h;refine thn (hl pins s Z H _ I h) λv s1 ⟨x,H1,I1,r1,q1⟩=>?_;have fp1:∀b∈[s1.heap.objs.size],ZdO X pins H1 b:=λb hb=>by
  have e:b=s1.heap.objs.size:=by simpa using hb
  subst e;exact I1.fpOk (Oq _) (I1.hok.fresh (Oq _))
 rcases q1 with ⟨a,rfl,⟨xs,hq⟩,q⟩|⟨a,rfl,⟨xs,hq⟩,q⟩
 . cases r1;obtain⟨its,rv,p,hz⟩:=I1.list hq;exact wpAny_pyIter_list p.isList ⟨s1.heap.objs.size,[s1.heap.objs.size],_,_,H1,rfl,I1.kept (t':=s1.toks) λb o e=>Od _ e,ZmL a _,⟨_,Oj _ rfl,rfl,rfl⟩,fp1,q⟩
 . cases r1;obtain⟨its,rv,p,hz⟩:=I1.tuple hq;exact wpAny_pyIter_tuple (show s1.heap.IsTuple a its.toArray from p) ⟨s1.heap.objs.size,[s1.heap.objs.size],_,_,H1,rfl,I1.kept (t':=s1.toks) λb o e=>Od _ e,Zkr a _,⟨_,Oj _ rfl,rfl,rfl⟩,fp1,q⟩
def WJ(Y:Yx)(H0:Hp)(μ0:List Yi)(w:Wk)(J:It):Prop:=∀H B h,Gr H0 μ0 H B->RH Y H B h->Wk.stays w.src h=Wp ->
 (∀i d,w.xs[i]? = Wn d->J.go i H/\∀x H',J.yld i H x H'->Gr H B H' B/\RH Y H' B h/\RD Y H' B d x)/\J.stop w.xs.length H
section
variable {X:Cx}{Y:Yx}{E:XK}{T:Tb}{H:Hp}{B:List Yi}{h:Hd}
def ZsD(hY:Y.K=X.K)(rh:RH Y H B h)(t:SqT Y.K H a vs)(s:RDs Y H B xs vs):WJ Y H B ⟨[],xs⟩ (Itt X.K a):=by intro H1 μ1 h1 g rh1 st;have t1:=g.rdT rh t;have s1:=s.mono rh g;rw[hY]at t1;refine⟨λi d e=>?_,⟨vs,t1,by rw[s.length];exact Oq _⟩⟩;obtain⟨v,e1,r1⟩:=s1.get e;refine⟨⟨vs,v,t1,e1⟩,λx H' ⟨eH,q⟩=>?_⟩;subst eH;have:=q vs t1;rw[e1]at this;cases this;exact⟨Gr.refl,rh1,r1⟩
def Zr3(hY:Y.K=X.K)(rh:RH Y H B h)(t:FzL Y.K H a vs)(s:RDs Y H B xs vs):WJ Y H B ⟨[],xs⟩ (Itl X.K a):=by intro H1 μ1 h1 g rh1 st;have t1:=(g.rdF rh t).sq;have s1:=s.mono rh g;rw[hY]at t1;refine⟨λi d e=>?_,⟨vs,t1,by rw[s.length];exact Oq _⟩⟩;obtain⟨v,e1,r1⟩:=s1.get e;refine⟨⟨vs,v,t1,e1⟩,λx H' ⟨eH,q⟩=>?_⟩;subst eH;have:=q vs t1;rw[e1]at this;cases this;exact⟨Gr.refl,rh1,r1⟩
def Zdb(st:Wk.stays ((i,xs)::r) h=Wp):h[i]? = Wn (.lst xs):=of_decide_eq_true (Bool.and_eq_true_iff.mp st).1
def ZnK(hi:B[i]? = Wn a):WJ Y H B ⟨[(i,xs)],xs⟩ (Itl X.K a):=by intro H1 μ1 h1 g rh1 st;obtain⟨vs,hl,s1⟩:=rh1.ob i _ a (Zdb st) (g.pre i a hi);have t1:SqL X.K H1 a vs:=.of hl;refine⟨λi d e=>?_,⟨vs,t1,by rw[s1.length];exact Oq _⟩⟩;obtain⟨v,e1,r1⟩:=s1.get e;refine⟨⟨vs,v,t1,e1⟩,λx H' ⟨eH,q⟩=>?_⟩;subst eH;have:=q vs t1;rw[e1]at this;cases this;exact⟨Gr.refl,rh1,r1⟩
def ZsE{lo:Int}:WJ Y H B ⟨[],ZY lo n⟩ (Itr lo n):=by
 intro H1 μ1 h1 g rh1 st;have hl:(ZY lo n).length=n:=by simp[ZY]
 refine⟨λi d e=>?_,by show n<=(ZY lo n).length;rw[hl];exact Oq _⟩;have hi:i<n:=by have:=(Ob.mp e).1;rw[hl]at this;exact this
 refine⟨hi,λx H' ⟨eH,q⟩=>?_⟩;subst eH q;have:d=.int (lo+i):=by unfold ZY at e;rw[On,List.getElem?_range hi]at e;exact(YE e).symm
 subst this;exact⟨Gr.refl,rh1,.int _⟩
def Zpt{xs:List D}{i:Nat}{d:D}(e:(Zds xs)[i]? = Wn d):∃x,xs[i]? = Wn x/\d=.tup [.int i,x]:=by unfold Zds at e;rw[List.getElem?_mapIdx]at e;obtain⟨x,e1,e2⟩:=Oo.mp e;exact⟨x,e1,e2.symm⟩
def Zlx{a:Yi}{src:List (Nat×List D)}{xs:List D}(hw:WJ Y H B ⟨src,xs⟩ (Itl X.K a))(sq:∀H1 μ1 h1,Gr H B H1 μ1->RH Y H1 μ1 h1->Wk.stays src h1=Wp->∃vs,SqL X.K H1 a vs/\RDs Y H1 μ1 xs vs):WJ Y H B ⟨src,Zds xs⟩ (Ite X.K a):=by
 intro H1 μ1 h1 g rh1 st;obtain⟨vs,t1,s1⟩:=sq H1 μ1 h1 g rh1 st;have hl:(Zds xs).length=xs.length:=by simp[Zds]
 refine⟨λi d e=>?_,⟨vs,t1,by rw[hl,s1.length]⟩⟩;obtain⟨x0,e0,rfl⟩:=Zpt e;obtain⟨v,e1,r1⟩:=s1.get e0;refine⟨⟨vs,v,t1,e1⟩,λx H' ⟨p,ex,hp,y,q,eH⟩=>?_⟩;subst ex eH;have:=q vs t1;rw[e1]at this;cases this;exact⟨Gr.lay0 hp,rh1.lay0 hp,.tup (.inl (.inl Zh)) (.cons (.int _) (.cons (r1.mono rh1 (Gr.lay0 hp)) .nil))⟩
def ZsF(hY:Y.K=X.K)(rh:RH Y H B h)(t:SqT Y.K H a vs)(s:RDs Y H B xs vs):WJ Y H B ⟨[],xs.reverse⟩ (Itv X.K a vs.length):=by intro H1 μ1 h1 g rh1 st;have t1:=g.rdT rh t;have s1:=(s.mono rh g).reverse;rw[hY]at t1;refine⟨λi d e=>?_,⟨vs,t1,rfl,by simp[s.length]⟩⟩;obtain⟨v,e1,r1⟩:=s1.get e;refine⟨⟨vs,v,t1,rfl,e1⟩,λx H' ⟨eH,q⟩=>?_⟩;subst eH;have:=q vs t1;rw[e1]at this;cases this;exact⟨Gr.refl,rh1,r1⟩
def Zp1(hi:B[i]? = Wn a):WJ Y H B ⟨[(i,xs)],xs.reverse⟩ (ZuT X.K a xs.length):=by intro H1 μ1 h1 g rh1 st;obtain⟨vs,hl,s0⟩:=rh1.ob i _ a (Zdb st) (g.pre i a hi);have t1:SqL X.K H1 a vs:=.of hl;have s1:=s0.reverse;refine⟨λi d e=>?_,⟨vs,t1,s0.length.symm,by simp⟩⟩;obtain⟨v,e1,r1⟩:=s1.get e;refine⟨⟨vs,v,t1,s0.length.symm,e1⟩,λx H' ⟨eH,q⟩=>?_⟩;subst eH;have:=q vs t1;rw[e1]at this;cases this;exact⟨Gr.refl,rh1,r1⟩
def Zp0{X:Cx}(hi:B[i]? = Wn a)(hj:B[j]? = Wn b)(hl:xs.length<=ys.length):WJ Y H B ⟨[(i,xs),(j,ys)],Zic xs ys⟩ (ZuS X.K a b):=by
 intro H1 μ1 h1 g rh1 st;have e1:=Zdb st;have e2:h1[j]? = Wn (.lst ys):=Zdb (Bool.and_eq_true_iff.mp st).2;obtain⟨vs,t1,s1⟩:=rh1.ob i _ _ e1 (g.pre i _ hi);obtain⟨vs',t2,s2⟩:=rh1.ob j _ _ e2 (g.pre j _ hj);have hz:(Zic xs ys).length=xs.length:=by simp[Zic,hl]
 refine⟨λk d e=>?_,⟨vs,vs',.inl (.inl t1),.inl (.inl t2),by rw[hz,s1.length]⟩⟩;obtain⟨x0,y0,e0,e1,rfl⟩:∃x0 y0,xs[k]? = Wn x0/\ys[k]? = Wn y0/\d=.tup [x0,y0]:=by
  unfold Zic at e;rw[List.getElem?_zipWith]at e;split at e
  . rename_i x y q1 q2;exact⟨x,y,q1,q2,(YE e).symm⟩
  . cases e
 obtain⟨v,e2,r2⟩:=s1.get e0;obtain⟨u,e3,r3⟩:=s2.get e1;refine⟨⟨vs,vs',v,u,.inl (.inl t1),.inl (.inl t2),e2,e3⟩,λx H' ⟨p,x1,y1,ex,hp,q1,q2,eH⟩=>?_⟩;subst ex eH;have:=q1 vs (.inl (.inl t1));rw[e2]at this;cases this;have:=q2 vs' (.inl (.inl t2));rw[e3]at this;cases this;exact⟨Gr.lay0 hp,rh1.lay0 hp,.tup (.inl (.inl Zh)) (.cons (r2.mono rh1 (Gr.lay0 hp)) (.cons (r3.mono rh1 (Gr.lay0 hp)) .nil))⟩
def Zp4{d:D}{R:It->Hp->Prop}(hY:Y.K=X.K)(rh:RH Y H B h)(r:RD Y H B d x)(e:ZaN d h=Wn w)(q:∀J,WJ Y H B w J->R J H):rW X.K x H R:=by
 cases d with
 |tup xs=>cases e;obtain⟨a,vs,rfl,t,s⟩:=r.tup_inv;exact .inr ⟨a,rfl,⟨vs,hY ▸ t⟩,q _ (ZsD hY rh t s)⟩
 |ro xs=>
  cases e;cases r with
  |ro t s=>exact .inl ⟨_,rfl,⟨_,hY ▸ t.sq⟩,q _ (Zr3 hY rh t s)⟩
 |ref i=>
  unfold ZaN at e;simp only at e;split at e
  . rename_i xs he;cases e;obtain⟨a,vs,rfl,hi,hl,s⟩:=r.lst rh he;exact .inl ⟨a,rfl,⟨vs,.of hl⟩,q _ (ZnK hi)⟩
  . cases e
 |_=>cases e
end
structure Kl where
 cs:List Str
 ats:List Str
 ms:List (Str×Str)
 is:List Str
 xs:List Str:=[]
 xa:List (Str×Str):=[]
 xi:List (Str×Str×Bool):=[]
structure Gm where
 N:List Str
 sc:Scope
 fs:List Str
 top:Bool
 kl:Kl
noncomputable def glb(Γ:Gm)(x:Str):Bool:=Wt (Γ.sc.names.lookup x=Wn .globalImplicit)&&!(x==("__debug__" : Str))
noncomputable def Zp6(sc:Scope)(x:Str):Bool:=Wt (sc.names.lookup x=Wn .local) || Wt (sc.names.lookup x=Wn .cell) || Wt (sc.names.lookup x=Wn .free)
noncomputable def ZmA:Bf->Str
 |.len => "len" |.isi => "isinstance" |.int => "int" |.tup => "tuple" |.lst => "list" |.sum => "sum" |.all => "all" |.srt => "sorted" |.mx => "max" |.sri => "sorted" |.lnd => "len" |.dct => "dict" |.ldk => "list" |.anb => "any" |.tdk => "tuple" |.sto => "str" |.itx => "int"
noncomputable def bok:Bf->Bool
 |.mx=>Wq
 |.int=>Wq
 |.sri=>Wq
 |.lnd=>Wq
 |.dct=>Wq
 |.ldk=>Wq
 |.sto=>Wq
 |.itx=>Wq
 |_=>Wp
noncomputable def ZoS:Mf->Str
 |.app => "append" |.ext => "extend" |.pop => "pop" |.rev => "reverse" |.clr => "clear"
noncomputable def ZmB:List Str:=["len", "isinstance", "int", "tuple", "list", "sum", "all", "sorted", "range", "enumerate", "reversed", "str", "bool", "max", "repr", "zip", "set", "dict", "any", "ValueError"]
noncomputable def Zly:List String:=["int", "str", "bool", "tuple", "list"]
structure Pt where
 a:Expr:=default
 b:Expr:=default
 c:Expr:=default
 xs:List Expr:=[]
 s:Str:=⟨#[]⟩
 op:Operator:=.Add
 cs:List CmpOp:=[]
 u:UnaryOp:=.Not
 bo:BoolOp:=.And
 p:Pos:=default
 kw:List Keyword:=[]
 l:Option Expr:=Wo
 h:Option Expr:=Wo
 st:Option Expr:=Wo
 ks:List (Option Expr):=[]
 gs:List Comprehension:=[]
 sc:Scope:=default
 k:Nat:=0
 v:Const:=.none
noncomputable def tgE:Expr->Nat
 |.Starred _ _=>0|.BoolOp _ _ _=>1|.UnaryOp _ _ _=>2|.IfExp _ _ _ _=>3|.Compare _ _ _ _=>4|.Slice _ _ _ _=>5|.Name _ _=>6|.BinOp _ _ _ _=>7|.Tuple _ _ _=>8|.List _ _=>9
 |.Subscript _ _ _=>10|.Call _ _ _ _=>11|.Attribute _ _ _=>12|.ListComp _ _ _ _=>13|.Dict _ _ _=>14|.Constant _ _ _=>15|.NamedExpr _ _ _=>17|.Set _ _ _=>18|.SetComp _ _ _ _=>19|.DictComp _ _ _ _ _=>19|_=>16
def prt(e:Expr):Pt:=match e with
 |.BoolOp o xs p=>{bo:=o,xs:=xs,p:=p}
 |.UnaryOp o x p=>{a:=x,u:=o,p:=p}
 |.IfExp t x y p=>{a:=t,b:=x,c:=y,p:=p}
 |.Compare l os rs p=>{a:=l,cs:=os,xs:=rs,p:=p}
 |.Slice l u s p=>{l:=l,h:=u,st:=s,p:=p}
 |.Name x p=>{s:=x,p:=p}
 |.BinOp l o r p=>{a:=l,b:=r,op:=o,p:=p}
 |.Tuple xs k p=>{xs:=xs,k:=k,p:=p}
 |.List xs p=>{xs:=xs,p:=p}
 |.Subscript x y p=>{a:=x,b:=y,p:=p}
 |.Call f xs kw p=>{a:=f,xs:=xs,kw:=kw,p:=p}
 |.Attribute x n p=>{a:=x,s:=n,p:=p}
 |.ListComp x gs sc p=>{a:=x,gs:=gs,p:=p,sc:=sc}
 |.Dict ks vs p=>{ks:=ks,xs:=vs,p:=p}
 |.Constant c k p=>{v:=c,k:=k,p:=p}
 |_=>{a:=e}
noncomputable def mkE(n:Nat)(p:Pt):Expr:=match n with
 |1=>.BoolOp p.bo p.xs p.p|2=>.UnaryOp p.u p.a p.p|3=>.IfExp p.a p.b p.c p.p|4=>.Compare p.a p.cs p.xs p.p|5=>.Slice p.l p.h p.st p.p|6=>.Name p.s p.p|7=>.BinOp p.a p.op p.b p.p
 |8=>.Tuple p.xs p.k p.p|9=>.List p.xs p.p|10=>.Subscript p.a p.b p.p|11=>.Call p.a p.xs p.kw p.p|12=>.Attribute p.a p.s p.p
 |13=>.ListComp p.a p.gs p.sc p.p|14=>.Dict p.ks p.xs p.p|15=>.Constant p.v p.k p.p|_=>p.a
def rb(e:Expr):mkE (tgE e) (prt e)=e:=by cases e<;>rfl
def bL{a b:Bool}(h:(a&&b)=Wp):a=Wp:=by cases a with|true=>rfl|false=>cases h
def bR{a b:Bool}(h:(a&&b)=Wp):b=Wp:=by cases a with|true=>exact h|false=>cases h
def bO{a b:Bool}{P:Prop}(h:(a || b)=Wp)(l:a=Wp->P)(r:b=Wp->P):P:=by cases a with|true=>exact l rfl|false=>exact r h
def ff{P:Prop}(h:Wq=Wp):P:=by cases h
def dS{α:Type}{P:α->Prop}{a b:α}[Decidable (a=b)](h:Wt (a=b)=Wp)(k:P b):P a:=of_decide_eq_true h ▸ k
def an(n:Nat)(e:Expr)(f:Pt->Bool):Bool:=Wt (tgE e=n)&&f (prt e)
section
variable {P:Expr->Prop}{e:Expr}
def ZaG(h:an n e f=Wp)(k:∀p,f p=Wp->P (mkE n p)):P e:=rb e ▸ dS (P:=λm=>P (mkE m (prt e))) (bL h) (k _ (bR h))
noncomputable def l1{α:Type}(xs:List α)(f:α->Bool):Bool:=match xs with
 |[y]=>f y
 |_=>Wq
@[elab_as_elim] theorem Zae{α:Type}{P:List α->Prop}{xs:List α}{f:α->Bool}(h:l1 xs f=Wp)(k:∀y,f y=Wp->P [y]):P xs:=by
 cases xs with
 |nil=>cases h
 |cons y r=>
  cases r with
  |nil=>exact k y h
  |cons _ _=>cases h
noncomputable def l2{α:Type}(xs:List α)(f:α->α->Bool):Bool:=match xs with
 |[x,y]=>f x y
 |_=>Wq
@[elab_as_elim] theorem ZjH{α:Type}{P:List α->Prop}{xs:List α}{f:α->α->Bool}(h:l2 xs f=Wp)(k:∀x y,f x y=Wp->P [x,y]):P xs:=by
 cases xs with
 |nil=>cases h
 |cons x r=>
  cases r with
  |nil=>cases h
  |cons y r=>
   cases r with
   |nil=>exact k x y h
   |cons _ _=>cases h
noncomputable def l0{α:Type}(xs:List α)(b:Bool):Bool:=xs.isEmpty&&b
def ZfQ{α:Type}{P:List α->Prop}{xs:List α}(h:l0 xs b=Wp)(k:b=Wp->P []):P xs:=by
 cases xs with
 |nil=>exact k h
 |cons _ _=>cases h
@[irreducible] def aN(e:Expr)(f:Str->Bool):Bool:=an 6 e λp=>f p.s
@[elab_as_elim] theorem Zv6(h:aN e f=Wp)(k:∀x q,f x=Wp->P (.Name x q)):P e:=by unfold aN at h;exact ZaG h λ_ h=>k _ _ h
@[irreducible] def aX(x:Str)(e:Expr)(b:Bool):Bool:=an 6 e λp=>Wt (p.s=x)&&b
@[elab_as_elim] theorem Zi5(h:aX x e b=Wp)(k:∀q,b=Wp->P (.Name x q)):P e:=by unfold aX at h;exact ZaG h λp h=>dS (P:=λs=>P (.Name s p.p)) (bL h) (k _ (bR h))
@[irreducible] def aB2(o:Operator)(e:Expr)(f:Expr->Expr->Bool):Bool:=an 7 e λp=>Wt (p.op=o)&&f p.a p.b
@[elab_as_elim] theorem Zw0(h:aB2 o e f=Wp)(k:∀l r q,f l r=Wp->P (.BinOp l o r q)):P e:=by unfold aB2 at h;exact ZaG h λp h=>dS (P:=λs=>P (.BinOp p.a s p.b p.p)) (bL h) (k _ _ _ (bR h))
@[irreducible] def aC1(o:CmpOp)(e:Expr)(f:Expr->Expr->Bool):Bool:=an 4 e λp=>Wt (p.cs=[o])&&l1 p.xs λr=>f p.a r
@[elab_as_elim] theorem Zmz(h:aC1 o e f=Wp)(k:∀l r q,f l r=Wp->P (.Compare l [o] [r] q)):P e:=by unfold aC1 at h;exact ZaG h λp h=>dS (P:=λs=>P (.Compare p.a s p.xs p.p)) (bL h) (Zae (P:=λs=>P (.Compare p.a [o] s p.p)) (bR h) λ_ h=>k _ _ _ h)
@[irreducible] def aC2(o o':CmpOp)(e:Expr)(f:Expr->Expr->Expr->Bool):Bool:=an 4 e λp=>Wt (p.cs=[o,o'])&&l2 p.xs λm r=>f p.a m r
@[elab_as_elim] theorem Zsy(h:aC2 o o' e f=Wp)(k:∀l m r q,f l m r=Wp->P (.Compare l [o,o'] [m,r] q)):P e:=by unfold aC2 at h;exact ZaG h λp h=>dS (P:=λs=>P (.Compare p.a s p.xs p.p)) (bL h) (ZjH (P:=λs=>P (.Compare p.a [o,o'] s p.p)) (bR h) λ_ _ h=>k _ _ _ _ h)
@[irreducible] def aU(u:UnaryOp)(e:Expr)(f:Expr->Bool):Bool:=an 2 e λp=>Wt (p.u=u)&&f p.a
@[elab_as_elim] theorem ZsJ(h:aU u e f=Wp)(k:∀x q,f x=Wp->P (.UnaryOp u x q)):P e:=by unfold aU at h;exact ZaG h λp h=>dS (P:=λs=>P (.UnaryOp s p.a p.p)) (bL h) (k _ _ (bR h))
@[irreducible] def aO(o:BoolOp)(e:Expr)(f:List Expr->Bool):Bool:=an 1 e λp=>Wt (p.bo=o)&&f p.xs
@[elab_as_elim] theorem Zq8(h:aO o e f=Wp)(k:∀xs q,f xs=Wp->P (.BoolOp o xs q)):P e:=by unfold aO at h;exact ZaG h λp h=>dS (P:=λs=>P (.BoolOp s p.xs p.p)) (bL h) (k _ _ (bR h))
@[irreducible] def aI(e:Expr)(f:Expr->Expr->Expr->Bool):Bool:=an 3 e λp=>f p.a p.b p.c
@[elab_as_elim] theorem ZxY(h:aI e f=Wp)(k:∀t x y q,f t x y=Wp->P (.IfExp t x y q)):P e:=by unfold aI at h;exact ZaG h λ_ h=>k _ _ _ _ h
@[irreducible] def aT(e:Expr)(f:List Expr->Bool):Bool:=an 8 e λp=>f p.xs
@[elab_as_elim] theorem Zjd(h:aT e f=Wp)(k:∀xs j q,f xs=Wp->P (.Tuple xs j q)):P e:=by unfold aT at h;exact ZaG h λ_ h=>k _ _ _ h
@[irreducible] def aLs(e:Expr)(f:List Expr->Bool):Bool:=an 9 e λp=>f p.xs
@[elab_as_elim] theorem Zsm(h:aLs e f=Wp)(k:∀xs q,f xs=Wp->P (.List xs q)):P e:=by unfold aLs at h;exact ZaG h λ_ h=>k _ _ h
@[irreducible] def aS(e:Expr)(f:Expr->Expr->Bool):Bool:=an 10 e λp=>f p.a p.b
@[elab_as_elim] theorem ZnZ(h:aS e f=Wp)(k:∀x y q,f x y=Wp->P (.Subscript x y q)):P e:=by unfold aS at h;exact ZaG h λ_ h=>k _ _ _ h
@[irreducible] def aSl(e:Expr)(f:Expr->Option Expr->Option Expr->Bool):Bool:=aS e λx y=>an 5 y λp=>p.st.isNone&&f x p.l p.h
@[elab_as_elim] theorem Zvu(h:aSl e f=Wp)(k:∀x l u q r,f x l u=Wp->P (.Subscript x (.Slice l u Wo q) r)):P e:=by
 unfold aSl at h;exact ZnZ h λx _ r h=>ZaG (P:=λy=>P (.Subscript x y r)) h λp h=>by show P (.Subscript x (.Slice p.l p.h p.st p.p) r);rw[Option.isNone_iff_eq_none.mp (bL h)];exact k _ _ _ _ _ (bR h)
@[irreducible] def aCN(n:Str)(e:Expr)(f:List Expr->Bool):Bool:=an 11 e λp=>aX n p.a (l0 p.kw (f p.xs))
@[elab_as_elim] theorem Zb2(h:aCN n e f=Wp)(k:∀p ys q,f ys=Wp->P (.Call (.Name n p) ys [] q)):P e:=by unfold aCN at h;exact ZaG h λp h=>Zi5 (P:=λa=>P (.Call a p.xs p.kw p.p)) h λq h=>ZfQ (P:=λw=>P (.Call (.Name n q) p.xs w p.p)) h λh=>k _ _ _ h
@[irreducible] def aCk(n w:Str)(e:Expr)(f:List Expr->Expr->Bool):Bool:=an 11 e λp=>aX n p.a (l1 p.kw λy=>match y with|⟨a,z,_⟩=>Wt (a=Wn w)&&f p.xs z)
@[elab_as_elim] theorem ZwP(h:aCk n w e f=Wp)(k:∀p ys z r q,f ys z=Wp->P (.Call (.Name n p) ys [⟨Wn w,z,r⟩] q)):P e:=by
 unfold aCk at h;exact ZaG h λp h=>Zi5 (P:=λa=>P (.Call a p.xs p.kw p.p)) h λq h=>Zae (P:=λw=>P (.Call (.Name n q) p.xs w p.p)) h λy h=>match y,h with
  |⟨_,z,r⟩,h=>dS (P:=λs=>P (.Call (.Name n q) p.xs [⟨s,z,r⟩] p.p)) (bL h) (k _ _ _ _ _ (bR h))
@[irreducible] def aA(n:Str)(e:Expr)(f:Expr->Pos->Bool):Bool:=an 12 e λp=>Wt (p.s=n)&&f p.a p.p
@[elab_as_elim] theorem ZrY(h:aA n e f=Wp)(k:∀x q,f x q=Wp->P (.Attribute x n q)):P e:=by unfold aA at h;exact ZaG h λp h=>dS (P:=λs=>P (.Attribute p.a s p.p)) (bL h) (k _ _ (bR h))
@[irreducible] def aCA(n:Str)(e:Expr)(f:Expr->Pos->List Expr->Pos->Bool):Bool:=an 11 e λp=>aA n p.a λx ap=>l0 p.kw (f x ap p.xs p.p)
@[elab_as_elim] theorem Zsx(h:aCA n e f=Wp)(k:∀x ap ys cp,f x ap ys cp=Wp->P (.Call (.Attribute x n ap) ys [] cp)):P e:=by unfold aCA at h;exact ZaG h λp h=>ZrY (P:=λa=>P (.Call a p.xs p.kw p.p)) h λx q h=>ZfQ (P:=λw=>P (.Call (.Attribute x n q) p.xs w p.p)) h λh=>k _ _ _ _ h
@[irreducible] def aLC(e:Expr)(f:Expr->Expr->Expr->List Expr->Scope->Bool):Bool:=an 13 e λp=>l1 p.gs λg=>match g with|⟨t,i,c,n⟩=>Wt (n=0)&&f p.a t i c p.sc
@[elab_as_elim] theorem Zsn(h:aLC e f=Wp)(k:∀x t i c sc q,f x t i c sc=Wp->P (.ListComp x [⟨t,i,c,0⟩] sc q)):P e:=by
 unfold aLC at h;exact ZaG h λp h=>Zae (P:=λg=>P (.ListComp p.a g p.sc p.p)) h λg h=>match g,h with
  |⟨t,i,c,_⟩,h=>dS (P:=λs=>P (.ListComp p.a [⟨t,i,c,s⟩] p.sc p.p)) (bL h) (k _ _ _ _ _ _ (bR h))
@[irreducible] def aD(e:Expr)(f:List (Option Expr)->List Expr->Bool):Bool:=an 14 e λp=>f p.ks p.xs
@[elab_as_elim] theorem ZwO(h:aD e f=Wp)(k:∀ks vs q,f ks vs=Wp->P (.Dict ks vs q)):P e:=by unfold aD at h;exact ZaG h λ_ h=>k _ _ _ h
@[irreducible] def aK(e:Expr)(f:Const->Bool):Bool:=an 15 e λp=>f p.v
@[elab_as_elim] theorem Zua(h:aK e f=Wp)(k:∀c j q,f c=Wp->P (.Constant c j q)):P e:=by unfold aK at h;exact ZaG h λ_ h=>k _ _ _ h
end
noncomputable def Zyd:D->Const->Bool
 |.int i,.int j=>Wt (i=j)
 |.str x,.str y=>Wt (x=y)&&Yo y
 |.bl b,.bool c=>Wt (b=c)
 |.non,.none=>Wp
 |_,_=>Wq
def ZwS(Γ:Gm)(d:D)(e:Expr):Bool:=(aK e λc=>Zyd d c) || match d with
 |.ty n=>aX (Str.ofString n) e (Wt (n∈Zly)&&glb Γ (Str.ofString n))
 |_=>Wq
noncomputable def Zpy(NC N:List Str)(js:List (Option Nat))(sc scope:Scope):Bool:=
 Wt (scope.kind=.function)&&Wt (sc.kind=.function)&&(scope.names.all λy=>Wt (y.2≠.cell))&&(scope.names.all λy=>!Wt (y.2=.local) || Wt (scope.names.lookup y.1=Wn .local)) &&
  (scope.names.all λy=>!Wt (y.2=.free) || Wt (sc.names.lookup y.1=Wn .cell))&&decide NC.Nodup&&Wt (js.length=NC.length) &&
  ((NC.zip js).all λp=>p.2.all λj=>Wt (N[j]? = Wn p.1)&&Wt (scope.names.lookup p.1=Wn .free))
def Zj1(h:Zpy NC N js sc scope=Wp):CompSc NC N js sc scope:=by
 unfold Zpy at h;rw[Oa,Oa,Oa,Oa,Oa,Oa,Oa]at h;obtain⟨⟨⟨⟨⟨⟨⟨a,b⟩,c⟩,d⟩,e⟩,f⟩,g⟩,i⟩:=h;rw[OC]at c d e;refine⟨of_decide_eq_true a,of_decide_eq_true b,λy hy=>of_decide_eq_true (c y hy),λy hy e1=>?_,λy hy e1=>?_,of_decide_eq_true f,of_decide_eq_true g,i⟩
 . have:=d y hy;rw[decide_eq_true e1]at this;simpa using this
 . have:=e y hy;rw[decide_eq_true e1]at this;simpa using this
noncomputable def ZkM(N:List Str)(own:Str->Bool)(i:Nat)(e:Expr):Bool:=aN e λx=>Wt (N[i]? = Wn x)&&own x
def Zmu(N:List Str)(own:Str->Bool):List Nat->List Expr->Bool
 |[],es=>es.isEmpty
 |i::is,es=>match es with
  |e::es=>ZkM N own i e&&Zmu N own is es
  |[]=>Wq
def Zmw(N:List Str)(own:Str->Bool)(i j:Nat)(e:Expr):Bool:=aT e λes=>l2 es λa b=>ZkM N own i a&&ZkM N own j b
def Zmv(N:List Str)(own:Str->Bool)(is:List Nat)(e:Expr):Bool:=aT e λes=>Zmu N own is es
def ZrG(N:List Str)(own:Str->Bool)(g:Tg)(e:Expr):Bool:=match g with
 |.nm i=>ZkM N own i e
 |.two i j=>Zmw N own i j e
 |.many is=>Zmv N own is e
@[elab_as_elim] theorem Zbu{P:Expr->Prop}(h:ZkM N own i e=Wp)(k:∀x p,N[i]? = Wn x->own x=Wp->P (.Name x p)):P e:=Zv6 h λ_ _ h=>k _ _ (of_decide_eq_true (bL h)) (bR h)
def isTup(e:Expr):Bool:=Wt (tgE e=8)
@[elab_as_elim] theorem Zo7{P:Expr->Prop}(h:isTup e=Wp)(k:∀xs j q,P (.Tuple xs j q)):P e:=Zjd (P:=P) (f:=λ_=>Wp) (by unfold aT an;rw[show Wt (tgE e=8)=Wp from h];rfl) λ_ _ _ _=>k _ _ _
noncomputable def tgk:Tg->Nat
 |.nm i=>i+1
 |.two i j=>max i j+1
 |.many is=>is.foldr max 0+1
noncomputable def ZvT(sc:Scope)(x:Str):Bool:=Wt (sc.names.lookup x=Wn .local)
noncomputable def ownD(sc:Scope)(x:Str):Bool:=Wt (sc.names.lookup x=Wn .local) || Wt (sc.names.lookup x=Wn .cell)
def ZaO(e:Expr):Bool:=Wt (tgE e≠18)
def Zde(e:Expr):Bool:=Wt (tgE e≠5)
def ZaX(e:Expr):Bool:=Wt (tgE e≠0)
def Zcs(e:Expr):Bool:=!(Wt (tgE e=11)&&(prt e).xs.isEmpty)
def ZkE(e:Expr):Bool:=Wt (6<=tgE e)&&Wt (tgE e<=16)
mutual
def chk(Γ:Gm):Ex->Expr->Bool
 |.var i,e=>aN e λx=>Wt (Γ.N[i]? = Wn x)&&(Zp6 Γ.sc x&&(!(x==("__debug__" : Str))&&!(x==("__classdict__" : Str))))
 |.cst d,e=>ZwS Γ d e
 |.glo x,e=>aX x e (glb Γ x)
 |.bin op a b,e=>aB2 op e λl r=>chk Γ a l&&chk Γ b r
 |.cmp op a b,e=>aC1 op e λl r=>chk Γ a l&&(chk Γ b r&&ZaO r)
 |.cmp2 o1 o2 a b c,e=>aC2 o1 o2 e λl m r=>chk Γ a l&&(chk Γ b m&&(chk Γ c r&&ZaO r))
 |.neg a,e=>aU .USub e λx=>chk Γ a x
 |.nt a,e=>aU .Not e λx=>chk Γ a x
 |.ands es,e=>aO .And e λxs=>chks Γ es xs
 |.ors es,e=>aO .Or e λxs=>chks Γ es xs
 |.ite c a b,e=>aI e λt x y=>chkt Γ c t&&(chk Γ a x&&chk Γ b y)
 |.tupl es,e=>aT e λxs=>chks Γ es xs
 |.lstl es,e=>aLs e λxs=>chks Γ es xs
 |.ix a i,e=>aS e λx y=>chk Γ a x&&(chk Γ i y&&Zde y)
 |.sl a lo hi,e=>aSl e λx l u=>chk Γ a x&&(chko Γ lo l&&chko Γ hi u)
 |.blt f es,e=>aCN (ZmA f) e λys=>(bok f&&glb Γ (ZmA f))&&(chks Γ es ys&&!ys.isEmpty)
 |.call f es,e=>aCN f e λys=>Wt (f∈Γ.fs)&&(glb Γ f&&(chks Γ es ys&&!ys.isEmpty))
 |.meth m o es,e=>aCA (ZoS m) e λx ap ys cp=>chk Γ o x&&(Zcs x&&(chks Γ es ys&&(Wt (ys.length<29)&&(ap.endLine==cp.line))))
 |.trev _,_=>Wq
 |.lrv e,x=>aCN "list" x λys=>l1 ys λz=>aCN "reversed" z λys=>l1 ys λy=>glb Γ "list" && (glb Γ "reversed" && (chk Γ e y&&ZaX y))
 |.tix _ _,_=>Wq
 |.tmt _ _ _,_=>Wq
 |.lix _ _,_=>Wq
 |.lmu _ _,_=>Wq
 |.sin _ _,_=>Wq
 |.lin _ _,_=>Wq
 |.dne _ _,_=>Wq
 |.nin n a b,e=>aC1 (if n then .NotIn else .In) e λl r=>chk Γ a l&&(chk Γ b r&&ZaO r)
 |.nix a i,e=>aS e λx y=>chk Γ a x&&(chk Γ i y&&Zde y)
 |.ndl,e=>aD e λkeys values=>keys.isEmpty&&values.isEmpty
 |.rpn _ _,_=>Wq
 |.comp NC js it g c e,x=>aLC x λelt tg iter ifs scope=>Γ.top&&(Zpy NC Γ.N js Γ.sc scope&&(chki Γ it tg iter&&(ZaO iter&&(ZrG NC (ZvT scope) g tg&&(((List.range (tgk g)).all λj=>Wt (js[j]? = Wn Wo)) &&
  (chkf ⟨NC,scope,Γ.fs,Wq,Γ.kl⟩ c ifs&&chk ⟨NC,scope,Γ.fs,Wq,Γ.kl⟩ e elt))))))
 |.sorts _,_=>Wq
 |.maxd a d,e=>aCk "max" "default" e λys z=>l1 ys λy=>glb Γ "max" && (chk Γ a y&&(ZaX y&&chk Γ d z))
 |.dictl ps,e=>aD e λkeys values=>Wt (keys.length<=15)&&chkp Γ ps keys values
 |.att Cs o f,e=>aA f e λx _=>chk Γ o x&&(Zcs x&&((Cs.all λC=>Wt (C∈Γ.kl.cs))&&Wt (f∈Γ.kl.ats)))
 |.mk C es,e=>aCN C e λys=>Wt (C∈Γ.kl.is)&&(glb Γ C&&chks Γ es ys)
 |.mcl C m o es,e=>aCA m e λx ap ys cp=>chk Γ o x&&(Zcs x&&(chks Γ es ys&&(Wt ((C,m)∈Γ.kl.ms)&&(Wt (ys.length<29)&&(ap.endLine==cp.line)))))
 |.any,_=>Wp
def chks(Γ:Gm):Exs->List Expr->Bool
 |.nil,es=>es.isEmpty
 |.cons e r,es=>match es with
  |x::xs=>chk Γ e x&&(ZaX x&&chks Γ r xs)
  |[]=>Wq
def chkp(Γ:Gm):Exs->List (Option Expr)->List Expr->Bool
 |.nil,ks,vs=>ks.isEmpty&&vs.isEmpty
 |.cons k r,ks,vs=>match r with
  |.cons v r'=>match ks,vs with
   |some kx::ks,vx::vs=>chk Γ k kx&&(chk Γ v vx&&chkp Γ r' ks vs)
   |_,_=>Wq
  |.nil=>Wq
def chko(Γ:Gm):Option Ex->Option Expr->Bool
 |none,x=>x.isNone
 |some a,x=>match x with
  |some x=>chk Γ a x
  |none=>Wq
def chkf(Γ:Gm):Option Tx->List Expr->Bool
 |none,x=>x.isEmpty
 |some a,x=>l1 x λx=>chkt Γ a x
def Zyb(Γ:Gm):Ex->Expr->Bool
 |.cmp op a b,e=>aC1 op e λl r=>chk Γ a l&&(chk Γ b r&&ZaO r)
 |.cmp2 o1 o2 a b c,e=>aC2 o1 o2 e λl m r=>chk Γ a l&&(chk Γ b m&&(chk Γ c r&&ZaO r))
 |.nin n a b,e=>aC1 (if n then .NotIn else .In) e λl r=>chk Γ a l&&(chk Γ b r&&ZaO r)
 |_,_=>Wq
def chkt(Γ:Gm):Tx->Expr->Bool
 |.ex e,x=>(ZkE x&&chk Γ e x) || Zyb Γ e x
 |.ands ts,x=>aO .And x λxs=>chkts Γ ts xs
 |.ors ts,x=>aO .Or x λxs=>chkts Γ ts xs
 |.nt t,x=>aU .Not x λy=>chkt Γ t y
def chkts(Γ:Gm):Txs->List Expr->Bool
 |.one t,xs=>l1 xs λx=>chkt Γ t x
 |.cons t ts,xs=>match xs with
  |x::r=>chkt Γ t x&&(!r.isEmpty&&chkts Γ ts r)
  |_=>Wq
def chki(Γ:Gm):Ix->Expr->Expr->Bool
 |.pl e,_,x=>chk Γ e x
 |.tw _,_,_=>Wq
 |.rng e,_,x=>aCN "range" x λys=>l1 ys λy=>glb Γ "range" && (chk Γ e y&&ZaX y)
 |.rng2 _ _,_,_=>Wq
 |.enu e,tg,x=>aCN "enumerate" x λys=>l1 ys λy=>glb Γ "enumerate" && (chk Γ e y&&(ZaX y&&isTup tg))
 |.rev e,_,x=>aCN "reversed" x λys=>l1 ys λy=>glb Γ "reversed" && (chk Γ e y&&ZaX y)
 |.en1 _,_,_=>Wq
 |.zl a b,tg,x=>aCN "zip" x λys=>l2 ys λy z=>glb Γ "zip" && (chk Γ a y&&(chk Γ b z&&(ZaX y&&(ZaX z&&isTup tg))))
 |.zp _ _,_,_=>Wq
 |.en0 _,_,_=>Wq
 |.dk _,_,_=>Wq
end
def leS(a b:Str):Prop:=¬ b.cps.toList<a.cps.toList
def ZhP(h:leS a b)(q:leS b c):leS a c:=by unfold leS at *;rw[List.not_lt]at *;exact List.le_trans h q
def ZoZ(h:leS a b)(q:leS b a):a=b:=by unfold leS at *;rw[List.not_lt]at *;have e:=List.le_antisymm h q;obtain⟨⟨a⟩⟩:=a;obtain⟨⟨b⟩⟩:=b;simp at e;subst e;rfl
def Zjg:∀{ss:List Str},sortedS ss=Wp->ss.Pairwise leS:=by
 have gen:∀(r:List Str) (p:Str),risingS p r=Wp->(∀x∈r,leS p x)/\r.Pairwise leS:=by
  intro r;induction r with
  |nil=>intro p _;exact⟨by simp,.nil⟩
  |cons x r ih=>
   intro p h;rw[risingS,Oa]at h;obtain⟨h1,h2⟩:=ih x h.2;have hx:leS p x:=by have:=h.1;rw[ltCps_eq]at this;unfold leS;simpa using this
   refine⟨λy hy=>?_,.cons h1 h2⟩;rcases O2.mp hy with rfl|hy
   . exact hx
   . exact ZhP hx (h1 y hy)
 intro ss h;cases ss with
 |nil=>exact .nil
 |cons x r=>obtain⟨h1,h2⟩:=gen r x h;exact .cons h1 h2
theorem Zgz(x:Str):∀r:List Str,(ZmX x r).Perm (x::r)
 |[]=>.refl _
 |y::r=>by
  unfold ZmX;split
  . exact((Zgz x r).cons y).trans (.swap x y r)
  . exact .refl _
theorem ZdR:∀r:List Str,(Zcq r).Perm r
 |[]=>.refl _
 |x::r=>(Zgz x _).trans ((ZdR r).cons x)
theorem Zjo(x:Str):∀r:List Str,r.Pairwise leS->(ZmX x r).Pairwise leS
 |[],_=>.cons (by simp) .nil
 |y::r,h=>by
  cases h with
  |cons h1 h2=>
   unfold ZmX;split
   . rename_i hlt;rw[ltCps_eq]at hlt;have hlt:=of_decide_eq_true hlt;refine .cons (λz hz=>?_) (Zjo x r h2);rcases O2.mp ((Zgz x r).mem_iff.mp hz)with rfl|hz
     . unfold leS;rw[List.not_lt];exact List.le_of_lt hlt
     . exact h1 z hz
   . rename_i hlt;have hxy:leS x y:=by unfold leS;rw[ltCps_eq]at hlt;simpa using hlt
     refine .cons (λz hz=>?_) (.cons h1 h2);rcases O2.mp hz with rfl|hz
     . exact hxy
     . exact ZhP hxy (h1 z hz)
theorem ZhJ:∀r:List Str,(Zcq r).Pairwise leS
 |[]=>.nil
 |x::r=>Zjo x _ (ZhJ r)
def ZmS(hp:ss'.Perm ss)(hs:sortedS ss'=Wp):ss'=Zcq ss:=(hp.trans (ZdR ss).symm).eq_of_pairwise (λ_ _ _ _ h q=>ZoZ h q) (Zjg hs) (ZhJ ss)
section
variable {X:Cx}{Y:Yx}{E:XK}{T:Tb}{H:Hp}{B:List Yi}{h:Hd}
theorem Zdj:∀{ds:List (Key×D)}{vs:List (Key×V)}{ss:List Str},RKs Y H B ds vs->Z7 ds=Wn ss->vs.map (·.1)=ss.map YD
 |_,_,_,.nil,e=>by cases e;rfl
 |_,_,_,.cons (k:=k) a s,e=>by
  cases k with
  |inl i=>cases e
  |inr x=>rw[Z7]at e;obtain⟨z,e1,rfl⟩:=Oo.mp e;rw[Op,Op,Zdj s e1]
theorem ZlD:∀(ss:List Str),(∀x∈ss,Yo x=Wp)->RDs Y H B (ss.map D.str) (ss.map V.str)
 |[],_=>.nil
 |x::r,h=>.cons (.str x (h x (by simp))) (ZlD r λy hy=>h y (by simp[hy]))
def ZrN(hc:X.A.handled=Wo)(G:Gk X Y T):Zad X (.builtin "sorted") (rF Y E (Zfo T.GD)):=by
 intro pins s Z H xs us Q I r hh;obtain⟨ds,h,B,rh,rs,f⟩:=hh;unfold Zfo at f;split at f
 . split at f
   . rename_i ss e2;obtain⟨hz,f⟩:=f.iff;obtain⟨kvs,e3,e4⟩:=Option.bind_eq_some_iff.mp e2;obtain⟨x,rfl,r1⟩:=rs.one;obtain⟨a,kvs',rfl,hd,rk⟩:=r1.dicOf G rh e3;obtain⟨hz,hok⟩:=hz;refine ZiN hc pins s Z H _ us Q I r ⟨a,kvs',ss,rfl,hd,Zdj rk e4,hz,λp ss' hp h1 h2=>?_⟩;rw[ZmS h1 h2];refine f.new rh hp ⟨_,Zh,ZlD _ λy hy=>?_⟩;rw[OC]at hok;exact hok y ((ZdR ss).mem_iff.mp hy)
   . exact f.elim
 . exact f.elim
def ZkN(r:RD Y H B d v)(e:nkD d=Wn k):∃b,v=.ref b/\KyS Y.K H b k:=by
 unfold nkD at e;split at e
 . obtain⟨ss,e1,e2⟩:=Oo.mp e;subst e2;obtain⟨a,vs,rfl,t,rs⟩:=r.tup_inv;obtain⟨x,y,rfl,ra,rb⟩:=rs.two;cases ra.int_inv;obtain⟨c,ws,rfl,t2,rs2⟩:=rb.tup_inv;rw[ZhH rs2 e1]at t2;exact⟨a,rfl,c,t,t2⟩
 . cases e
def RD.dn(rh:RH Y H B h)(r:RD Y H B d v)(e:Zns d h=Wn kvs):∃a kvs' xs,v=.ref a/\H a=Wn (.dT xs)/\KN Y.K H kvs' xs/\RKs Y H B kvs kvs':=by
 unfold Zns at e;split at e
 . split at e
   . rename_i i kvs0 q;cases e;cases r with
     |ref hi=>obtain⟨kvs',xs,h1,h2,h3⟩:=rh.ob _ _ _ q hi;exact⟨_,kvs',xs,rfl,h1,h2,h3⟩
   . cases e
 . cases e
def Zi8(s:RKs Y H B ds vs)(k:NK):(valN ds k=Wo/\Zbz vs k=Wo)\/∃d v,valN ds k=Wn d/\Zbz vs k=Wn v/\RD Y H B d v:=by
 unfold valN Zbz;rcases s.val k with ⟨h1,h2⟩|⟨d,v,h1,h2,r⟩
 . exact .inl ⟨by rw[h1];rfl,by rw[h2];rfl⟩
 . exact .inr ⟨d,v,by rw[h1];rfl,by rw[h2];rfl,r⟩
def Zju(n:Bool)(hr:Room k X.A)(hY:Y.K=X.K):OpR X (YL (if n then .NotIn else .In)) (rB Y E (Zkl n)):=by
 intro pins s Z H x y v u Q I rx ry hh;obtain⟨dx,dy,h,B,rh,r1,r2,f⟩:=hh;unfold Zkl at f;split at f
 . rename_i kvs e1;split at f
   . rename_i k e2;obtain⟨a,kvs',xs,rfl,ha,kn,rk⟩:=r2.dn rh e1;obtain⟨b,rfl,kb⟩:=ZkN r1 e2;rw[hY]at kn kb;have e:(valN kvs k).isSome=(Zbz kvs' k).isSome:=by rcases Zi8 rk k with ⟨q1,q2⟩|⟨_,_,q1,q2,_⟩<;>rw[q1,q2]<;>rfl
     rw[e]at f;cases n with
     |true=>exact Zm5 hr pins s Z H _ _ v u Q I rx ry ⟨a,b,kvs',xs,k,rfl,rfl,kb,ha,kn,f.ok rh (.bl _)⟩
     |false=>exact ZtD hr pins s Z H _ _ v u Q I rx ry ⟨a,b,kvs',xs,k,rfl,rfl,kb,ha,kn,f.ok rh (.bl _)⟩
   . exact f.elim
 . exact f.elim
def Zue(hr:Room k X.A)(hY:Y.K=X.K):IxR X (rB Y E ZpO):=by
 intro value slice pins s Z H x y v u Q I rx ry hh hs;obtain⟨dx,dy,h,B,rh,r1,r2,f⟩:=hh;unfold ZpO at f;split at f
 . rename_i kvs e1;split at f
   . rename_i k e2;obtain⟨d,e3,f⟩:=f.ofO;obtain⟨a,kvs',xs,rfl,ha,kn,rk⟩:=r1.dn rh e1;obtain⟨b,rfl,kb⟩:=ZkN r2 e2;rw[hY]at kn kb;rcases Zi8 rk k with ⟨q1,_⟩|⟨d',w,q1,q2,q3⟩
     . rw[q1]at e3;cases e3
     . rw[q1]at e3;cases e3;exact Zwo hr value slice pins s Z H _ _ v u Q I rx ry ⟨a,b,kvs',xs,k,w,rfl,rfl,kb,ha,kn,q2,f.ok rh q3⟩ hs
   . exact f.elim
 . exact f.elim
theorem RKs.putN{ds:List (NK×D)}{vs:List (NK×V)}(s:RKs Y H B ds vs)(k:NK)(r:RD Y H B d v):RKs Y H B (putN ds k d) (putK vs k v):=by
 unfold IV.putN putK;rw[s.any_rel k];split
 . exact s.map_rel k r
 . exact s.append (.cons r .nil)
def rPN(Y:Yx)(E:XK):ZnB:=λo i v H Q=>∃a b c h B,RH Y H B h/\RD Y H B a o/\RD Y H B b i/\RD Y H B c v/\Fin Y (λ_ _ (_:Unit) (_:Unit)=>True) H B (ZpN a b c h) (λ_ H'=>Q H') E
def ZtL(hr:Room k X.A)(hY:Y.K=X.K):ZnD X (rPN Y E):=by
 intro pins s Z H o i v ov iv u Q I ro ri rv hh;obtain⟨a,b,c,h,B,rh,ra,rb,rc,f⟩:=hh;unfold ZpN at f;split at f
 . split at f
   . rename_i j kvs e;split at f
     . rename_i k e2;obtain⟨hz,f⟩:=f.iff;obtain⟨b',rfl,kb⟩:=ZkN rb e2;cases ra with
       |ref hi=>obtain⟨kvs',xs,ha,kn,rk⟩:=rh.ob _ _ _ e hi;have kn':=kn;have kb':=kb;rw[hY]at kn' kb';refine Zs1 hr pins s Z H _ _ v ov iv u Q I ro ri rv ⟨_,b',kvs',xs,k,rfl,rfl,kb',ha,kn',by rw[<- rk.length];exact hz,λr hrv=>?_⟩;have g:Gr H B (upd H _ (.dT (storedH xs k b' r))) B:=Gr.write (O1 hi) (by rw[ha];trivial);exact f.wrote (b:=()) rh hi ⟨putK kvs' k v,storedH xs k b' r,Zh,KN.tr (g.tr rh) (kn.put k kb hrv),(rk.putN k rc).mono rh g⟩ trivial (by rw[ha];trivial)
     . exact f.elim
   . exact f.elim
 . exact f.elim
def ZrR(hc:X.calm=Wp)(hY:Y.K=X.K):Zad X (.builtin "any") (rF Y E ZuK):=by
 intro pins s Z H xs us Q I r hh;obtain⟨ds,h,B,rh,rs,f⟩:=hh;unfold ZuK at f;split at f
 . obtain⟨e,e1,f⟩:=f.ofO;obtain⟨ns,e2,rfl⟩:=Oo.mp e1;obtain⟨zs,e3,e4⟩:=Option.bind_eq_some_iff.mp e2;obtain⟨x,rfl,r1⟩:=rs.one;obtain⟨a,vs,rfl,hl,rv⟩:=r1.lstOf rh e3;rw[ZiS rv e4]at hl;exact Znw hc pins s Z H _ us Q I r ⟨a,ns,rfl,hY ▸ hl,f.ok rh (.bl _)⟩
 . exact f.elim
def ZrL(hc:X.A.handled=Wo)(G:Gk X Y T):Zad X (.type "tuple") (rF Y E (ZpL T.GD)):=by
 intro pins s Z H xs us Q I r hh;obtain⟨ds,h,B,rh,rs,f⟩:=hh;unfold ZpL at f;split at f
 . split at f
   . rename_i ss e2;obtain⟨hok,f⟩:=f.iff;obtain⟨kvs,e3,e4⟩:=Option.bind_eq_some_iff.mp e2;obtain⟨x,rfl,r1⟩:=rs.one;obtain⟨a,kvs',rfl,hd,rk⟩:=r1.dicOf G rh e3;refine Zj7 hc pins s Z H _ us Q I r ⟨a,kvs',ss,rfl,hd,Zdj rk e4,λp hp=>?_⟩;exact f.tup rh hp (Zje _ λy hy=>OC.mp hok y hy)
   . exact f.elim
 . exact f.elim
end
set_option tactic.hygienic false
def RS(Y:Yx)(H:Hp)(B:List Yi)(S:Ev)(Z:L2.St):Prop:=Z.length=S.length/\∀(i:Nat) (d:D),S[i]? = Wn (Wn d)->∃v,Z[i]? = Wn (Wn v)/\RD Y H B d v
section
variable {Y:Yx}{H H':Hp}{B μ':List Yi}{h:Hd}{S:Ev}{Z:L2.St}
theorem RS.mono(rh:RH Y H B h)(g:Gr H B H' μ')(r:RS Y H B S Z):RS Y H' μ' S Z:=⟨r.1,λi d e=>let ⟨v,h1,h2⟩:=r.2 i d e;⟨v,h1,h2.mono rh g⟩⟩
def RS.var(r:RS Y H B S Z){i:Nat}{d:D}(e:(S[i]?).join=Wn d):∃v,Z[i]? = Wn (Wn v)/\RD Y H B d v:=by
 refine r.2 i d ?_;cases q:S[i]? with
 |none=>rw[q]at e;cases e
 |some o=>rw[q]at e;cases o with
  |none=>cases e
  |some d'=>cases e;rfl
theorem RS.set(r:RS Y H B S Z){i:Nat}{d:D}{v:V}(q:RD Y H B d v):RS Y H B (S.set i (Wn d)) (Z.set i (Wn v)):=by
 refine⟨by simp[r.1],λj e he=>?_⟩;by_cases hj:i=j
 . subst hj;have hl:i<S.length:=by have:=(Ob.mp he).1;simpa using this
   rw[Ol hl]at he;cases he;exact⟨v,by rw[Ol (by rw[r.1];exact hl)],q⟩
 . rw[Oc hj]at he;obtain⟨w,h1,h2⟩:=r.2 j e he;exact⟨w,by rw[Oc hj];exact h1,h2⟩
theorem RS.capt(r:RS Y H B S Z)(js:List (Option Nat)):RS Y H B (ZbI js S) (capt js Z):=by
 refine⟨by simp[ZbI,L2.capt],λi d e=>?_⟩;unfold ZbI at e;unfold L2.capt;rw[On]at e ⊢;cases q:js[i]? with
 |none=>rw[q]at e;cases e
 |some o=>
  rw[q]at e;cases o with
  |none=>cases e
  |some j=>
   have e':(S[j]?).join=Wn d:=by simpa using e
   obtain⟨v,h1,h2⟩:=r.var e';exact⟨v,by simp[h1],h2⟩
end
inductive Sm(Y:Yx)(E:XK){α β:Type}(rel:Hp->List Yi->α->β->Prop)(m:Ev->Hd->R α)(Z:L2.St)(H:Hp)(Q:β->Hp->Prop):Prop
 |mk (S:Ev) (h:Hd) (B:List Yi) (rh:RH Y H B h) (rs:RS Y H B S Z) (f:Fin Y rel H B (m S h) Q E):Sm Y E rel m Z H Q
def eqR{α:Type}:Hp->List Yi->α->α->Prop:=λ_ _ a b=>a=b
theorem Sm.bind{α β γ δ:Type}{Q:β->Hp->Prop}{rel:Hp->List Yi->γ->δ->Prop}{rel':Hp->List Yi->α->β->Prop}{m:Ev->Hd->R γ}{k:Ev->γ->Hd->R α}(s:Sm Y E rel' (λS h=>(m S h).bind (k S)) Z H Q)
 {Q1:δ->Hp->Prop}
 (hk:∀S d h1 v H1 μ1,RH Y H1 μ1 h1->RS Y H1 μ1 S Z->rel H1 μ1 d v->Fin Y rel' H1 μ1 (k S d h1) Q E->Q1 v H1):Sm Y E rel m Z H Q1:=by
 cases s with
 |mk S h B rh rs f=>exact⟨S,h,B,rh,rs,f.bind λd h1 x H1 μ1 _ g rh1 rd f1=>hk S d h1 x H1 μ1 rh1 (rs.mono rh g) rd f1⟩
section
variable (T:Tb) (Y:Yx) (E:XK)
def ZZ(e:Ex):TE:=Sm Y E (RD Y) (ev T e)
def Zik(e:Exs):TA:=Sm Y E (RDs Y) (evs T e)
def Zjj(e:Tx):TT:=Sm Y E eqR (tst T e)
def ZxD(e:Option Ex):TO:=Sm Y E eqR (evo T e)
def ZxE(e:Ix):TI:=Sm Y E (WJ Y) (evi T e)
noncomputable def ZeM(f:Str):Sp:=λvs H Q E=>∃ds h B,RH Y H B h/\RDs Y H B ds vs/\Fin Y (RD Y) H B (T.C f ds h) Q E
end
structure Gd(T:Tb)(Γ:Gm)(X:Cx)(Y:Yx)(E:XK)(k:Nat):Prop where
 gk:Gk X Y T
 N:X.N=Γ.N
 sc:Γ.top=Wp->X.env.scope=Γ.sc
 vis:∀x,Zp6 Γ.sc x=Wp->Vis X.env.scope x
 glo:∀x,Γ.sc.names.lookup x=Wn .globalImplicit->Gl X x
 nd:X.N.Nodup
 calm:X.calm=Wp
 room:Room k X.A
 h60:60<=k
 pass:ZbT (CXF X.prog X.w) X E
 defs:∀f∈Γ.fs,∃ps,Def X.prog X.w X.K X.mg X.base k f ps (ZeM T Y f)
 blt:∀x∈ZmB,X.mg x=Wo
 room1:Room (k+1) X.A
 cls:∀C∈Γ.kl.cs,∃a,X.mg C=Wn (.ref a)/\Cls X.K a/\∀f∈Γ.kl.ats,ZaV X.K a f
 mts:∀p∈Γ.kl.ms,∃a f fd ps,X.mg p.1=Wn (.ref a)/\Cls X.K a/\Meth X.K a p.2 f/\FnOk X.prog X.w X.K X.mg X.base (CXF X.prog X.w) k f fd ps (ZeM T Y (mnm p.1 p.2))/\Binds X.K fd ps []
 mks:∀C∈Γ.kl.is,∃a f fd ps,X.mg C=Wn (.ref a)/\Mk X.K a f/\FnOk X.prog X.w X.K X.mg X.base (CXF X.prog X.w) k f fd ps (ZeM T Y (mnm C (O "__init__")))/\Binds X.K fd ps []
def _root_.L2.PE.imp(h:PE X e t)(i:∀Z H Q,t' Z H Q->t Z H Q):PE X e t':=λpins s Z H Q I q=>h pins s Z H Q I (i Z H Q q)
def _root_.L2.PT.imp(h:PT X e t)(i:∀Z H Q,t' Z H Q->t Z H Q):PT X e t':=λpins s Z H Q I q=>h pins s Z H Q I (i Z H Q q)
def _root_.L2.PW.imp(h:PW X e t)(i:∀Z H Q,t' Z H Q->t Z H Q):PW X e t':=λw pins s Z H Q I q=>h w pins s Z H Q I (i Z H Q q)
def _root_.L2.PA.imp(h:PA X e t)(i:∀Z H Q,t' Z H Q->t Z H Q):PA X e t':=λp pins s Z H Q I q=>h p pins s Z H Q I (i Z H Q q)
def _root_.L2.PO.imp(h:PO X e t)(i:∀Z H Q,t' Z H Q->t Z H Q):PO X e t':=λpins s Z H Q I q=>h pins s Z H Q I (i Z H Q q)
def _root_.L2.PI.imp(h:PI X tg e t)(i:∀Z H Q,t' Z H Q->t Z H Q):PI X tg e t':=λpins s Z H Q I q=>h pins s Z H Q I (i Z H Q q)
structure Kd(x:Expr):Prop where
 star:tgE x≠0->∀xs env,Yz (x::xs) env=(Wq,eval x env)::Yz xs env
 set:tgE x≠18->∀env v,foldedSetIterable x env v=pure v
 mark:tgE x≠18->∀op,behindInMarks op x=Wq
 ix:tgE x≠5->Zi4 x
 put:tgE x≠5->∀o pos env v,assign (.Subscript o x pos) env v=(do
  let ov <- holding [v] (eval o env);let iv <- holding [v,ov] (eval x env)
  standAt pos
  holding [v,ov,iv] (setItem ov iv v)
  release [v,ov,iv] [])
 tr:ZkE x=Wp->∀env whole,isTrue x env whole=(do let v <- whole;standAt x.pos;holding [v] (truthy v))
 sw:tgE x≠13->tgE x≠19->∀t n env,swapsWith x t n env=pure Wq
 st:tgE x≠8->∀es j q env,swappedStores [.Tuple es j q] x env=pure Wo
def kdE(x:Expr):Kd x:=by
 cases x<;>exact⟨by first|exact λ_ _ _=>rfl|exact λh=>absurd rfl h,by first|exact λ_ _ _=>rfl|exact λh=>absurd rfl h,by first|exact λ_ _=>rfl|exact λh=>absurd rfl h,by first|exact λ_ _ _=>rfl|exact λh=>absurd rfl h,
  by first|exact λ_ _ _ _ _=>rfl|exact λh=>absurd rfl h,
  by first|exact λ_ _ _=>rfl|exact λh=>ff h,by first|exact λ_ _ _ _ _=>rfl|exact λh=>absurd rfl h|exact λ_ h=>absurd rfl h,by first|exact λ_ _ _ _ _=>rfl|exact λh=>absurd rfl h⟩
def Zr(env:Env)(h:ZaX x=Wp):Yz (x::xs) env=(Wq,eval x env)::Yz xs env:=(kdE x).star (of_decide_eq_true h) _ _
def Zkw(env:Env)(h:ZaO x=Wp):∀v,foldedSetIterable x env v=pure v:=(kdE x).set (of_decide_eq_true h) _
def ZdU(h:ZaO x=Wp):behindInMarks op x=Wq:=(kdE x).mark (of_decide_eq_true h) _
def Zjh(h:Zde x=Wp):Zi4 x:=(kdE x).ix (of_decide_eq_true h)
def Zgk(h:Zcs x=Wp):attributeBase x n env (eval x env)=eval x env:=by
 cases x with
 |Call f as ks p=>
  cases as with
  |nil=>cases h
  |cons a as=>cases f<;>rfl
 |_=>rfl
theorem ZeL(Γ:Gm)(env:Env):∀(es:Exs) (xs:List Expr),chks Γ es xs=Wp->∀pos,(YR pos (Yz xs env)).any (·.1)=Wq/\(YR pos (Yz xs env)).all (λx=>!x.1)=Wp
 |.nil,[],_,_=>⟨rfl,rfl⟩
 |.nil,_::_,h,_=>ff h
 |.cons _ _,[],h,_=>ff h
 |.cons _ r,x::xs,h,pos=>by rw[Zr env (bL (bR h))];exact ZeL Γ env r xs (bR (bR h)) pos
def Zb1(env:Env)(h:chks Γ es (y::r)=Wp):Yz (y::r) env=(Wq,eval y env)::Yz r env/\∀pos,(YR pos (Yz r env)).any (·.1)=Wq:=by
 cases es with
 |nil=>exact ff h
 |cons e s=>exact⟨Zr env (bL (bR h)),λpos=>(ZeL Γ env s r (bR (bR h)) pos).1⟩
@[elab_as_elim] theorem Zmp{P:List Expr->Prop}(h:chks Γ es ys=Wp)(h1:(!ys.isEmpty)=Wp)(k:∀y r,chks Γ es (y::r)=Wp->P (y::r)):P ys:=by
 cases ys with
 |nil=>exact ff h1
 |cons y r=>exact k y r h
def Gd.gl{T:Tb}{Γ:Gm}{X:Cx}{Y:Yx}{E:XK}{k:Nat}(G:Gd T Γ X Y E k){x:Str}(h:glb Γ x=Wp):Gl X x/\(x==("__debug__" : Str))=Wq:=by unfold glb at h;rw[Oa]at h;exact⟨G.glo x (of_decide_eq_true h.1),by simpa using h.2⟩
theorem ZgG{f:Str->NameKind->NameKind}(x:Str):∀names:List (Str×NameKind),(names.map λp=>(p.1,f p.1 p.2)).lookup x=(names.lookup x).map (f x)
 |[]=>rfl
 |(n,k)::r=>by
  rw[Op,OF,OF];by_cases e:x=n
  . subst e;simp
  . have:(x==n)=Wq:=by simpa using e
    simp only[this];exact ZgG x r
def ZbB(scope:Scope)(env:Env)(x:Str):(relabel scope env).names.lookup x=(scope.names.lookup x).map λk=>if (k==Yn&&env.scope.kind==.function&&env.kindOf x==Wn .cell)then NameKind.cell else k:=by
 have e:(relabel scope env).names=scope.names.map λp=>(p.1,(λ(n:Str) (k:NameKind)=>if (k==Yn&&env.scope.kind==.function&&env.kindOf n==Wn .cell)then NameKind.cell else k) p.1 p.2):=by unfold relabel;simp only;refine List.map_congr_left λp _=>?_;obtain⟨n,k⟩:=p;simp only;split<;>rfl
 rw[e];exact ZgG (f:=λ(n:Str) (k:NameKind)=>if (k==Yn&&env.scope.kind==.function&&env.kindOf n==Wn .cell)then NameKind.cell else k) x scope.names
def Gd.comp{T:Tb}{Γ:Gm}{X:Cx}{Y:Yx}{E:XK}{k:Nat}(G:Gd T Γ X Y E k)(NC:List Str)(scope:Scope)(C:Yi)(s3:Yb)(H3:Hp)(fp:List Yi)(nd:NC.Nodup):Gd T ⟨NC,scope,Γ.fs,Wq,Γ.kl⟩ (Zw X NC scope C s3 H3 fp) Y E0 k:=by
 refine⟨⟨G.gk.K,G.gk.mg,G.gk.gd,G.gk.g,G.gk.bare⟩,rfl,(λh=>by cases h),λx hx=>?_,λx hx=>?_,nd,rfl,G.room,G.h60,ZhM,G.defs,G.blt,G.room1,G.cls,G.mts,G.mks⟩
 . show Vis (relabel scope X.env) x;unfold Vis;rw[ZbB];unfold Zp6 at hx;rw[Wm,Wm]at hx;rcases hx with (hx|hx)|hx
   . rw[of_decide_eq_true hx];exact .inl rfl
   . rw[of_decide_eq_true hx];exact .inr (.inl rfl)
   . rw[of_decide_eq_true hx];by_cases q:(X.env.scope.kind==.function&&X.env.kindOf x==Wn .cell)=Wp
     . refine .inr (.inl ?_);have:(Yn==Yn&&X.env.scope.kind==.function&&X.env.kindOf x==Wn .cell)=Wp:=by simpa using q
       simp only[Yu,this,if_true]
     . refine .inr (.inr ?_);have:¬ ((Yn==Yn&&X.env.scope.kind==.function&&X.env.kindOf x==Wn .cell)=Wp):=by simpa using q
       simp only[Yu,this,if_false];rfl
 . show(relabel scope X.env).names.lookup x=Wn .globalImplicit;rw[ZbB,hx];rfl
section
variable {T:Tb}{Y:Yx}{E:XK}{Z:L2.St}{H:Hp}{Q:VK}
def ZmT{a b:Ex}{f:D->D->Hd->R D}(s:Sm Y E (RD Y) (λS h=>(ev T a S h).bind λx h1=>(ev T b S h1).bind λy h2=>f x y h2) Z H Q):ZZ T Y E a Z H λx H1=>ZZ T Y E b Z H1 λy H2=>rB Y E f x y H2 Q:=s.bind λS d h1 x H1 μ1 rh1 rs1 rd f1=>⟨S,h1,μ1,rh1,rs1,f1.bind λe h2 y H2 μ2 _ g2 rh2 re f2=>⟨d,e,h2,μ2,rh2,rd.mono rh1 g2,re,f2⟩⟩
end
def ZuG{T:Tb}{Γ:Gm}{X:Cx}{Y:Yx}{E:XK}{k:Nat}(G:Gd T Γ X Y E k)(f:Bf)(hb:bok f=Wp){e:Expr}{es:List Expr}{t:TA}{p pos:Pos}(hg:Gl X (ZmA f))(ha:PA X (e::es) t)
 (he:Yz (e::es) X.env=(Wq,eval e X.env)::Yz es X.env) (hpl:(YR pos (Yz es X.env)).any (·.1)=Wq):PE X (.Call (.Name (ZmA f) p) (e::es) [] pos) (tCB (rF Y E (Z0 T.GD f)) t):=by
 have hY:=G.gk.K;cases f with
 |len=>exact ZbD (ZrP hY) hg (G.blt _ (by decide)) (by decide +kernel) ha (by decide) (by decide) he hpl
 |isi=>exact ZbD (ZrQ hY) hg (G.blt _ (by decide)) (by decide +kernel) ha (by decide) (by decide) he hpl
 |int=>cases hb
 |tup=>exact Zft (ZrK hY) hg (G.blt _ (by decide)) (by decide +kernel) ha (by decide) (by decide) he hpl
 |lst=>exact Zft (ZrO hY) hg (G.blt _ (by decide)) (by decide +kernel) ha (by decide) (by decide) he hpl
 |sum=>exact ZbD (ZrM G.room.hd hY) hg (G.blt _ (by decide)) (by decide +kernel) ha (by decide) (by decide) he hpl
 |all=>exact ZbD (ZrS G.calm hY) hg (G.blt _ (by decide)) (by decide +kernel) ha (by decide) (by decide) he hpl
 |mx=>cases hb
 |sri=>cases hb
 |dct=>cases hb
 |ldk=>cases hb
 |anb=>exact ZbD (ZrR G.calm hY) hg (G.blt _ (by decide)) (by decide +kernel) ha (by decide) (by decide) he hpl
 |tdk=>exact Zft (ZrL G.room.hd G.gk) hg (G.blt _ (by decide)) (by decide +kernel) ha (by decide) (by decide) he hpl
 |sto=>cases hb
 |itx=>cases hb
 |lnd=>cases hb
 |srt=>exact ZbD (ZrN G.room.hd G.gk) hg (G.blt _ (by decide)) (by decide +kernel) ha (by decide) (by decide) he hpl
set_option tactic.hygienic true
def Zg7{v:V}(rd:∀H B,RD Y H B d v)(p:PE X x (tC v)):PE X x (ZZ T Y E (.cst d)):=PE.imp p λZ H Q s=>by
 cases s with
 |mk S h B rh rs f=>exact Fin.ok (r:=rd H B) (show Fin Y (RD Y) H B (.ok d h) Q E from f) rh
def Zpx(G:Gd T Γ X Y E k)(h:ZwS Γ d x=Wp):PE X x (ZZ T Y E (.cst d)):=by
 refine bO h (λh=>Zua (P:=λx=>PE X x _) h λc j q h=>?_) λh=>?_
 . cases d with
   |int i=>cases c with
    |int j=>exact dS (P:=λi=>PE X _ (ZZ T Y E (.cst (.int i)))) h (Zg7 (λ_ _=>.int _) Zts)
    |_=>exact ff h
   |str i=>cases c with
    |str j=>exact dS (P:=λi=>PE X _ (ZZ T Y E (.cst (.str i)))) (bL h) (Zg7 (λ_ _=>.str _ (bR h)) Ztp)
    |_=>exact ff h
   |bl i=>cases c with
    |bool j=>exact dS (P:=λi=>PE X _ (ZZ T Y E (.cst (.bl i)))) h (Zg7 (λ_ _=>.bl _) Zsj)
    |_=>exact ff h
   |non=>cases c with
    |none=>exact Zg7 (λ_ _=>.non) Ztr
    |_=>exact ff h
   |_=>exact ff h
 . cases d with
   |ty n=>
    refine Zi5 (P:=λx=>PE X x _) h λp h=>?_;obtain⟨g1,g2⟩:=G.gl (bR h);have all:(Zly.all λn=>Wt (bootBuiltins (Str.ofString n)=Wn (.type n))&&(Wt (Str.ofString n ≠ "__name__")&&Wt (Str.ofString n∈ZmB)))=Wp:=by decide +kernel
    have a:=OC.mp all n (of_decide_eq_true (bL h));exact Zg7 (λ_ _=>.ty _) (ZlW g1 (G.blt _ (of_decide_eq_true (bR (bR a)))) (of_decide_eq_true (bL a)) rfl (of_decide_eq_true (bL (bR a))) g2)
   |_=>exact ff h
def R.bind_eq{α β:Type}{r:R α}{k:α->Hd->R β}{b:β}{h:Hd}(e:r.bind k=.ok b h):∃a h1,r=.ok a h1/\k a h1=.ok b h:=by
 cases r with
 |bad=>cases e
 |ok a h1=>exact⟨a,h1,rfl,e⟩
 |exc c h1=>cases e
def R.bind_assoc{α β γ:Type}{r:R α}{k:α->Hd->R β}{l:β->Hd->R γ}:(r.bind k).bind l=r.bind λa h=>(k a h).bind l:=by cases r<;>rfl
def ZoK(e:opC GD op x y h=.ok r h'):∃b,r=.bl b:=by
 have i2:∀{f:Int->Int->Bool},Zio f x y h=.ok r h'->∃b,r=.bl b:=λe=>by
  unfold Zio at e;split at e
  . cases e;exact⟨_,rfl⟩
  . cases e
 have eq:∀{n:Bool},Zav n x y h=.ok r h'->∃b,r=.bl b:=λe=>by
  unfold IV.Zav at e;split at e
  . split at e
    . cases e;exact⟨_,rfl⟩
    . cases e
  . cases e
 have inn:∀{n:Bool},ZbU GD n x y h=.ok r h'->∃b,r=.bl b:=λe=>by
  unfold ZbU at e;split at e
  . split at e
    . cases e;exact⟨_,rfl⟩
    . cases e
  . split at e
    . cases e;exact⟨_,rfl⟩
    . cases e
 have n1:∀{n:Bool},opN n x y h=.ok r h'->∃b,r=.bl b:=λe=>by
  unfold opN at e;split at e
  . cases e;exact⟨_,rfl⟩
  . cases e
 unfold opC at e;split at e
 . exact eq e
 . exact eq e
 . exact i2 e
 . exact i2 e
 . exact i2 e
 . exact i2 e
 . exact inn e
 . exact inn e
 . exact n1 e
 . exact n1 e
def Zv8(m:Mf):Slot "list" (ZoS m) (mid m)/\typeOf (.builtin (mid m))=pure (.type "method_descriptor"):=by
 cases m with
 |app=>exact⟨PySem.F.slot_list_append,PySem.F.type_list_append⟩
 |ext=>exact⟨PySem.F.slot_list_extend,PySem.F.type_list_extend⟩
 |pop=>exact⟨PySem.F.slot_list_pop,PySem.F.type_list_pop⟩
 |rev=>exact⟨PySem.F.slot_list_reverse,PySem.F.type_list_reverse⟩
 |clr=>exact⟨PySem.F.slot_list_clear,PySem.F.type_list_clear⟩
section
variable {Y:Yx}{α β α' β':Type}{rel:Hp->List Yi->α->β->Prop}{rel':Hp->List Yi->α'->β'->Prop}{H0 H H1:Hp}{μ0 B μ1:List Yi}{E:XK}
def Fin.bindB(g0:Gr H0 μ0 H B)(f:Fin Y rel' H0 μ0 (r.bind k) Q E)
 (hk:∀a h1 b H1 μ1,r=.ok a h1->Gr H B H1 μ1->RH Y H1 μ1 h1->rel H1 μ1 a b->Fin Y rel' H0 μ0 (k a h1) Q E->Q1 b H1):Fin Y rel H B r Q1 E:=by
 cases r with
 |bad=>exact f
 |ok a h=>exact λb H' μ' g' rh rl=>hk a h b H' μ' rfl g' rh rl f
 |exc c h=>exact λH' μ' C g'=>f H' μ' C (g0.trans g')
theorem Fin.plain(f:Fin Y rel' H0 μ0 (r.plain.bind k) Q E)
 (hk:∀a h1 b H1 μ1,r=.ok a h1->Gr H B H1 μ1->RH Y H1 μ1 h1->rel H1 μ1 a b->Fin Y rel' H0 μ0 (k a h1) Q E->Q1 b H1):Fin Y rel H B r Q1 E0:=by
 cases r with
 |bad=>exact f
 |ok a h=>exact λb H' μ' g' rh rl=>hk a h b H' μ' rfl g' rh rl f
 |exc c h=>exact f.elim
end
def ZjM:List Nat->TGs
 |[]=>Zrv
 |i::is=>ZjN (ZcZ i) (ZjM is)
def tgR(K:Yk):Tg->TG
 |.nm i=>ZcZ i
 |.two i j=>Zru K 2 (ZjN (ZcZ i) (ZjN (ZcZ j) Zrv))
 |.many is=>Zru K is.length (ZjM is)
theorem Zjc:∀is:List Nat,is.foldr max 0<k->Zko k (ZjM is)
 |[],_=>ZlB
 |i::is,h=>by simp only[List.foldr_cons]at h;exact Zgr (by lia) (Zjc is (by lia))
def Zve(K:Yk)(g:Tg):Zlr (tgk g) (tgR K g):=by
 cases g with
 |nm i=>exact Zqa (OH i)
 |two i j=>exact ZnO (Zgr (show i<max i j+1 by lia) (Zgr (show j<max i j+1 by lia) ZlB))
 |many is=>exact ZnO (Zjc is (OH _))
theorem ZfD:∀(is:List Nat) (es:List Expr),Zmu N own is es=Wp->(assignEach es env).length=is.length/\List.findIdx? (λx=>x.fst) (assignEach es env)=Wo
 |[],[],_=>⟨rfl,rfl⟩
 |i::is,e::es,h=>by
  obtain⟨a,b⟩:=ZfD (env:=env) is _ (bR h);refine Zbu (P:=λe=>(assignEach (e::es) env).length=_/\List.findIdx? (λx=>x.fst) (assignEach (e::es) env)=Wo) (bL h) λx p _ _=>⟨congrArg (·+1) a,?_⟩
  simp only[assignEach,List.findIdx?_cons,b];rfl
 |[],_::_,h=>ff h
 |_::_,[],h=>ff h
theorem Zjs(hN:X.N=N)(nd:X.N.Nodup)(ho:∀x,own x=Wp->Loc X.env.scope x/\(X.fn x=Wp\/X.env.scope.names.lookup x=Wn .local)):∀(is:List Nat) (es:List Expr),Zmu N own is es=Wp->PGs X es (ZjM is)
 |[],[],_=>ZlR
 |i::is,e::es,h=>Zbu (P:=λe=>PGs X (e::es) _) (bL h) λx p e1 e2=>ZgC (ZlT nd (by rw[hN];exact e1) (ho _ e2).1 (ho _ e2).2) (Zjs hN nd ho is _ (bR h))
 |[],_::_,h=>ff h
 |_::_,[],h=>ff h
def ZlS(hN:X.N=N)(nd:X.N.Nodup)(hc:X.calm=Wp)(ho:∀x,own x=Wp->Loc X.env.scope x/\(X.fn x=Wp\/X.env.scope.names.lookup x=Wn .local))(h:ZrG N own g tg=Wp):PG X tg (tgR X.K g):=by
 have nm:∀{i x p},N[i]? = Wn x->own x=Wp->PG X (.Name x p) (ZcZ i):=λe1 e2=>ZlT nd (by rw[hN];exact e1) (ho _ e2).1 (ho _ e2).2;cases g with
 |nm i=>exact Zbu (P:=λt=>PG X t _) h λx p e1 e2=>nm e1 e2
 |two i j=>exact Zjd (P:=λt=>PG X t _) (show Zmw N own i j tg=Wp from h) λxs k q h=>ZjH (P:=λxs=>PG X (.Tuple xs k q) _) h λa b h=>Zbu (P:=λa=>PG X (.Tuple [a,b] k q) _) (bL h) λx p e1 e2=>Zbu (P:=λb=>PG X (.Tuple [_,b] k q) _) (bR h) λy r e3 e4=>Zop hc (ZgC (nm e1 e2) (ZgC (nm e3 e4) ZlR))
 |many is=>exact Zjd (P:=λt=>PG X t _) (show Zmv N own is tg=Wp from h) λxs k q h=>Zop (hn:=(ZfD _ _ h).1) (hst:=(ZfD _ _ h).2) hc (Zjs hN nd ho _ _ h)
theorem Zl2:∀(is:List Nat) {ds:List D}{vs:List V}{S:Ev}{Z:L2.St},RDs Y H B ds vs->RS Y H B S Z->ds.length=is.length->(∀σ1,RS Y H B (Zkx is ds S) σ1->Q σ1 H)->ZjM is vs Z H Q
 |[],ds,vs,S,Z,r,rs,hl,q=>by
  cases r with
  |nil=>exact⟨rfl,q _ rs⟩
  |cons a s=>simp at hl
 |i::is,ds,vs,S,Z,r,rs,hl,q=>by
  cases r with
  |nil=>simp at hl
  |cons a s=>exact⟨_,_,rfl,Zl2 is s (rs.set a) (by simpa using hl) q⟩
def ZiT{Y:Yx}{K:Yk}{Q:L2.St->Hp->Prop}(hY:Y.K=K)(r:RD Y H B d v)(rs:RS Y H B S Z)(e:ZbJ g d S=Wn ρ1)(q:∀σ1,RS Y H B ρ1 σ1->Q σ1 H):tgR K g v Z H Q:=by
 cases g with
 |nm i=>cases e;exact q _ (rs.set r)
 |two i j=>
  unfold ZbJ at e;simp only at e;split at e
  . cases e;obtain⟨a,vs,rfl,t,s⟩:=r.tup_inv;obtain⟨x,y,rfl,r1,r2⟩:=s.two;exact⟨a,_,rfl,hY ▸ t,rfl,x,_,rfl,y,_,rfl,rfl,q _ ((rs.set r1).set r2)⟩
  . cases e
 |many is=>
  unfold ZbJ at e;simp only at e;split at e
  . split at e
    . rename_i hl;cases e;obtain⟨a,vs,rfl,t,s⟩:=r.tup_inv;exact⟨a,vs,rfl,hY ▸ t,by rw[<- s.length,hl],Zl2 is s rs hl q⟩
    . cases e
  . cases e
section
variable {Y:Yx}{H:Hp}{B:List Yi}{h:Hd}{Dd:Yi}{ys zs:List V}
def ZnT{K:Yk}(hD:H Dd=Wn (.lst ys))(t:SqT K H a vs):SqT K (upd H Dd (.lst zs)) a vs:=by
 rcases t with t|t
 . rcases t with t|⟨o,t⟩
   . exact .inl (.inl (by rw[Zk (λz=>by rw[z,hD]at t;cases t)];exact t))
   . exact .inl (.inr ⟨o,by rw[Zk (λz=>by rw[z,hD]at t;cases t)];exact t⟩)
 . exact .inr t
def Zpe{K:Yk}(hD:H Dd=Wn (.lst ys))(t:FzL K H a vs):FzL K (upd H Dd (.lst zs)) a vs:=by
 rcases t with ⟨o,t⟩|t
 . exact .inl ⟨o,by rw[Zk (λz=>by rw[z,hD]at t;cases t)];exact t⟩
 . exact .inr t
def Tr.swap(hD:H Dd=Wn (.lst ys)):Tr Y H B (upd H Dd (.lst zs)) B:=⟨ZnT hD,Zpe hD,id⟩
theorem RH.swap(hD:H Dd=Wn (.lst ys))(hn:Dd ∉ B)(r:RH Y H B h):RH Y (upd H Dd (.lst zs)) B h:=r.tr (.swap hD) λ_ ha=>Zk λz=>hn (z ▸ ha)
def Gr.out(g:Gr H B H' μ')(hD:H Dd=Wn o)(hn:Dd ∉ B):H' Dd=Wn o/\Dd ∉ μ':=⟨g.keep _ _ hn hD,λhm=>(g.new _ hm).elim hn λz=>by rw[hD]at z;cases z⟩
end
inductive CwS(Y:Yx)(H1:Hp)(μ1:List Yi)(xs:List D)(Dd:Yi)(F:List D->List D->Hd->Prop)(i m:Nat)(ys:List V)(H:Hp):Prop
 |mk (acc:List D) (h:Hd) (B:List Yi) (hi:i<=xs.length) (hm:m=xs.length - i) (g:Gr H1 μ1 H B) (rh:RH Y H B h) (ra:RDs Y H B acc ys) (nd:Dd ∉ B) (f:F (xs.drop i) acc h):CwS Y H1 μ1 xs Dd F i m ys H
def Zmq{T:Tb}{Y:Yx}{E:XK}{K:Yk}(hY:Y.K=K){js:List (Option Nat)}{g:Tg}{c:Option Tx}{e:Ex}{tc:TT}{J:It}{w:Wk}{H1:Hp}{μ1:List Yi}{h1:Hd}{S:Ev}{Z:L2.St}{Q:VK}{Dd:Yi}
 (htc:∀Z H Q,Sm Y E0 eqR (tsto T c) Z H Q->tc Z H Q)
 (rh:RH Y H1 μ1 h1) (rs:RS Y H1 μ1 S Z) (wj:WJ Y H1 μ1 w J) (f:Fin Y (RD Y) H1 μ1 ((Zz w.src g (tsto T c) (ev T e) w.xs (ZbI js S) [] h1).bind λxs h2=>Zba (.lst xs) h2) Q E) (hD:H1 Dd=Wo) :
 ∃W:Nat->Nat->List V->Hp->Prop,(∃m,W 0 m [] (upd H1 Dd (.lst []))) /\
  ∀i m ys H,W i m ys H->H Dd=Wn (.lst ys)->(J.stop i H/\Q (.ref Dd) H) \/
   (J.go i H/\ys.length<sizeLine/\∀x H',J.yld i H x H'->tgR K g x (capt js Z) H' λσ2 H2=>tc σ2 H2 λb H3=>
    if b=Wp then ZZ T Y E0 e σ2 H3 λy H4=>H4 Dd=Wn (.lst ys)/\∃m',m'<m/\W (i+1) m' (ys++[y]) (upd H4 Dd (.lst (ys++[y])))
    else H3 Dd=Wn (.lst ys)/\∃m',m'<m/\W (i+1) m' ys H3):=by
 have n1:=rh.fr hD;refine⟨CwS Y H1 μ1 w.xs Dd λxs acc h=>Fin Y (RD Y) H1 μ1 ((Zz w.src g (tsto T c) (ev T e) xs (ZbI js S) acc h).bind λxs h2=>Zba (.lst xs) h2) Q E,⟨w.xs.length,[],h1,μ1,Yw _,(Nat.sub_zero _).symm,Gr.lay0 hD,rh.lay0 hD,.nil,n1,f⟩,?_⟩;rintro i m ys H ⟨acc,h,B,hi,rfl,g1,rh1,ra,nD,f1⟩ hl;by_cases hlt:i<w.xs.length
 . obtain⟨d,hd⟩:∃d,w.xs[i]? = Wn d:=⟨_,Og hlt⟩
   have hdrop:w.xs.drop i=d::w.xs.drop (i+1):=by rw[List.drop_eq_getElem_cons hlt];have:=Og hlt;rw[hd]at this;rw[<- YE this]
   rw[hdrop,Zz]at f1;by_cases hs:Wk.stays w.src h=Wp/\acc.length<sizeLine
   . rw[if_pos hs]at f1;obtain⟨go,yl⟩:=(wj H B h g1 rh1 hs.1).1 i d hd;refine .inr ⟨go,by rw[<- ra.length];exact hs.2,λx H' hy=>?_⟩;obtain⟨g2,rh2,rx⟩:=yl x H' hy;obtain⟨hl2,nD2⟩:=g2.out hl nD;have g02:=g1.trans g2;split at f1
     . exact f1.elim
     . rename_i ρ1 hb;refine ZiT hY rx ((rs.mono rh g02).capt js) hb λσ1 rs1=>htc σ1 H' _ ⟨ρ1,h,B,rh2,rs1,?_⟩;rw[R.bind_assoc]at f1;refine Fin.plain f1 λb h3 b' H3 μ3 _ g3 rh3 eb f3=>?_;subst eb;obtain⟨hl3,nD3⟩:=g3.out hl2 nD2;have g03:=g02.trans g3;cases b with
       |true=>rw[if_pos rfl]at f3 ⊢;rw[R.bind_assoc]at f3;refine⟨ρ1,h3,μ3,rh3,rs1.mono rh2 g3,Fin.plain f3 λy h4 y' H4 μ4 _ g4 rh4 ry f4=>?_⟩;obtain⟨hl4,nD4⟩:=g4.out hl3 nD3;refine⟨hl4,_,Nat.sub_lt_sub_left hlt (OH i),acc++[y],h4,μ4,hlt,rfl,(g03.trans g4).put hD,rh4.swap hl4 nD4,((((ra.mono rh1 g2).mono rh2 g3).mono rh3 g4).append (.cons ry .nil)).tr (.swap hl4),nD4,f4⟩
       |false=>rw[if_neg (by decide)]at f3 ⊢;exact⟨hl3,_,Nat.sub_lt_sub_left hlt (OH i),acc,h3,μ3,hlt,rfl,g03,rh3,(ra.mono rh1 g2).mono rh2 g3,nD3,f3⟩
   . rw[if_neg hs]at f1;exact f1.elim
 . have he:i=w.xs.length:=by lia
   subst he;rw[List.drop_eq_nil_of_le (Oq _),Zz]at f1;by_cases hs:Wk.stays w.src h=Wp
   . rw[if_pos hs]at f1;refine .inl ⟨(wj H B h g1 rh1 hs).2,?_⟩;have f2:Fin Y (RD Y) H1 μ1 (.ok (.ref h.length) (h++[.lst acc])) Q E:=f1;exact f2.at (g1.add hD) (rh1.add nD ⟨ys,hl,ra.tr .more⟩) (.ref (by rw[rh1.len];simp))
   . rw[if_neg hs]at f1;exact f1.elim
section
variable {Y:Yx}{H:Hp}{B:List Yi}{h:Hd}
theorem RKs.look:∀{fs:List (Str×D)}{gs:List (Str×V)},RKs Y H B fs gs->(∀d,fs.lookup f=Wn d->∃v,gs.lookup f=Wn v/\RD Y H B d v)/\(fs.lookup f=Wo->gs.lookup f=Wo)
 |_,_,.nil=>⟨λd e=>by simp at e,λ_=>rfl⟩
 |_,_,.cons (k:=k) (d:=d0) (v:=v0) a s=>by
  by_cases e:f=k
  . subst e;exact⟨λd z=>by simp at z;subst z;exact⟨_,by simp,a⟩,λz=>by simp at z⟩
  . have b:(f==k)=Wq:=by simpa using e
    obtain⟨q1,q2⟩:=RKs.look (f:=f) s;refine⟨λd z=>?_,λz=>?_⟩
    . rw[OF,b]at z ⊢;exact q1 d z
    . rw[OF,b]at z ⊢;exact q2 z
theorem RKs.putAF(r:RD Y H B d v):∀{fs:List (Str×D)}{gs:List (Str×V)},RKs Y H B fs gs->RKs Y H B (ZgA f d fs) (Zci f v gs)
 |_,_,.nil=>.cons r .nil
 |_,_,.cons (k:=k) a s=>by
  unfold ZgA Zci;by_cases e:k=f
  . rw[if_pos e,if_pos e];exact .cons r s
  . rw[if_neg e,if_neg e];exact .cons a (RKs.putAF r s)
def ZgO(rh:RH Y H B h)(r:RD Y H B d v)(e:ZR d h=Wn (C,fs)):∃i a Ca dx gs,d=.ref i/\v=.ref a/\B[i]? = Wn a/\h[i]? = Wn (.ins C fs)/\H a=Wn (.ins Ca dx gs)/\Y.mg C=Wn (.ref Ca)/\RKs Y H B fs gs:=by
 unfold ZR at e;split at e
 . rename_i i;split at e
   . rename_i C' fs' hi;cases e;cases r with
     |ref q=>rename_i a;obtain⟨Ca,dx,gs,z,m,s⟩:=rh.ob i _ a hi q;exact⟨i,a,Ca,dx,gs,rfl,rfl,q,hi,z,m,s⟩
   . cases e
 . cases e
def Zre(rh:RH Y H B h)(hx:H x=Wo)(hd:H dx=Wo)(ne:dx≠x)(m:Y.mg C=Wn (.ref Ca)):RH Y (upd (upd H dx (.own x)) x (.ins Ca dx [])) (B++[x]) (h++[.ins C []])/\Gr H B (upd (upd H dx (.own x)) x (.ins Ca dx [])) (B++[x]):=by
 have hx':upd H dx (.own x) x=Wo:=by rw[Zk (λz=>ne z.symm)];exact hx
 exact⟨(rh.lay0 hd).lay hx' ⟨Ca,dx,[],Zh,m,.nil⟩,(Gr.lay0 hd).trans (Gr.lay hx')⟩
end
def Znd(hbase:attributeBase o name env (eval o env)=eval o env)
 (hform:methodCallForm (args.length+([]:List Keyword).length) (YR pos (Yz args env)) (backToKw pos (keywordEach [] env))=Wp) (hline:(apos.endLine==pos.line)=Wp) :
 eval (.Call (.Attribute o name apos) args [] pos) env=(do
  let ov <- eval o env
  standAt apos.atName
  let (f,first) <- holding [ov] (getMethod ov name (do return (<- importBound o env).getD Wp))
  callWith pos f first (YR pos (Yz args env)) (backToKw pos (keywordEach [] env))):=by
 have hpos:methodCallPos Wp o env apos pos=pure pos:=by unfold methodCallPos;simp[hline]
 rw[arm_eval_Call,hbase];unfold methodCall;simp only[hform,hpos];rfl
section
variable {T:Tb}{Γ:Gm}{X:Cx}{Y:Yx}{E:XK}{k:Nat}
def ZuN(G:Gd T Γ X Y E k)(hc:(Cs.all λC=>Wt (C∈Γ.kl.cs))=Wp)(hf:f∈Γ.kl.ats)(rh:RH Y H B h)(rd:RD Y H B d x)(ff:Fin Y (RD Y) H B (Zeu Cs f d h) Q E):
 ∃a C dx fs v,x=.ref a/\H a=Wn (.ins C dx fs)/\Cls X.K C/\ZaV X.K C f/\fs.lookup f=Wn v/\Q v H:=by
 unfold Zeu at ff;split at ff
 . rename_i C fs e;obtain⟨hC,ff⟩:=ff.iff;obtain⟨i,a,Ca,dx,gs,rfl,rfl,q,hi,z,m,s⟩:=ZgO rh rd e;obtain⟨w,e1,ff⟩:=ff.ofO;obtain⟨v,l,rv⟩:=(s.look (f:=f)).1 w e1;rw[OC]at hc;obtain⟨Ca',m',cl,na⟩:=G.cls C (of_decide_eq_true (hc C hC));rw[G.gk.mg,m']at m;cases m;exact⟨a,Ca,dx,gs,v,rfl,z,cl,na f hf,l,ff.ok rh rv⟩
 . exact ff.elim
def ZnX(G:Gd T Γ X Y E k)(hc:(Cs.all λC=>Wt (C∈Γ.kl.cs))=Wp)(hf:f∈Γ.kl.ats)(rh:RH Y H B h)(rd:RD Y H B d x)(re:RD Y H B e y)(ff:Fin Y (RD Y) H B (Zhq Cs f d e h) Q E):
 ∃a C dx fs,x=.ref a/\H a=Wn (.ins C dx fs)/\Cls X.K C/\ZaV X.K C f/\fs.length<1000/\Q .non (upd H a (.ins C dx (Zci f y fs))):=by
 unfold Zhq at ff;split at ff
 . rename_i i;split at ff
   . rename_i C fs hi;obtain⟨⟨hC,hl⟩,ff⟩:=ff.iff;obtain⟨i',a,Ca,dx,gs,e1,rfl,q,hi',z,m,s⟩:=ZgO rh rd (show ZR (.ref i) h=Wn (C,fs) by simp[ZR,hi]);cases e1;rw[OC]at hc;obtain⟨Ca',m',cl,na⟩:=G.cls C (of_decide_eq_true (hc C hC));have m0:=m;rw[G.gk.mg,m']at m;cases m;refine⟨a,Ca,dx,gs,rfl,z,cl,na f hf,by rw[<- s.length];exact hl,ff.at (Gr.write (O1 q) (by rw[z];trivial)) (rh.write q ?_ (by rw[z];trivial)) .non⟩;exact⟨Ca,dx,_,Zh,m0,(RKs.putAF re s).mono rh (Gr.write (O1 q) (by rw[z];trivial))⟩
   . exact ff.elim
 . exact ff.elim
def Zv9(G:Gd T Γ X Y E k)(h2:C∈Γ.kl.is)(h3:glb Γ C=Wp)(h4:chks Γ es ys=Wp)(ha:PA X ys (Zik T Y E es)):PE X (.Call (.Name C p) ys [] pos) (ZZ T Y E (.mk C es)):=by
 obtain⟨a,f,fd,ps,m,M,F,B_⟩:=G.mks _ h2;obtain⟨g1,g2⟩:=G.gl h3;have key:∀(ds:List D) (h1:Hd) (xs:List V) (H1:Hp) (μ1:List Yi) (Q:VK),RH Y H1 μ1 h1->RDs Y H1 μ1 ds xs->Fin Y (RD Y) H1 μ1 (ZkP T.C C ds h1) Q E->∀x dx,H1 x=Wo->H1 dx=Wo->dx≠x ->
  ZeM T Y (mnm C (O "__init__")) (.ref x::(xs++[])) (upd (upd H1 dx (.own x)) x (.ins a dx [])) (λv H2=>v=.non/\Q (.ref x) H2) E:=by
  intro ds h1 xs H1 μ1 Q rh1 rds f1 x dx hx hd ne;obtain⟨rh2,g2⟩:=Zre (C:=C) (Ca:=a) rh1 hx hd ne (by rw[G.gk.mg];exact m);have px:(μ1++[x])[h1.length]? = Wn x:=by rw[rh1.len];simp
  refine⟨.ref h1.length::ds,h1++[.ins C []],μ1++[x],rh2,.cons (.ref px) (by rw[Ys];exact rds.mono rh1 g2),?_⟩;refine Fin.bind (Fin.mono g2 f1) λd h3 v H3 μ3 _ g3 rh3 rd3 f3=>?_;cases d with
  |non=>cases rd3;exact⟨rfl,f3.ok rh3 (.ref (g3.pre _ _ px))⟩
  |_=>exact f3.elim
 cases ys with
 |nil=>
  cases es with
  |nil=>
   exact(Zov M F G.room1 g1 m B_ .nil G.pass g2).imp λZ H Q s=>by
    cases s with
    |mk S h B rh rs f=>exact key [] h [] H B Q rh .nil f
  |cons e r=>exact ff h4
 |cons y ys=>exact(ZqL M F G.room1 g1 m B_ .nil G.pass ha g2 (Zb1 X.env h4).1 ((Zb1 X.env h4).2 _)).imp λZ H Q s=>Sm.bind s λS ds h1 xs H1 μ1 rh1 _ rds f1=>key ds h1 xs H1 μ1 Q rh1 rds f1
def ZtS(G:Gd T Γ X Y E k)(h5:(C,n)∈Γ.kl.ms)(h3:Zcs xo=Wp)(h4:chks Γ es ys=Wp)(h6:ys.length<29)(h7:(ap.endLine==cp.line)=Wp)(ho:PE X xo (ZZ T Y E o))(ha:PA X ys (Zik T Y E es)):
 PE X (.Call (.Attribute xo n ap) ys [] cp) (ZZ T Y E (.mcl C n o es)):=by
 obtain⟨a,f,fd,ps,mm,c,hm,F,B_⟩:=G.mts _ h5;have hform:methodCallForm (ys.length+([]:List Keyword).length) (YR cp (Yz ys X.env)) (backToKw cp (keywordEach [] X.env))=Wp:=by
  unfold methodCallForm;rw[(ZeL Γ X.env es ys h4 _).2];have h30:Wt (ys.length+([]:List Keyword).length+(if (backToKw cp (keywordEach [] X.env)).isEmpty then 0 else 1)<30)=Wp:=by
   rw[decide_eq_true_eq];show ys.length+0+0<30
   lia
  rw[h30];rfl
 have ht:=Znd (o:=xo) (name:=n) (apos:=ap) (pos:=cp) (args:=ys) (env:=X.env) (Zgk h3) hform h7;have key:∀(d:D) (h1:Hd) (x:V) (H1:Hp) (μ1:List Yi) (S:Ev) (Z:L2.St) (Q:VK),RH Y H1 μ1 h1->RS Y H1 μ1 S Z->RD Y H1 μ1 d x->Fin Y (RD Y) H1 μ1 (match ZR d h1 with
  |some (C',fs)=>if C'=C/\fs.lookup n=Wo then(evs T es S h1).bind λxs h2=>T.C (mnm C n) (d::xs) h2 else .bad
  |none=>.bad) Q E->∃b dx fs,x=.ref b/\H1 b=Wn (.ins a dx fs)/\fs.lookup n=Wo/\Zik T Y E es Z H1 λvs H2=>ZeM T Y (mnm C n) (x::(vs++[])) H2 Q E:=by
  intro d h1 x H1 μ1 S Z Q rh1 rs1 rd f1;split at f1
  . rename_i C' fs e;obtain⟨⟨e1,e2⟩,f1⟩:=f1.iff;subst e1;obtain⟨i,b,Ca,dx,gs,rfl,rfl,q,hi,z,m',s⟩:=ZgO rh1 rd e;rw[G.gk.mg,mm]at m';cases m';refine⟨b,dx,gs,rfl,z,(s.look (f:=n)).2 e2,S,h1,μ1,rh1,rs1,f1.bind λds h2 vs H2 μ2 _ g2 rh2 rds f2=>⟨_,h2,μ2,rh2,.cons (rd.mono rh1 g2) (by rw[Ys];exact rds),f2⟩⟩
  . exact f1.elim
 cases ys with
 |nil=>
  cases es with
  |nil=>
   exact(Zou ho c hm F G.room B_ .nil G.pass ht).imp λZ H Q s=>Sm.bind s λS d h1 x H1 μ1 rh1 rs1 rd f1=>by
    obtain⟨b,dx,fs,e1,e2,e3,s⟩:=key d h1 x H1 μ1 S Z Q rh1 rs1 rd f1;cases s with
    |mk ρ' h' μ' rh' rs' f'=>exact⟨b,dx,fs,e1,e2,e3,f'.ok rh' .nil⟩
  |cons e r=>exact ff h4
 |cons y ys=>exact(ZqJ ho c hm F G.room B_ .nil G.pass ha (Zb1 X.env h4).1 ((Zb1 X.env h4).2 _) ht).imp λZ H Q s=>Sm.bind s λS d h1 x H1 μ1 rh1 rs1 rd f1=>key d h1 x H1 μ1 S Z Q rh1 rs1 rd f1
end
def ZlY{q:Prop}(X:Cx)(hx:ZvT scope x=Wp):Loc (relabel scope X.env) x/\(q\/(relabel scope X.env).names.lookup x=Wn .local):=by
 have:(relabel scope X.env).names.lookup x=Wn .local:=by rw[ZbB,of_decide_eq_true hx];rfl
 exact⟨.inl this,.inr this⟩
def ZnJ(e:ZhF (.ref i) h=Wn w):∃xs,h[i]? = Wn (.lst xs)/\w=⟨[(i,xs)],xs⟩:=by
 unfold ZhF at e;simp only at e;split at e
 . cases e;exact⟨_,by assumption,rfl⟩
 . cases e
def Zu8{X:Cx}{h1:Hd}(K:Y.K=X.K)(rh:RH Y H1 μ1 h1)(r:RD Y H1 μ1 d v)(il:ZeY d h1=Wp):tyV X.K "list" v H1:=by
 cases r with
 |ref q=>
  rename_i i a;have:∃xs,h1[i]? = Wn (.lst xs):=by
   unfold ZeY at il;simp only at il;split at il
   . exact⟨_,by assumption⟩
   . cases il
  obtain⟨xs,hx⟩:=this;obtain⟨vs,hl,_⟩:=rh.ob i _ a hx q;exact .inl ⟨rfl,vs,.of hl⟩
 |_=>cases il
def Zrb(G:Gd T Γ X Y E k)(ho:PE X xo (ZZ T Y E o))(h3:Zcs xo=Wp)(h4:chks Γ es ys=Wp)(h5:ys.length<29)(h6:(ap.endLine==cp.line)=Wp)(ha:PA X ys (Zik T Y E es)):
 PE X (.Call (.Attribute xo (ZoS m) ap) ys [] cp) (ZZ T Y E (.meth m o es)):=by
 obtain⟨sl,ty⟩:=Zv8 m;cases ys with
 |nil=>
  cases es with
  |nil=>exact(Ztw PySem.F.plainAttrs_list sl ty (Zl1 (Y:=Y) (E:=E) G.gk.K m) ho (Zgk h3) h6).imp λZ H Q s=>Sm.bind s λS d h1 x H1 μ1 rh1 rs1 rd f1=>⟨Zu8 G.gk.K rh1 rd f1.iff.1,d,[],h1,μ1,rh1,rd,.nil,f1.iff.2⟩
  |cons e r=>exact ff h4
 |cons y ys=>
  refine(ZvS PySem.F.plainAttrs_list sl ty (Zl1 (Y:=Y) (E:=E) G.gk.K m) ho ha (Zgk h3) ?_ h6 (Zb1 X.env h4).1 ((Zb1 X.env h4).2 _)).imp λZ H Q s=>Sm.bind s λS d h1 x H1 μ1 rh1 rs1 rd f1=>⟨Zu8 G.gk.K rh1 rd f1.iff.1,S,h1,μ1,rh1,rs1,f1.iff.2.bind λds h2 xs H2 μ2 _ g2 rh2 rds f2=>⟨d,ds,h2,μ2,rh2,rd.mono rh1 g2,rds,f2⟩⟩
  rw[(ZeL Γ X.env es (y::ys) h4 _).2];have h30:Wt ((y::ys).length+([]:List Keyword).length+(if ([]:List Keyword).isEmpty then 0 else 1)<30)=Wp:=by rw[decide_eq_true_eq];exact Nat.lt_succ_of_lt h5
  rw[h30];rfl
def Zyq(hb:∀d h',e=.ok d h'->∃c,d=.bl c)(f:Fin Y eqR H B (e.bind λx h1=>R.ofO (Zen GD x h1) h1) Q E):Fin Y (RD Y) H B e (λv H'=>∃c,v=.bl c/\Q c H') E:=
 f.bind λd h1 x H1 μ1 er g rh1 rd f1=>by obtain⟨c,rfl⟩:=hb d h1 er;cases rd;exact⟨c,rfl,Fin.ok (show Fin Y eqR H1 μ1 (.ok c h1) Q E from f1) rh1 rfl⟩
def Zw3{f:D->D->Hd->R D}(hf:∀x y h d h',f x y h=.ok d h'->∃c,d=.bl c)(s:Sm Y E eqR (λS h=>((ev T a S h).bind λx h1=>(ev T b S h1).bind λy h2=>f x y h2).bind λx h1=>R.ofO (Zen T.GD x h1) h1) Z H Q):
 ZZ T Y E a Z H λx H1=>ZZ T Y E b Z H1 λy H2=>rB Y E f x y H2 λv H3=>∃c,v=.bl c/\Q c H3:=by
 cases s with
 |mk S h B rh rs q=>refine ZmT ⟨S,h,B,rh,rs,Zyq (λd h' er=>?_) q⟩;obtain⟨_,_,_,er⟩:=R.bind_eq er;obtain⟨_,_,_,er⟩:=R.bind_eq er;exact hf _ _ _ _ _ er
def ZrE(G:Gd T Γ X Y E k)(ha:PE X l (ZZ T Y E a))(hb:PE X r (ZZ T Y E b))(hm:ZaO r=Wp):PT X (.Compare l [op] [r] pos) (Zjj T Y E (.ex (.cmp op a b))):=(ZlP (Zfu (E:=E) G.room G.h60 G.gk op) ha hb (ZdU hm)).imp λ_ _ _ s=>Zw3 (f:=opC T.GD op) (λ_ _ _ _ _=>ZoK) s
def ZtN(e:Zkl n x y h=.ok r h'):∃b,r=.bl b:=by
 unfold Zkl at e;split at e
 . split at e
   . cases e;exact⟨_,rfl⟩
   . cases e
 . cases e
def Zq9(G:Gd T Γ X Y E k)(ha:PE X l (ZZ T Y E a))(hb:PE X r (ZZ T Y E b))(hm:ZaO r=Wp):PT X (.Compare l [if n then .NotIn else .In] [r] pos) (Zjj T Y E (.ex (.nin n a b))):=(ZlP (Zju n (E:=E) G.room G.gk.K) ha hb (ZdU hm)).imp λ_ _ _ s=>Zw3 (f:=Zkl n) (λ_ _ _ _ _=>ZtN) s
noncomputable def ZwT(r:D)(k:Hd->R D)(h:Hd):R D:=match r with
 |.bl Wp=>k h
 |.bl Wq=>.ok (.bl Wq) h
 |_=>.bad
def ZuH{r:R α}:r.bind R.ok=r:=by cases r<;>rfl
def ZwQ(s:Sm Y E rel (λS h=>(ev T (.cmp2 o1 o2 a b c) S h).bind k) Z H Q)
 (hq:∀d h1 v H1 μ1,RH Y H1 μ1 h1->RD Y H1 μ1 d v->(∃c,d=.bl c)->Fin Y rel H1 μ1 (k d h1) Q E->Q' v H1) :
 ZZ T Y E a Z H λx H1=>ZZ T Y E b Z H1 λy H2=>rB Y E (opC T.GD o1) x y H2 λv H3=>∃q,v=.bl q/\if q=Wp then ZZ T Y E c Z H3 λz H4=>rB Y E (opC T.GD o2) y z H4 Q' else Q' (.bl Wq) H3:=by
 cases s with
 |mk S h B rh rs f=>
  have f:Fin Y rel H B ((ev T a S h).bind λx h1=>(ev T b S h1).bind λy h2=>(opC T.GD o1 x y h2).bind λr h3=>(ZwT r (λh3=>(ev T c S h3).bind λz h4=>opC T.GD o2 y z h4) h3).bind k) Q E:=by have q:=f;rw[show ev T (.cmp2 o1 o2 a b c) S h=(ev T a S h).bind λx h1=>(ev T b S h1).bind λy h2=>(opC T.GD o1 x y h2).bind λr h3=>ZwT r (λh3=>(ev T c S h3).bind λz h4=>opC T.GD o2 y z h4) h3 from rfl,R.bind_assoc]at q;simpa only[R.bind_assoc]using q
  refine⟨S,h,B,rh,rs,f.bind λd h1 x H1 μ1 _ g rh1 rd f1=>⟨S,h1,μ1,rh1,rs.mono rh g,f1.bind λe h2 y H2 μ2 _ g2 rh2 re f2=>⟨d,e,h2,μ2,rh2,rd.mono rh1 g2,re,f2.bind λr h3 z H3 μ3 _ g3 rh3 rz f3=>?_⟩⟩⟩;cases rz with
  |bl q=>
   refine⟨q,rfl,?_⟩;cases q with
   |true=>refine ZjJ ⟨S,h3,μ3,rh3,((rs.mono rh g).mono rh1 g2).mono rh2 g3,?_⟩;have f3:Fin Y rel H3 μ3 (((ev T c S h3).bind λz h4=>opC T.GD o2 e z h4).bind k) Q E:=f3;rw[R.bind_assoc]at f3;exact f3.bind λd4 h4 w H4 μ4 _ g4 rh4 rw' f4=>⟨e,d4,h4,μ4,rh4,(re.mono rh2 g3).mono rh3 g4,rw',f4.bind λd5 h5 w5 H5 μ5 er g5 rh5 rd5 f5=>hq d5 h5 w5 H5 μ5 rh5 rd5 (ZoK er) f5⟩
   |false=>exact ZjK (hq (.bl Wq) h3 _ H3 μ3 rh3 (.bl _) ⟨_,rfl⟩ f3)
  |_=>exact f3.elim
def Zpz(G:Gd T Γ X Y E k)(ha:PE X l (ZZ T Y E a))(hb:PE X m (ZZ T Y E b))(hc:PE X r (ZZ T Y E c))(hm:ZaO r=Wp):PT X (.Compare l [o1,o2] [m,r] pos) (Zjj T Y E (.ex (.cmp2 o1 o2 a b c))):=
 (Zoi (Zfu (E:=E) G.room G.h60 G.gk o1) (Zfu (E:=E) G.room G.h60 G.gk o2) ha hb hc (ZdU hm)).imp λZ H Q s=>ZwQ (Q':=λv H'=>∃c,v=.bl c/\Q c H') s λd h1 v H1 μ1 rh1 rd ⟨q,e⟩ f1=>by subst e;cases rd;exact⟨q,rfl,Fin.ok (show Fin Y eqR H1 μ1 (.ok q h1) Q E from f1) rh1 rfl⟩
def Zm0(G:Gd T Γ X Y E k)(he:PE X x (ZZ T Y E e))(h1:ZkE x=Wp):PT X x (Zjj T Y E (.ex e)):=
 (Zoh he ((kdE x).tr h1 _)).imp λZ H Q s=>Sm.bind s λS d h1 x H1 μ1 rh1 rs1 rd f1=>by obtain⟨b,eb,f1⟩:=f1.ofO;exact⟨b,Zp9 G.gk.K rh1 rd eb,f1.ok rh1 rfl⟩
def Zlz(T:Tb)(Y:Yx)(E:XK):Exs->List (TE×TE)
 |.nil=>[]
 |.cons k r=>match r with
  |.nil=>[]
  |.cons v r'=>(ZZ T Y E k,ZZ T Y E v)::Zlz T Y E r'
section
variable {Y:Yx}{H:Hp}{B:List Yi}{h:Hd}{Dd:Yi}{ys zs:List (Key×V)}
def ZmR{K:Yk}(hD:H Dd=Wn (.dK ys))(t:SqT K H a vs):SqT K (upd H Dd (.dK zs)) a vs:=by
 rcases t with t|t
 . rcases t with t|⟨o,t⟩
   . exact .inl (.inl (by rw[Zk (λz=>by rw[z,hD]at t;cases t)];exact t))
   . exact .inl (.inr ⟨o,by rw[Zk (λz=>by rw[z,hD]at t;cases t)];exact t⟩)
 . exact .inr t
def Znp{K:Yk}(hD:H Dd=Wn (.dK ys))(t:FzL K H a vs):FzL K (upd H Dd (.dK zs)) a vs:=by
 rcases t with ⟨o,t⟩|t
 . exact .inl ⟨o,by rw[Zk (λz=>by rw[z,hD]at t;cases t)];exact t⟩
 . exact .inr t
def Tr.swapD(hD:H Dd=Wn (.dK ys)):Tr Y H B (upd H Dd (.dK zs)) B:=⟨ZmR hD,Znp hD,id⟩
end
inductive RPs(Y:Yx)(H:Hp)(B:List Yi):List D->List (V×V)->Prop
 |nil:RPs Y H B [] []
 |cons {k v:D}{r:List D}{x y:V}{ps:List (V×V)}:RD Y H B k x->RD Y H B v y->RPs Y H B r ps->RPs Y H B (k::v::r) ((x,y)::ps)
theorem RPs.pairs:∀{ds:List D}{ps:List (V×V)}{kvs:List (Key×D)},RPs Y H B ds ps->Zcj ds=Wn kvs->∃kvs':List (Key×V),ps=kvs'.map (λkv=>(kV kv.1,kv.2))/\RKs Y H B kvs kvs'
 |_,_,_,.nil,e=>by cases e;exact⟨[],rfl,.nil⟩
 |_,_,_,.cons a b s,e=>by
  rw[Zcj]at e;split at e
  . rename_i k r e1 e2;cases e;obtain⟨kvs',rfl,rk⟩:=s.pairs e2;have:=ZdV a e1;subst this;exact⟨(k,_)::kvs',rfl,.cons b rk⟩
  . cases e
theorem RPs.keysOk:∀{ds:List D}{ps:List (V×V)}{kvs:List (Key×D)},RPs Y H B ds ps->Zcj ds=Wn kvs->ZcW kvs
 |_,_,_,.nil,e=>by cases e;intro p hp;cases hp
 |_,_,_,.cons a b s,e=>by
  rw[Zcj]at e;split at e
  . rename_i k r e1 e2;cases e;intro p hp x z;rcases O2.mp hp with rfl|hp
    . exact Zo5 a e1 x z
    . exact s.keysOk e2 p hp x z
  . cases e
theorem ZeW:∀{more kvs:List (Key×D)},ZcW more->ZcW kvs->ZcW (ZcK kvs more)
 |[],kvs,_,h=>h
 |(k,d)::r,kvs,hm,h=>ZeW (more:=r) (kvs:=putD kvs k d) (λp hp=>hm p (Oh _ hp)) (ZgK h (λx e=>hm (k,d) Oi x e))
theorem RKs.merge:∀{more:List (Key×D)}{more':List (Key×V)}{kvs:List (Key×D)}{kvs':List (Key×V)},RKs Y H B more more'->RKs Y H B kvs kvs'->RKs Y H B (ZcK kvs more) (Zfv kvs' more')
 |_,_,_,_,.nil,s=>s
 |_,_,_,_,.cons (k:=k) a r,s=>by have z:=RKs.merge r (s.put k a);exact z
def ZoC:∀(n:Nat) (ps:Exs) {K:List D->Hd->R D}{H:Hp}{B:List Yi}{h:Hd}{Q1:List (V×V)->Hp->Prop}{Γ:Gm}{ks:List (Option Expr)}{vs:List Expr},ks.length<=n->chkp Γ ps ks vs=Wp ->
 Gr H0 μ0 H B->RH Y H B h->RS Y H B S Z->Fin Y (RD Y) H0 μ0 ((evs T ps S h).bind K) Q E ->
 (∀ds h1 qs H1 μ1,Gr H B H1 μ1->RH Y H1 μ1 h1->RPs Y H1 μ1 ds qs->Fin Y (RD Y) H0 μ0 (K ds h1) Q E->Q1 qs H1)->Zif (Zlz T Y E ps) Z H Q1:=by
 intro n;induction n with
 |zero=>
  intro ps K H B h Q1 Γ ks vs hl hc g0 rh rs f hq;cases ps with
  |nil=>exact hq [] h [] H B Gr.refl rh .nil f
  |cons k r=>
   cases r with
   |nil=>unfold chkp at hc;cases hc
   |cons v r'=>
    unfold chkp at hc;simp only at hc;split at hc
    . simp at hl
    . cases hc
 |succ n ih=>
  intro ps K H B h Q1 Γ ks vs hl hc g0 rh rs f hq;cases ps with
  |nil=>exact hq [] h [] H B Gr.refl rh .nil f
  |cons k r=>
   cases r with
   |nil=>unfold chkp at hc;cases hc
   |cons v r'=>
    unfold chkp at hc;simp only at hc;split at hc
    . rw[Oa]at hc;have f1:Fin Y (RD Y) H0 μ0 ((ev T k S h).bind λx h1=>(ev T v S h1).bind λy h2=>(evs T r' S h2).bind λxs h3=>K (x::y::xs) h3) Q E:=by
       have e:(evs T (.cons k (.cons v r')) S h).bind K=(ev T k S h).bind λx h1=>(ev T v S h1).bind λy h2=>(evs T r' S h2).bind λxs h3=>K (x::y::xs) h3:=by show((ev T k S h).bind λx h1=>((ev T v S h1).bind λy h2=>(evs T r' S h2).bind λxs h3=>R.ok (y::xs) h3).bind λxs h2=>R.ok (x::xs) h2).bind K=_;simp only[R.bind_assoc,R.bind_ok]
       rw[<- e];exact f
      refine⟨S,h,B,rh,rs,Fin.bindB g0 f1 λd h1 x H1 μ1 _ g1 rh1 rd f2=>?_⟩;refine⟨S,h1,μ1,rh1,rs.mono rh g1,Fin.bindB (g0.trans g1) f2 λe h2 y H2 μ2 _ g2 rh2 re f3=>?_⟩;refine ih r' (by simpa using hl) (bR hc.2) ((g0.trans g1).trans g2) rh2 ((rs.mono rh g1).mono rh1 g2) f3 λds h3 qs H3 μ3 g3 rh3 rp f4=>?_;exact hq (d::e::ds) h3 ((x,y)::qs) H3 μ3 ((g1.trans g2).trans g3) rh3 (.cons ((rd.mono rh1 g2).mono rh2 g3) (re.mono rh2 g3) rp) f4
    . cases hc
def ZrB(ps:Exs)(G:Gd T Γ X Y E k)(h15:ks.length<=15)(hc:chkp Γ ps ks vs=Wp)(hp:PPs X pos ks vs (Zlz T Y E ps))(hall:ks.all (·.isSome)=Wp)(hl:ks.length=vs.length):PE X (.Dict ks vs pos) (ZZ T Y E (.dictl ps)):=by
 by_cases h0:ks=[]
 . subst h0;cases vs with
   |cons a b=>cases hl
   |nil=>
    cases ps with
    |cons k r=>
     cases r with
     |nil=>unfold chkp at hc;cases hc
     |cons v r'=>unfold chkp at hc;cases hc
    |nil=>refine ZoA.imp λZ H Q ⟨S,h,B,rh,rs,f⟩ p hp=>?_;have f:Fin Y (RD Y) H B (Zba (.dic []) h) Q E:=f;exact f.new rh hp ⟨[],Zh,.nil⟩ (λp hp=>by cases hp)
 . refine(ZqM hp hall hl h0 h15).imp λZ H Q ⟨S,h,B,rh,rs,f⟩ p hp=>?_;have np:=rh.fr hp;refine ZoC ks.length ps (Oq _) hc (Gr.lay0 hp) (rh.lay0 hp) (rs.mono rh (Gr.lay0 hp)) f λds h1 qs H1 μ1 g1 rh1 rp f1=>?_;obtain⟨hl1,nD⟩:=g1.out (Zh (H:=H)) np;have g01:Gr H B H1 μ1:=(Gr.lay0 hp).trans g1;split at f1
   . rename_i kvs ek;obtain⟨hz,f1⟩:=f1.iff;obtain⟨kvs',rfl,rk⟩:=rp.pairs ek;refine⟨hl1,kvs',rfl,by rw[<- rk.length];exact hz,?_⟩;have f2:Fin Y (RD Y) H B (.ok (.ref h1.length) (h1++[.dic (ZcK [] kvs)])) Q E:=f1;exact f2.at ((g01.put hp).add hp) ((rh1.tr (.swapD hl1) λ_ ha=>Zk λz=>nD (z ▸ ha)).add nD ⟨_,Zh,((rk.merge .nil).tr (.swapD hl1)).tr .more⟩ (show ZcW (ZcK [] kvs)from ZeW (rp.keysOk ek) (λp hp=>by cases hp))) (.ref (by rw[rh1.len];simp))
   . exact f1.elim
mutual
theorem Zf(e:Ex){Γ:Gm}{X:Cx}{E:XK}{k:Nat}{x:Expr}(G:Gd T Γ X Y E k)(h:chk Γ e x=Wp):PE X x (ZZ T Y E e):=match e,h with
 | .var i,h=>Zv6 h fun x q h=>(Zor (by rw [G.N];exact of_decide_eq_true (bL h)) (G.vis _ (bL (bR h))) (by simpa using bL (bR (bR h))) (by simpa using bR (bR (bR h)))).imp fun Z H Q s=>by
   cases s with
   | mk S h B rh rs f =>
     obtain ⟨d,e,f⟩:=Fin.ofO (show Fin Y (RD Y) H B (R.ofO (S[i]?).join h) Q E from f);obtain ⟨v,e1,rd⟩:=rs.var e;exact ⟨v,e1,f.ok rh rd⟩
 | .cst d,h=>Zpx G h
 | .glo y,h=>Zi5 h fun q h pins s Z H Q I sm=>by
   cases sm with
   | mk S h' B rh rs f =>
     obtain ⟨d,e,f⟩:=Fin.ofO (show Fin Y (RD Y) H B (R.ofO (T.G y) h') Q E from f);obtain ⟨v,u,hm,rv,rd⟩:=G.gk.g y d e;exact ZlU (G.gl h).1 hm rv (G.gl h).2 pins s Z H Q I (f.ok rh (rd H B))
 | .bin op a b,h=>Zw0 h fun l r q h=>(ZvR (ZtI G.gk.K op) (Zf a G (bL h)) (Zf b G (bR h))).imp fun _ _ _ s=>ZmT s
 | .cmp op a b,h=>Zmz h fun l r q h=>(ZlV (Zfu G.room G.h60 G.gk op) (Zf a G (bL h)) (Zf b G (bL (bR h))) (ZdU (bR (bR h)))).imp fun _ _ _ s=>ZmT s
 | .cmp2 o1 o2 a b c,h=>Zsy h fun l m r q h=>(ZoB (Zfu (E:=E) G.room G.h60 G.gk o1) (Zfu (E:=E) G.room G.h60 G.gk o2) (Zf a G (bL h)) (Zf b G (bL (bR h))) (Zf c G (bL (bR (bR h)))) (ZdU (bR (bR (bR h))))).imp fun Z H Q s =>
   ZwQ (k:=R.ok) (rel:=RD Y) (Q:=Q) (by simp only [ZuH];exact s) fun d h1 v H1 μ1 rh1 rd _ f1=>f1.ok rh1 rd
 | .neg a,h=>ZsJ h fun x q h=>(ZvP ZsI (Zf a G h)).imp fun Z H Q s=>Sm.bind s fun S d h1 x H1 μ1 rh1 rs1 rd f1=>by
   cases rd with
   | int i=>exact ⟨i,rfl,Fin.ok f1 rh1 (.int _)⟩
   | _=>exact f1.elim
 | .nt a,h=>ZsJ h fun x q h=>(Ztq (Zf a G h)).imp fun Z H Q s=>Sm.bind s fun S d h1 x H1 μ1 rh1 rs1 rd f1=>by
   cases rd with
   | bl i=>exact ⟨i,rfl,Fin.ok f1 rh1 (.bl _)⟩
   | _=>exact f1.elim
 | .ands es,h=>Zq8 h fun xs q h=>and_ok es G h
 | .ors es,h=>Zq8 h fun xs q h=>or_ok es G h
 | .ite c a b,h=>ZxY h fun t x y q h=>(Zox (tst_ok c G (bL h)) (Zf a G (bL (bR h))) (Zf b G (bR (bR h)))).imp fun Z H Q s=>Sm.bind s fun S d h1 v H1 μ1 rh1 rs1 rd f1=>by
   cases rd;cases d with
   | true=>exact ZjJ ⟨S,h1,μ1,rh1,rs1,f1⟩
   | false=>exact ZjK ⟨S,h1,μ1,rh1,rs1,f1⟩
 | .tupl es,h=>Zjd h fun xs j q h=>(Zto (evs_ok es G h)).imp fun Z H Q s=>Sm.bind s fun S d h1 x H1 μ1 rh1 rs1 rd f1=>⟨by rw [<- rd.length];exact f1.iff.1,fun p hp=>f1.iff.2.tup rh1 hp rd⟩
 | .lstl es,h=>Zsm h fun xs q h=>(Zow (evs_ok es G h)).imp fun Z H Q s=>Sm.bind s fun S d h1 x H1 μ1 rh1 rs1 rd f1=>⟨by rw [<- rd.length];exact f1.iff.1,fun p hp=>f1.iff.2.new rh1 hp ⟨_,Zh,rd.mono rh1 (Gr.lay hp)⟩⟩
 | .ix a i,h=>ZnZ h fun x y q h=>(Zsi (ZqZ G.gk) (Zf a G (bL h)) (Zf i G (bL (bR h))) (Zjh (bR (bR h)))).imp fun _ _ _ s=>ZmT s
 | .sl a lo hi,h=>Zvu h fun x l u q r h=>(Zos (ZqX (E:=E) G.gk.K) (Zf a G (bL h)) (evo_ok lo G (bL (bR h))) (evo_ok hi G (bR (bR h)))).imp fun Z H Q s=>Sm.bind s fun S d h1 x H1 μ1 rh1 rs1 rd f1 =>
   ⟨S,h1,μ1,rh1,rs1,Fin.bind f1 fun l h2 l' H2 μ2 _ g2 rh2 rl f2=>⟨S,h2,μ2,rh2,rs1.mono rh1 g2,Fin.bind f2 fun u h3 u' H3 μ3 _ g3 rh3 ru f3=>by
     cases rl;cases ru;exact ⟨d,h3,μ3,rh3,(rd.mono rh1 g2).mono rh2 g3,f3⟩⟩⟩
 | .blt f es,h=>Zb2 h fun p ys q h=>Zmp (bL (bR h)) (bR (bR h)) fun y r hs=>(ZuG G f (bL (bL h)) (G.gl (bR (bL h))).1 (evs_ok es G hs) (Zb1 X.env hs).1 ((Zb1 X.env hs).2 _)).imp fun Z H Q s=>Sm.bind s fun S d h1 x H1 μ1 rh1 rs1 rd f1=>⟨d,h1,μ1,rh1,rd,f1⟩
 | .call f es,h=>Zb2 h fun p ys q h=>Zmp (bL (bR (bR h))) (bR (bR (bR h))) fun y r hs=>by
   obtain ⟨ps,hd⟩:=G.defs _ (of_decide_eq_true (bL h));exact (Ztu hd G.room (G.gl (bL (bR h))).1 G.pass (evs_ok es G hs) (G.gl (bL (bR h))).2 (Zb1 X.env hs).1 ((Zb1 X.env hs).2 _)).imp fun Z H Q s=>Sm.bind s fun S d h1 x H1 μ1 rh1 rs1 rd f1=>⟨d,h1,μ1,rh1,rd,f1⟩
 | .meth m o es,h=>Zsx h fun xo ap ys cp h=>Zrb G (Zf o G (bL h)) (bL (bR h)) (bL (bR (bR h))) (of_decide_eq_true (bL (bR (bR (bR h))))) (bR (bR (bR (bR h)))) (evs_ok es G (bL (bR (bR h))))
 | .comp NC js it g c e,h=>Zsn h fun elt tg iter ifs scope q h=>by
   have S_:=Zj1 (bL (bR h));rw [<- G.N,<- G.sc (bL h)] at S_;have h:=bR (bR h);have Gc:=fun C s3 H3 fp=>G.comp NC scope C s3 H3 fp S_.nd;refine (ZqN (g:=tgR X.K g) (tc:=Sm Y E0 eqR (tsto T c)) (te:=ZZ T Y E0 e) S_ rfl G.calm (evi_ok it G (bL h)) (fun C s3 H3 fp=>⟨ZlS rfl S_.nd rfl (fun x hx=>ZlY (scope:=scope) X hx) (bL (bR (bR h))),ifs_ok c (Gc C s3 H3 fp) (bL (bR (bR (bR (bR h))))),Zf e (Gc C s3 H3 fp) (bR (bR (bR (bR (bR h)))))⟩) (Zve X.K g) (fun j hj=>of_decide_eq_true (OC.mp (bL (bR (bR (bR h)))) j (List.mem_range.mpr hj))) (Zkw X.env (bL (bR h)))).imp
     fun Z H Q s=>Sm.bind s fun S w h1 J H1 μ1 rh1 rs1 wj f1 D hD=>Zmq G.gk.K (fun _ _ _ z=>z) rh1 rs1 wj f1 hD
 | .sorts e,h=>ff h
 | .trev e,h=>ff h
 | .lrv e,h=>Zb2 h fun p ys q h=>Zae h fun z h=>Zb2 h fun p' ys q' h=>Zae h fun y h =>
   (Zm3 G.calm (G.gl (bL h)).1 (G.blt _ (by decide)) (G.gl (bL (bR h))).1 (G.blt _ (by decide)) (Zah (Zf e G (bL (bR (bR h)))) Zck (Zr X.env (bR (bR (bR h))))) (Zr X.env (bR (bR (bR h))))).imp fun Z H Q s=>Sm.bind s fun S d h1 x H1 μ1 rh1 rs1 rd f1=>by
     cases d with
     | tup xs =>
       obtain ⟨a,vs,rfl,t,s⟩:=rd.tup_inv;exact ⟨a,vs,rfl,G.gk.K ▸ t,fun p hp=>f1.new rh1 hp ⟨_,Zh,s.reverse.mono rh1 (Gr.lay hp)⟩⟩
     | _=>exact f1.elim
 | .tix o e,h=>ff h
 | .lix o e,h=>ff h
 | .tmt m o e,h=>ff h
 | .lmu a b,h=>ff h
 | .sin a b,h=>ff h
 | .dne a b,h=>ff h
 | .lin a b,h=>ff h
 | .nin n a b,h=>Zmz h fun l r q h=>(ZlV (Zju n G.room G.gk.K) (Zf a G (bL h)) (Zf b G (bL (bR h))) (ZdU (bR (bR h)))).imp fun _ _ _ s=>ZmT s
 | .nix a i,h=>ZnZ h fun x y q h=>(Zsi (Zue G.room G.gk.K) (Zf a G (bL h)) (Zf i G (bL (bR h))) (Zjh (bR (bR h)))).imp fun _ _ _ s=>ZmT s
 | .ndl,h=>ZwO h fun ks vs q h=>by
   cases List.isEmpty_iff.mp (bL h);cases List.isEmpty_iff.mp (bR h);refine Zoz.imp fun Z H Q ⟨S,h,B,rh,rs,f⟩ p hp=>?_;have f:Fin Y (RD Y) H B (Zba (.dnk []) h) Q E:=f;exact f.new rh hp ⟨[],[],Zh,.nil,.nil⟩
 | .rpn a b,h=>ff h
 | .any,h=>fun pins s Z H Q I sm=>by
   cases sm with
   | mk S h B rh rs f=>exact f.elim
 | .att Cs o f,h=>ZrY h fun x q h=>(Ztt (Zf o G (bL h)) (Zgk (bL (bR h)))).imp fun Z H Q s=>Sm.bind s fun S d h1 x H1 μ1 rh1 rs1 rd f1=>ZuN G (bL (bR (bR h))) (of_decide_eq_true (bR (bR (bR h)))) rh1 rd f1
 | .mk C es,h=>Zb2 h fun p ys q h=>Zv9 G (of_decide_eq_true (bL h)) (bL (bR h)) (bR (bR h)) (evs_ok es G (bR (bR h)))
 | .mcl C m o es,h=>Zsx h fun xo ap ys cp h=>ZtS G (of_decide_eq_true (bL (bR (bR (bR h))))) (bL (bR h)) (bL (bR (bR h))) (of_decide_eq_true (bL (bR (bR (bR (bR h)))))) (bR (bR (bR (bR (bR h))))) (Zf o G (bL h)) (evs_ok es G (bL (bR (bR h))))
 | .maxd a d,h=>ZwP h fun p ys z r q h=>Zae h fun y h=>(ZqK (G.gl (bL h)).1 (G.blt _ (by decide)) G.calm (Zf a G (bL (bR h))) (Zf d G (bR (bR (bR h)))) (Zr X.env (bL (bR (bR h))))).imp fun Z H Q s=>Sm.bind s fun S x h1 v H1 μ1 rh1 rs1 rx f1 =>
   ⟨S,h1,μ1,rh1,rs1,Fin.bind f1 fun y h2 u H2 μ2 _ g2 rh2 ry f2=>by
     cases ry with
     | int d =>
       obtain ⟨r,er,f2⟩:=Fin.ofO (show Fin Y (RD Y) H2 μ2 (R.ofO (((lstOf x h2).bind intsOf).map fun ns=>.int (Zdg ns d)) h2) Q E from f2);obtain ⟨ns,e2,rfl⟩:=Oo.mp er;obtain ⟨zs,e3,e4⟩:=Option.bind_eq_some_iff.mp e2;obtain ⟨a,vs,rfl,hl,rv⟩:=(rx.mono rh1 g2).lstOf rh2 e3;rw [ZgN rv e4] at hl;exact ⟨a,ns,d,rfl,rfl,G.gk.K ▸ hl,f2.ok rh2 (.int _)⟩
     | _=>exact f2.elim⟩
 | .dictl ps,h=>ZwO h fun ks vs q h=>ZrB ps G (of_decide_eq_true (bL h)) (bR h) (pairs_ok ps G (bR h)).1 (pairs_ok (pos:=q) ps G (bR h)).2.1 (pairs_ok (pos:=q) ps G (bR h)).2.2
theorem evs_ok(e:Exs){Γ:Gm}{X:Cx}{E:XK}{k:Nat}{x:List Expr}(G:Gd T Γ X Y E k)(h:chks Γ e x=Wp):PA X x (Zik T Y E e):=match e,x,h with
 |.nil,[],h=>Zck.imp λZ H Q s=>by
  cases s with
  |mk S h B rh rs f=>exact Fin.ok (show Fin Y (RDs Y) H B (.ok [] h) Q E from f) rh .nil
 |.nil,_::_,h=>ff h
 |.cons e r,[],h=>ff h
 |.cons e r,y::ys,h=>(Zah (Zf e G (bL h)) (evs_ok r G (bR (bR h))) (Zr X.env (bL (bR h)))).imp λZ H Q s=>Sm.bind s λS d h1 x H1 μ1 rh1 rs1 rd f1=>⟨S,h1,μ1,rh1,rs1,f1.bind λds h2 xs H2 μ2 _ g2 rh2 rds f2=>f2.ok rh2 (.cons (rd.mono rh1 g2) rds)⟩
theorem and_ok(e:Exs){Γ:Gm}{X:Cx}{E:XK}{k:Nat}{x:List Expr}{pos:Pos}(G:Gd T Γ X Y E k)(h:chks Γ e x=Wp):PE X (.BoolOp .And x pos) (ZZ T Y E (.ands e)):=match e,x,h with
 |.nil,x,h=>λpins s Z H Q I sm=>by
  cases sm with
  |mk S h B rh rs f=>exact f.elim
 |.cons e r,[],h=>ff h
 |.cons e .nil,[y],h=>(Zot (Zf e G (bL h))).imp λZ H Q q=>q
 |.cons e .nil,y::z::zs,h=>ff (bR (bR h))
 |.cons e (.cons e' r'),[y],h=>ff (bR (bR h))
 |.cons e (.cons e' r'),y::z::zs,h=>(Ztx (Zf e G (bL h)) (and_ok (.cons e' r') G (bR (bR h)))).imp λZ H Q s=>Sm.bind s λS d h1 x H1 μ1 rh1 rs1 rd f1=>by
  cases rd with
  |bl c=>
   refine⟨c,rfl,?_⟩;cases c with
   |true=>exact ZjJ ⟨S,h1,μ1,rh1,rs1,f1⟩
   |false=>exact ZjK (Fin.ok f1 rh1 (.bl _))
  |_=>exact f1.elim
theorem or_ok(e:Exs){Γ:Gm}{X:Cx}{E:XK}{k:Nat}{x:List Expr}{pos:Pos}(G:Gd T Γ X Y E k)(h:chks Γ e x=Wp):PE X (.BoolOp .Or x pos) (ZZ T Y E (.ors e)):=match e,x,h with
 |.nil,x,h=>λpins s Z H Q I sm=>by
  cases sm with
  |mk S h B rh rs f=>exact f.elim
 |.cons e r,[],h=>ff h
 |.cons e .nil,[y],h=>(Zot (Zf e G (bL h))).imp λZ H Q q=>q
 |.cons e .nil,y::z::zs,h=>ff (bR (bR h))
 |.cons e (.cons e' r'),[y],h=>ff (bR (bR h))
 |.cons e (.cons e' r'),y::z::zs,h=>(ZvQ (Zf e G (bL h)) (or_ok (.cons e' r') G (bR (bR h)))).imp λZ H Q s=>Sm.bind s λS d h1 x H1 μ1 rh1 rs1 rd f1=>by
  cases rd with
  |bl c=>
   refine⟨c,rfl,?_⟩;cases c with
   |true=>exact ZjJ (Fin.ok f1 rh1 (.bl _))
   |false=>exact ZjK ⟨S,h1,μ1,rh1,rs1,f1⟩
  |_=>exact f1.elim
theorem evo_ok(e:Option Ex){Γ:Gm}{X:Cx}{E:XK}{k:Nat}{x:Option Expr}(G:Gd T Γ X Y E k)(h:chko Γ e x=Wp):PO X x (ZxD T Y E e):=match e,x,h with
 |none,Wo,h=>ZqD.imp λZ H Q s=>by
  cases s with
  |mk S h B rh rs f=>exact Fin.ok (show Fin Y _ H B (.ok Wo h) Q E from f) rh rfl
 |none,Wn _,h=>ff h
 |some e,Wo,h=>ff h
 |some e,Wn a,h=>(ZqC (Zf e G h)).imp λZ H Q s=>Sm.bind s λS d h1 x H1 μ1 rh1 rs1 rd f1=>by
  cases rd with
  |int i=>exact⟨i,rfl,Fin.ok f1 rh1 rfl⟩
  |_=>exact f1.elim
theorem tst_ok(e:Tx){Γ:Gm}{X:Cx}{E:XK}{k:Nat}{x:Expr}(G:Gd T Γ X Y E k)(h:chkt Γ e x=Wp):PT X x (Zjj T Y E e):=match e,h with
 |.ex e,h=>bO h (λh=>Zm0 G (Zf e G (bR h)) (bL h)) λh=>by
  cases e with
  |cmp op a b=>exact Zmz h λl r q h=>ZrE G (Zf a G (bL h)) (Zf b G (bL (bR h))) (bR (bR h))
  |cmp2 o1 o2 a b c=>exact Zsy h λl m r q h=>Zpz G (Zf a G (bL h)) (Zf b G (bL (bR h))) (Zf c G (bL (bR (bR h)))) (bR (bR (bR h)))
  |nin n a b=>exact Zmz h λl r q h=>Zq9 G (Zf a G (bL h)) (Zf b G (bL (bR h))) (bR (bR h))
  |_=>exact ff h
 |.ands ts,h=>Zq8 h λxs q h=>(tand_ok ts G h).pt
 |.ors ts,h=>Zq8 h λxs q h=>(tor_ok ts G h).pt
 |.nt t,h=>ZsJ h λy q h=>(Zth (tst_ok t G h)).imp λZ H Q s=>Sm.bind s λS d h1 x H1 μ1 rh1 rs1 rd f1=>by cases rd;exact Fin.ok f1 rh1 rfl
theorem tand_ok(e:Txs){Γ:Gm}{X:Cx}{E:XK}{k:Nat}{x:List Expr}{pos:Pos}(G:Gd T Γ X Y E k)(h:chkts Γ e x=Wp):PW X (.BoolOp .And x pos) (Zjj T Y E (.ands e)):=match e,x,h with
 |.one t,x,h=>Zae h λy h=>(Zqw (tst_ok t G h)).imp λZ H Q q=>q
 |.cons t ts,[],h=>ff h
 |.cons t ts,[_],h=>ff (bL (bR h))
 |.cons t ts,x::y::r,h=>(Ztf (tst_ok t G (bL h)) (tand_ok ts G (bR (bR h)))).imp λZ H Q s=>Sm.bind s λS d h1 x H1 μ1 rh1 rs1 rd f1=>by
  cases rd;cases d with
  |true=>exact ZjJ ⟨S,h1,μ1,rh1,rs1,f1⟩
  |false=>exact ZjK (Fin.ok f1 rh1 rfl)
theorem tor_ok(e:Txs){Γ:Gm}{X:Cx}{E:XK}{k:Nat}{x:List Expr}{pos:Pos}(G:Gd T Γ X Y E k)(h:chkts Γ e x=Wp):PW X (.BoolOp .Or x pos) (Zjj T Y E (.ors e)):=match e,x,h with
 |.one t,x,h=>Zae h λy h=>(Zte (tst_ok t G h)).imp λZ H Q q=>q
 |.cons t ts,[],h=>ff h
 |.cons t ts,[_],h=>ff (bL (bR h))
 |.cons t ts,x::y::r,h=>(ZvL (tst_ok t G (bL h)) (tor_ok ts G (bR (bR h)))).imp λZ H Q s=>Sm.bind s λS d h1 x H1 μ1 rh1 rs1 rd f1=>by
  cases rd;cases d with
  |true=>exact ZjJ (Fin.ok f1 rh1 rfl)
  |false=>exact ZjK ⟨S,h1,μ1,rh1,rs1,f1⟩
theorem ifs_ok(c:Option Tx){Γ:Gm}{X:Cx}{E:XK}{k:Nat}{x:List Expr}(G:Gd T Γ X Y E k)(h:chkf Γ c x=Wp):PIf X x (Sm Y E eqR (tsto T c)):=match c,x,h with
 |none,[],h=>λpins s Z H Q I sm=>by
  cases sm with
  |mk S h B rh rs f=>exact ZqF pins s Z H Q I (Fin.ok (show Fin Y eqR H B (.ok Wp h) Q E from f) rh rfl)
 |none,_::_,h=>ff h
 |some t,x,h=>Zae h λy h=>ZqE (tst_ok t G h)
theorem evi_ok(e:Ix){Γ:Gm}{X:Cx}{E:XK}{k:Nat}{x tg:Expr}(G:Gd T Γ X Y E k)(h:chki Γ e tg x=Wp):PI X tg x (ZxE T Y E e):=match e,h with
 |.pl e,h=>(Ztn (Zf e G h)).imp λZ H Q s=>Sm.bind s λS d h1 x H1 μ1 rh1 rs1 rd f1=>by obtain⟨w,ew,f1⟩:=f1.ofO;exact Zp4 G.gk.K rh1 rd ew λJ wj=>f1.ok rh1 wj
 |.tw e,h=>ff h
 |.rng e,h=>Zb2 h λp ys q h=>Zae h λy h=>(Zm2 (G.gl (bL h)).1 (G.blt _ (by decide)) (Zah (Zf e G (bL (bR h))) Zck (Zr X.env (bR (bR h)))) (Zr X.env (bR (bR h)))).imp λZ H Q s=>Sm.bind s λS d h1 x H1 μ1 rh1 rs1 rd f1=>by
  cases rd with
  |int j=>obtain⟨hz,f1⟩:=Fin.iff (show Fin Y (WJ Y) H1 μ1 (if Zas j=Wp then .ok ⟨[],ZY 0 j.toNat⟩ h1 else .bad) Q E from f1);exact⟨j,rfl,of_decide_eq_true (bL hz),of_decide_eq_true (bR hz),f1.ok rh1 ZsE⟩
  |_=>exact f1.elim
 |.rng2 a b,h=>ff h
 |.enu e,h=>Zb2 h λp ys q h=>Zae h λy h=>Zo7 (bR (bR (bR h))) λts j r=>(ZqI (G.gl (bL h)).1 (G.blt _ (by decide)) (Zah (Zf e G (bL (bR h))) Zck (Zr X.env (bL (bR (bR h))))) (Zr X.env (bL (bR (bR h))))).imp λZ H Q s=>Sm.bind s λS d h1 x H1 μ1 rh1 rs1 rd f1=>by
  obtain⟨w,ew,f1⟩:=f1.ofO;obtain⟨w0,ew0,rfl⟩:=Oo.mp ew;cases d with
  |ro xs=>
   cases ew0;cases rd with
   |ro t s=>exact⟨_,rfl,⟨_,G.gk.K ▸ t.sq⟩,f1.ok rh1 (Zlx (Zr3 G.gk.K rh1 t s) λH2 μ2 h2 g2 rh2 st=>⟨_,G.gk.K ▸ (g2.rdF rh1 t).sq,s.mono rh1 g2⟩)⟩
  |ref i=>obtain⟨xs,hi,rfl⟩:=ZnJ ew0;obtain⟨a,vs,rfl,hm,hl,s⟩:=rd.lst rh1 hi;refine⟨a,rfl,⟨vs,.of hl⟩,f1.ok rh1 (Zlx (ZnK hm) λH2 μ2 h2 g2 rh2 st=>?_)⟩;obtain⟨vs2,hl2,s2⟩:=rh2.ob i _ a (Zdb st) (g2.pre i a hm);exact⟨vs2,.of hl2,s2⟩
  |_=>cases ew0
 |.rev e,h=>Zb2 h λp ys q h=>Zae h λy h=>(ZqH (G.gl (bL h)).1 (G.blt _ (by decide)) (Zah (Zf e G (bL (bR h))) Zck (Zr X.env (bR (bR h)))) (Zr X.env (bR (bR h)))).imp λZ H Q s=>Sm.bind s λS d h1 x H1 μ1 rh1 rs1 rd f1=>by
  obtain⟨w,ew,f1⟩:=f1.ofO;obtain⟨w0,ew0,rfl⟩:=Oo.mp ew;cases d with
  |tup xs=>cases ew0;obtain⟨a,vs,rfl,t,s⟩:=rd.tup_inv;exact⟨a,vs,rfl,.inl ⟨G.gk.K ▸ t,f1.ok rh1 (ZsF G.gk.K rh1 t s)⟩⟩
  |ref i=>obtain⟨xs,hi,rfl⟩:=ZnJ (show ZhF (.ref i) h1=Wn w0 from ew0);obtain⟨a,vs,rfl,hm,hl,s⟩:=rd.lst rh1 hi;exact⟨a,vs,rfl,.inr ⟨.of hl,by rw[<- s.length];exact f1.ok rh1 (Zp1 hm)⟩⟩
  |_=>cases ew0
 |.en1 e,h=>ff h
 |.zl a b,h=>Zb2 h λp ys q h=>ZjH h λy z h=>Zo7 (bR (bR (bR (bR (bR h))))) λts j r=>by
  have h5:=bL (bR (bR (bR h)));have h6:=bL (bR (bR (bR (bR h))));refine(ZqG (G.gl (bL h)).1 (G.blt _ (by decide)) (Zah (Zf a G (bL (bR h))) (Zah (Zf b G (bL (bR (bR h)))) Zck (Zr X.env h6)) (Zr X.env h5)) (by rw[Zr X.env h5,Zr X.env h6];rfl) (Zr X.env h6)).imp λZ H Q s=>Sm.bind s λS d h1 x H1 μ1 rh1 rs1 rd f1=>⟨S,h1,μ1,rh1,rs1,f1.bind λe h2 y H2 μ2 er2 g2 rh2 re f2=>?_⟩
  obtain⟨i,j,xs,ys,rfl,rfl,e1,e2,hl,f2⟩:∃i j xs ys,d=.ref i/\e=.ref j/\h2[i]? = Wn (.lst xs)/\h2[j]? = Wn (.lst ys)/\xs.length<=ys.length/\Fin Y (WJ Y) H2 μ2 (.ok ⟨[(i,xs),(j,ys)],Zic xs ys⟩ h2) Q E:=by
   unfold zlD at f2;split at f2
   . split at f2
     . split at f2
       . split at f2
         . obtain⟨hl,f2⟩:=Fin.iff f2;exact⟨_,_,_,_,rfl,rfl,‹_›,‹_›,hl,f2⟩
         . exact f2.elim
       . exact f2.elim
     . exact f2.elim
   . exact f2.elim
  obtain⟨p,vs,rfl,hm,t,_⟩:=(rd.mono rh1 g2).lst rh2 e1;obtain⟨q,vs',rfl,hm',t',_⟩:=re.lst rh2 e2;exact⟨_,_,rfl,⟨_,.inl (.inl t)⟩,⟨_,.inl (.inl t')⟩,f2.ok rh2 (Zp0 hm hm' hl)⟩
 |.zp a b,h=>ff h
 |.en0 e,h=>ff h
 |.dk e,h=>ff h
theorem pairs_ok(ps:Exs){Γ:Gm}{X:Cx}{E:XK}{k:Nat}{ks:List (Option Expr)}{vs:List Expr}{pos:Pos}(G:Gd T Γ X Y E k)(h:chkp Γ ps ks vs=Wp):PPs X pos ks vs (Zlz T Y E ps)/\ks.all (·.isSome)=Wp/\ks.length=vs.length:=match ps,ks,vs,h with
 |.nil,[],[],h=>⟨ZqB,rfl,rfl⟩
 |.nil,[],_::_,h=>ff h
 |.nil,_::_,_,h=>ff h
 |.cons e .nil,ks,vs,h=>ff h
 |.cons e (.cons v r'),[],vs,h=>ff h
 |.cons e (.cons v r'),Wo::_,vs,h=>ff h
 |.cons e (.cons v r'),Wn _::_,[],h=>ff h
 |.cons e (.cons v r'),Wn kx::ks,vx::vs,h=>
  let z:=pairs_ok r' (pos:=pos) G (bR (bR h))
  ⟨Zon (Zf e G (bL h)) (Zf v G (bL (bR h))) z.1,z.2.1,congrArg (·+1) z.2.2⟩
end
def ZcJ(e:Expr):Bool:=Wt (tgE e≠13)&&Wt (tgE e≠19)
def ZkL(e:Expr):Bool:=Wt (tgE e≠8)
structure PsS where
 a:Expr:=default
 b:Expr:=default
 o:Option Expr:=Wo
 c:Option Expr:=Wo
 ts:List Expr:=[]
 xs:List Stmt:=[]
 ys:List Stmt:=[]
 zs:List Stmt:=[]
 hs:List ExceptHandler:=[]
 op:Operator:=.Add
 p:Pos:=default
 s:Stmt:=default
noncomputable def tgS:Stmt->Nat
 |.Return _ _=>1|.Assign _ _ _=>2|.AugAssign _ _ _ _=>3|.Expr _ _=>4|.If _ _ _ _=>5|.While _ _ _ _=>6|.For _ _ _ _ _=>7|.Pass _=>8|.Break _=>9|.Continue _=>10|.Raise _ _ _=>11|.Try _ _ _ _ _=>12|_=>0
noncomputable def prS(s:Stmt):PsS:=match s with
 |.Return o p=>{o:=o,p:=p}
 |.Assign ts a p=>{ts:=ts,a:=a,p:=p}
 |.AugAssign a op b p=>{a:=a,op:=op,b:=b,p:=p}
 |.Expr a p=>{a:=a,p:=p}
 |.If a xs ys p=>{a:=a,xs:=xs,ys:=ys,p:=p}
 |.While a xs ys p=>{a:=a,xs:=xs,ys:=ys,p:=p}
 |.For a b xs ys p=>{a:=a,b:=b,xs:=xs,ys:=ys,p:=p}
 |.Pass p=>{p:=p}
 |.Break p=>{p:=p}
 |.Continue p=>{p:=p}
 |.Raise o c p=>{o:=o,c:=c,p:=p}
 |.Try xs hs ys zs p=>{xs:=xs,hs:=hs,ys:=ys,zs:=zs,p:=p}
 |_=>{s:=s}
noncomputable def mkS(n:Nat)(p:PsS):Stmt:=match n with
 |1=>.Return p.o p.p|2=>.Assign p.ts p.a p.p|3=>.AugAssign p.a p.op p.b p.p|4=>.Expr p.a p.p|5=>.If p.a p.xs p.ys p.p|6=>.While p.a p.xs p.ys p.p|7=>.For p.a p.b p.xs p.ys p.p
 |8=>.Pass p.p|9=>.Break p.p|10=>.Continue p.p|11=>.Raise p.o p.c p.p|12=>.Try p.xs p.hs p.ys p.zs p.p|_=>p.s
def rbS(s:Stmt):mkS (tgS s) (prS s)=s:=by cases s<;>rfl
@[irreducible] def anS(n:Nat)(s:Stmt)(f:PsS->Bool):Bool:=Wt (tgS s=n)&&f (prS s)
section
variable {P:Stmt->Prop}{s:Stmt}
def Z1(h:anS n s f=Wp)(k:∀p,f p=Wp->P (mkS n p)):P s:=by unfold anS at h;exact rbS s ▸ dS (P:=λm=>P (mkS m (prS s))) (bL h) (k _ (bR h))
noncomputable def oSm{α:Type}(o:Option α)(f:α->Bool):Bool:=match o with
 |some x=>f x
 |none=>Wq
def Zer{α:Type}{P:Option α->Prop}{o:Option α}{f:α->Bool}(h:oSm o f=Wp)(k:∀x,f x=Wp->P (Wn x)):P o:=by
 cases o with
 |none=>exact ff h
 |some x=>exact k x h
noncomputable def oNo{α:Type}(o:Option α)(b:Bool):Bool:=o.isNone&&b
def ZkK{α:Type}{P:Option α->Prop}{o:Option α}(h:oNo o b=Wp)(k:b=Wp->P Wo):P o:=by
 cases o with
 |none=>exact k h
 |some x=>exact ff h
@[irreducible] def aAs(s:Stmt)(f:Expr->Expr->Bool):Bool:=anS 2 s λp=>l1 p.ts λg=>f g p.a
def Zkn(h:aAs s f=Wp)(k:∀g x q,f g x=Wp->P (.Assign [g] x q)):P s:=by unfold aAs at h;exact Z1 h λp h=>Zae (P:=λts=>P (.Assign ts p.a p.p)) h λ_ h=>k _ _ _ h
end
def Zyc(Γ:Gm)(C:Str)(e:Expr):Bool:=aX C e (Wt (C∈Γ.kl.xs)&&glb Γ C)
@[irreducible] def Zmt(Γ:Gm)(C:Str)(x:Expr)(f:Expr->Bool):Bool:=aCN C x λys=>l1 ys λy=>Wt (C∈Γ.kl.xs)&&(glb Γ C&&(ZaX y&&f y))
def aTb(N:List Str)(own:Str->Bool)(i:Nat)(b:List Stmt)(f:Expr->Bool):Bool:=l1 b λs=>aAs s λg x=>ZkM N own i g&&f x
def Zvg{P:List Stmt->Prop}(h:aTb N own i b f=Wp)(k:∀n p x q,N[i]? = Wn n->own n=Wp->f x=Wp->P [.Assign [.Name n p] x q]):P b:=Zae h λ_ h=>Zkn (P:=λs=>P [s]) h λ_ x q h=>Zbu (P:=λg=>P [.Assign [g] x q]) (bL h) λ_ _ e1 e2=>k _ _ _ _ e1 e2 (bR h)
def Zsv(Γ:Gm)(C:Str)(b:Bool)(hs:List ExceptHandler):Bool:=l1 hs λh=>match h with
 |.ExceptHandler t n ss _=>oNo n (oSm t λt=>Zyc Γ C t&&l1 ss λs=>anS 1 s λp=>oSm p.o λx=>aK x λc=>Wt (c=.bool b))
def Zvd{P:List ExceptHandler->Prop}(h:Zsv Γ C b hs=Wp)(k:∀np j r q z,C∈Γ.kl.xs->glb Γ C=Wp->P [.ExceptHandler (Wn (.Name C np)) Wo [.Return (Wn (.Constant (.bool b) j r)) q] z]):P hs:=
 Zae h λy h=>match y,h with
  |.ExceptHandler t n ss z,h=>ZkK (P:=λn=>P [.ExceptHandler t n ss z]) h λh=>Zer (P:=λt=>P [.ExceptHandler t Wo ss z]) h λt h=>Zi5 (P:=λt=>P [.ExceptHandler (Wn t) Wo ss z]) (bL h) λnp hx=>Zae (P:=λss=>P [.ExceptHandler (Wn _) Wo ss z]) (bR h) λs h=>Z1 (P:=λs=>P [.ExceptHandler (Wn _) Wo [s] z]) h λp h=>Zer (P:=λo=>P [.ExceptHandler (Wn _) Wo [.Return o p.p] z]) h λx h=>Zua (P:=λx=>P [.ExceptHandler (Wn _) Wo [.Return (Wn x) p.p] z]) h λc j r h=>dS (P:=λc=>P [.ExceptHandler (Wn _) Wo [.Return (Wn (.Constant c j r)) p.p] z]) h (k np j r p.p z (of_decide_eq_true (bL hx)) (bR hx))
@[irreducible] def ZpB(x:Expr)(f:Expr->Bool):Bool:=match x with
 |.JoinedStr xs _=>l2 xs λa b=>(aK a λc=>match c with
  |.str c=>Wt (c.length<=1000000)
  |_=>Wq)&&match b with
  |.FormattedValue y k Wo _=>Wt (k=114)&&f y
  |_=>Wq
 |_=>Wq
def ZwB{P:Expr->Prop}(h:ZpB x f=Wp)(k:∀c j p1 y p2 pos,c.length<=1000000->f y=Wp->P (.JoinedStr [.Constant (.str c) j p1,.FormattedValue y 114 Wo p2] pos)):P x:=by
 unfold ZpB at h;split at h
 . rename_i xs pos;refine ZjH (P:=λxs=>P (.JoinedStr xs pos)) h λa b h=>Zua (P:=λa=>P (.JoinedStr [a,b] pos)) (bL h) λc j p1 h1=>?_;have h2:=bR h;split at h1
   . split at h2
     . have h3:=of_decide_eq_true (bL h2);subst h3;exact k _ _ _ _ _ _ (of_decide_eq_true h1) (bR h2)
     . cases h2
   . cases h1
 . cases h
def ZpA(m:Str):List Str->List Expr->Bool
 |[],ys=>ys.isEmpty
 |W::Ws,ys=>match ys with
  |y::r=>(aCN (O "isinstance") y λzs=>l2 zs λu v=>aX m u (aX W v Wp))&&ZpA m Ws r
  |[]=>Wq
theorem Zmf:∀{Ws ys},ZpA m Ws ys=Wp->ZaY m Ws ys
 |[],[],_=>rfl
 |[],_::_,h=>ff h
 |W::Ws,[],h=>ff h
 |W::Ws,y::r,h=>Zb2 (P:=λy=>ZaY m (W::Ws) (y::r)) (bL h) λip zs cp h1=>ZjH (P:=λzs=>ZaY m (W::Ws) (.Call _ zs [] cp::r)) h1 λu v h1=>Zi5 (P:=λu=>ZaY m (W::Ws) (.Call _ [u,v] [] cp::r)) h1 λmp h1=>Zi5 (P:=λv=>ZaY m (W::Ws) (.Call _ [_,v] [] cp::r)) h1 λwp _=>⟨ip,mp,wp,cp,r,rfl,Zmf (bR h)⟩
def Zqb(Γ:Gm)(n:Nat)(C:Str)(Ws:List Str)(bs:List (Str×List Bool))(m:Str):Bool:=
 (bs.all λp=>Wt ((C,p.1)∈Γ.kl.xa)&&(Wt (p.2.length=Ws.length)&&(Ws.zip p.2).all λq=>Wt ((p.1,q.1,q.2)∈Γ.kl.xi)))&&((Ws.all λW=>glb Γ W&&Γ.kl.xi.any λq=>Wt (q.2.1=W))&&(Wt (Ws.length<=100)&&((Γ.kl.xa.any λp=>Wt (p.1=C)) &&
  (glb Γ C&&(glb Γ (O "isinstance")&&(Wt (Γ.N[n]? = Wn m)&&(Wt (Γ.sc.names.lookup m=Wn .local)&&(Wt ((m==("__debug__" : Str))=Wq)&&Wt ((m==("__classdict__" : Str))=Wq)))))))))
def Zsw(Γ:Gm)(i n:Nat)(C:Str)(Ws:List Str)(bs:List (Str×List Bool))(hs:List ExceptHandler):Bool:=l1 hs λh=>match h with
 |.ExceptHandler t m b _=>oSm m λm=>oSm t λt=>aX C t (Zqb Γ n C Ws bs m&&aTb Γ.N (ownD Γ.sc) i b λx=>aLs x λys=>ZpA m Ws ys)
def Zvf{P:List ExceptHandler->Prop}(h:Zsw Γ i n C Ws bs hs=Wp)(k:∀np m y p q z ys lp,Zqb Γ n C Ws bs m=Wp->Γ.N[i]? = Wn y->ownD Γ.sc y=Wp->ZaY m Ws ys->P [.ExceptHandler (Wn (.Name C np)) (Wn m) [.Assign [.Name y p] (.List ys lp) q] z]):P hs:=
 Zae h λy h=>match y,h with
  |.ExceptHandler t m b z,h=>Zer (P:=λm=>P [.ExceptHandler t m b z]) h λm h=>Zer (P:=λt=>P [.ExceptHandler t (Wn m) b z]) h λt h=>Zi5 (P:=λt=>P [.ExceptHandler (Wn t) (Wn m) b z]) h λnp h=>Zvg (P:=λb=>P [.ExceptHandler (Wn _) (Wn m) b z]) (bR h) λy p x q e1 e2 h5=>Zsm (P:=λx=>P [.ExceptHandler (Wn _) (Wn m) [.Assign [.Name y p] x q] z]) h5 λys lp h5=>k np m y p q z ys lp (bL h) e1 e2 (Zmf h5)
noncomputable def Zwt:Ex->Bool
 |.comp _ _ _ _ _ _|.any=>Wp
 |_=>Wq
mutual
def ZwR(Γ:Gm):Sx->Stmt->Bool
 |.ret e,s=>anS 1 s λp=>oSm p.o λx=>chk Γ e x
 |.set g e,s=>aAs s λtg x=>ZrG Γ.N (ownD Γ.sc) g tg&&(chk Γ e x&&((ZcJ x&&(!isTup tg || ZkL x)) || (Wt (tgE tg=6)&&Zwt e)))
 |.put o i e,s=>aAs s λtg x=>aS tg λxo xi=>chk Γ o xo&&(chk Γ i xi&&(chk Γ e x&&(Zde xi&&ZcJ x)))
 |.npt o i e,s=>aAs s λtg x=>aS tg λxo xi=>chk Γ o xo&&(chk Γ i xi&&(chk Γ e x&&(Zde xi&&ZcJ x)))
 |.trr f es C b,s=>anS 12 s λp=>l0 p.ys (l0 p.zs (Zsv Γ C b p.hs&&l1 p.xs λs=>anS 4 s λp=>aCN f p.a λys=>Wt (f∈Γ.fs)&&(glb Γ f&&(chks Γ es ys&&!ys.isEmpty))))
 |.aug i op e,s=>anS 3 s λp=>ZkM Γ.N (ownD Γ.sc) i p.a&&(Wt (p.op=.Add)&&(Wt (op=.Add)&&chk Γ e p.b))
 |.drp e,s=>anS 4 s λp=>chk Γ e p.a&&ZcJ p.a
 |.iff c a b,s=>anS 5 s λp=>chkt Γ c p.a&&(chkSs Γ a p.xs&&chkSs Γ b p.ys)
 |.whl c b,s=>anS 6 s λp=>l0 p.ys (chkt Γ c p.a&&chkSs Γ b p.xs)
 |.forr g it b,s=>anS 7 s λp=>l0 p.ys (chki Γ it p.a p.b&&(ZaO p.b&&(ZrG Γ.N (ownD Γ.sc) g p.a&&chkSs Γ b p.xs)))
 |.pas,s=>anS 8 s λ_=>Wp
 |.brk,s=>anS 9 s λ_=>Wp
 |.cnt,s=>anS 10 s λ_=>Wp
 |.seta Cs o f e,s=>aAs s λtg x=>aA f tg λxo _=>chk Γ o xo&&(chk Γ e x&&(ZcJ x&&((Cs.all λC=>Wt (C∈Γ.kl.cs))&&Wt (f∈Γ.kl.ats))))
 |.auga Cs o f e,s=>anS 3 s λp=>Wt (p.op=.Add)&&aA f p.a λxo _=>chk Γ o xo&&(chk Γ e p.b&&((Cs.all λC=>Wt (C∈Γ.kl.cs))&&Wt (f∈Γ.kl.ats)))
 |.any,_=>Wp
 |.rai C e,s=>anS 11 s λp=>oNo p.c (oSm p.o λx=>Zmt Γ C x λy=>chk Γ e y)
 |.trs _ _ _ _,_=>Wq
 |.trw _ _ _ _ _ _ _,_=>Wq
 |.raf C e,s=>anS 11 s λp=>oNo p.c (oSm p.o λx=>Zmt Γ C x λy=>ZpB y λz=>chk Γ e z)
 |.tre i n f es C Ws bs,s=>anS 12 s λp=>l0 p.ys (l0 p.zs (Zsw Γ i n C Ws bs p.hs&&l1 p.xs λs=>anS 4 s λp=>aCN f p.a λys=>Wt (f∈Γ.fs)&&(glb Γ f&&(chks Γ es ys&&!ys.isEmpty))))
 |.unl _ _ _,_=>Wq
def chkSs(Γ:Gm):Sxs->List Stmt->Bool
 |.nil,ss=>ss.isEmpty
 |.cons s r,ss=>match ss with
  |x::xs=>ZwR Γ s x&&chkSs Γ r xs
  |[]=>Wq
end
def ZF(Y:Yx)(H:Hp)(B:List Yi)(r:R (Fl×Ev))(D:Ends)(E:XK):Prop:=match r with
 |.bad=>False
 |.ok p h'=>∀H' μ',Gr H B H' μ'->RH Y H' μ' h'->match p.1 with
  |.nx=>∀σ',RS Y H' μ' p.2 σ'->D.nx σ' H'
  |.bk=>∀σ',RS Y H' μ' p.2 σ'->D.bk σ' H'
  |.ct=>∀σ',RS Y H' μ' p.2 σ'->D.ct σ' H'
  |.rt d=>∀v,RD Y H' μ' d v->D.rt v H'
 |.exc c h'=>∀H' μ' C,Gr H B H' μ'->RH Y H' μ' h'->Y.mg c=Wn (.ref C)->E (.ref C) Wo H'
section
variable {Y:Yx}{α β:Type}{rel:Hp->List Yi->α->β->Prop}{H H1:Hp}{B μ1:List Yi}{E:XK}{D:Ends}
def ZF.mono(g:Gr H B H1 μ1)(f:ZF Y H B r D E):ZF Y H1 μ1 r D E:=by
 cases r with
 |bad=>exact f
 |ok a h=>exact λH' μ' g'=>f H' μ' (g.trans g')
 |exc c h=>exact λH' μ' C g'=>f H' μ' C (g.trans g')
theorem ZF.bind(f:ZF Y H B (r.bind k) D E)
 (hk:∀a h1 b H1 μ1,r=.ok a h1->Gr H B H1 μ1->RH Y H1 μ1 h1->rel H1 μ1 a b->ZF Y H1 μ1 (k a h1) D E->Q1 b H1):Fin Y rel H B r Q1 E:=by
 cases r with
 |bad=>exact f
 |ok a h=>exact λb H' μ' g' rh rl=>hk a h b H' μ' rfl g' rh rl (ZF.mono g' f)
 |exc c h=>exact f
theorem ZF.ofO(f:ZF Y H B ((R.ofO o h).bind k) D E):∃a,o=Wn a/\ZF Y H B (k a h) D E:=by
 cases o with
 |none=>exact f.elim
 |some a=>exact⟨a,rfl,f⟩
theorem ZF.nx(f:ZF Y H B (.ok (.nx,S) h) D E)(rh:RH Y H B h)(rs:RS Y H B S Z):D.nx Z H:=f H B Gr.refl rh Z rs
def ZF.part(f:ZF Y H B (r.bind k) D E)
 (hk:∀p h1 H1 μ1,r=.ok p h1->Gr H B H1 μ1->RH Y H1 μ1 h1->ZF Y H1 μ1 (k p h1) D E->match p.1 with
  |.nx=>∀σ',RS Y H1 μ1 p.2 σ'->D1.nx σ' H1
  |.bk=>∀σ',RS Y H1 μ1 p.2 σ'->D1.bk σ' H1
  |.ct=>∀σ',RS Y H1 μ1 p.2 σ'->D1.ct σ' H1
  |.rt d=>∀v,RD Y H1 μ1 d v->D1.rt v H1):ZF Y H B r D1 E:=by
 cases r with
 |bad=>exact f
 |ok p h=>exact λH' μ' g' rh=>hk p h H' μ' rfl g' rh (ZF.mono g' f)
 |exc c h=>exact f
end
inductive SmS(Y:Yx)(E:XK)(m:Ev->Hd->R (Fl×Ev))(D:Ends)(Z:L2.St)(H:Hp):Prop
 |mk (S:Ev) (h:Hd) (B:List Yi) (rh:RH Y H B h) (rs:RS Y H B S Z) (f:ZF Y H B (m S h) D E):SmS Y E m D Z H
def Zjk(T:Tb)(Y:Yx)(E:XK)(s:Sx):TS:=SmS Y E (xs1 T s)
def ZlI(T:Tb)(Y:Yx)(E:XK)(s:Sxs):TS:=SmS Y E (xs2 T s)
theorem SmS.bind{D:Ends}{γ δ:Type}{rel:Hp->List Yi->γ->δ->Prop}{m:Ev->Hd->R γ}{k:Ev->γ->Hd->R (Fl×Ev)}{Q1:δ->Hp->Prop}(s:SmS Y E (λS h=>(m S h).bind (k S)) D Z H)
 (hk:∀S d h1 v H1 μ1,RH Y H1 μ1 h1->RS Y H1 μ1 S Z->rel H1 μ1 d v->ZF Y H1 μ1 (k S d h1) D E->Q1 v H1):Sm Y E rel m Z H Q1:=by
 cases s with
 |mk S h B rh rs f=>exact⟨S,h,B,rh,rs,f.bind λd h1 x H1 μ1 _ g rh1 rd f1=>hk S d h1 x H1 μ1 rh1 (rs.mono rh g) rd f1⟩
def Sm.at{α β:Type}{rel:Hp->List Yi->α->β->Prop}{m:Ev->Hd->R α}{Q1:β->Hp->Prop}{Q:Prop}(s:Sm Y E rel m Z H Q1)(hk:∀S h B,RH Y H B h->RS Y H B S Z->Fin Y rel H B (m S h) Q1 E->Q):Q:=by
 cases s with
 |mk S h B rh rs f=>exact hk S h B rh rs f
def SmS.at{D:Ends}{Q:Prop}(s:SmS Y E m D Z H)(hk:∀S h B,RH Y H B h->RS Y H B S Z->ZF Y H B (m S h) D E->Q):Q:=by
 cases s with
 |mk S h B rh rs f=>exact hk S h B rh rs f
def _root_.L2.PS.imp(h:PS X s t)(i:∀D Z H,t' D Z H->t D Z H):PS X s t':=λpins s Z H D I q=>h pins s Z H D I (i D Z H q)
def _root_.L2.PSs.imp(h:PSs X s t)(i:∀D Z H,t' D Z H->t D Z H):PSs X s t':=λpins s Z H D I q=>h pins s Z H D I (i D Z H q)
structure XOk(K:Yk)(a:Yi):Prop extends ExcN K a where
 own:PySem.W.excIn K a [.type "ValueError",.type "Exception",.type "BaseException",.type "object"] "ValueError.__new__" = Wp
 sub:YU K (.ref a) (.ref a)=Wn Wp
structure GdS(T:Tb)(Γ:Gm)(X:Cx)(Y:Yx)(E:XK)(k:Nat):Prop extends Gd T Γ X Y E k where
 top:Γ.top=Wp
 fnt:∀x,X.fn x=Wp
 own:PassesOwn (model X.prog X.w) X.A X.env X.xe
 bk:X.env.blockKind=.function
 rz:Zi3 X E
 stk:X.stack=X.env::X.outer
 frm:X.env.frame=Wn X.env.locals
 xcs:∀C∈Γ.kl.xs,∃a,X.mg C=Wn (.ref a)/\XOk X.K a
 xas:∀p∈Γ.kl.xa,∃a b,X.mg p.1=Wn (.ref a)/\X.mg p.2=Wn (.ref b)/\XAs X.K a b
 xis:∀p∈Γ.kl.xi,∃b v,X.mg p.1=Wn (.ref b)/\ClV X.mg p.2.1 v/\PySem.W.kitOne X.K (.ref b) v=Wn p.2.2
theorem GdS.ownD(G:GdS T Γ X Y E k):∀x,ownD Γ.sc x=Wp->Loc X.env.scope x/\(X.fn x=Wp\/X.env.scope.names.lookup x=Wn .local):=by intro x h;refine⟨?_,.inl (G.fnt x)⟩;unfold IV.ownD at h;rw[G.sc G.top];rw[Wm]at h;exact h.imp of_decide_eq_true of_decide_eq_true
def ZdP(h:ZcJ x=Wp):swapsWith x t n env=pure Wq:=(kdE x).sw (of_decide_eq_true (bL h)) (of_decide_eq_true (bR h)) _ _ _
def ZnY(G:GdS T Γ X Y E k)(hi:Γ.N[i]? = Wn y)(ho:ownD Γ.sc y=Wp)(hx:Zwt e=Wp)(h:chk Γ e x=Wp):PS X (.Assign [.Name y py] x spos) (Zku (ZZ T Y E e) (ZcZ i)):=by
 obtain⟨o1,o2⟩:=G.ownD y ho;have hy:X.N[i]? = Wn y:=by rw[G.N];exact hi
 cases e with
 |comp NC js it g c e=>
  refine Zsn h (λelt tg iter ifs scope q h pe=>?_) (Zf _ G.toGd h);cases sw:(X.env.blockKind==.function&&X.env.kindOf y==Wn .local&&py.line==q.line&&!(scope.names.any λ(n,k)=>n==y&&(k==.local || k==.cell)))with
  |true=>
   have S_:=Zj1 (bL (bR h));rw[<- G.N,<- G.sc (bL h)]at S_;have Gc:=λC s3 H3 fp=>G.toGd.comp NC scope C s3 H3 fp S_.nd;have h':=bR (bR h);exact(ZkB (g:=tgR X.K g) (tc:=Sm Y E0 eqR (tsto T c)) (te:=ZZ T Y E0 e) G.nd hy o1 o2 S_ rfl G.calm (evi_ok it G.toGd (bL h')) (λC s3 H3 fp=>⟨ZlS rfl S_.nd rfl (λx hx=>ZlY (scope:=scope) X hx) (bL (bR (bR h'))),ifs_ok c (Gc C s3 H3 fp) (bL (bR (bR (bR (bR h'))))),Zf e (Gc C s3 H3 fp) (bR (bR (bR (bR (bR h')))))⟩) (Zve X.K g) (λj hj=>of_decide_eq_true (OC.mp (bL (bR (bR (bR h')))) j (List.mem_range.mpr hj))) (Zkw X.env (bL (bR h'))) (congrArg pure sw)).imp
    λD Z H s=>Sm.bind s λS w h1 J H1 μ1 rh1 rs1 wj f1 D hD=>Zmq G.gk.K (λ_ _ _ z=>z) rh1 rs1 wj f1 hD
  |false=>exact ZkC G.nd hy o1 pe (congrArg pure sw) o2
 |any=>exact λpins s Z H D I s=>Sm.at s λ_ _ _ _ _ f=>f.elim
 |_=>exact ff hx
def ZlH(ht:isTup tg=Wp)(pg:PG X tg g)(he:PE X x te)(h3:(ZcJ x&&(!isTup tg || ZkL x))=Wp):PS X (.Assign [tg] x pos) (Zku te g):=Zo7 (P:=λtg=>PG X tg g->(!isTup tg || ZkL x)=Wp->PS X (.Assign [tg] x pos) (Zku te g)) ht (λ_ _ _ pg h3=>ZkD he pg (by unfold swapsWithSole;exact ZdP (bL ‹_›)) ((kdE x).st (of_decide_eq_true h3) _ _ _ _) rfl) pg (bR h3)
def ZuM{T:Tb}(G:Gd T Γ X Y E k)(hc:(Cs.all λC=>Wt (C∈Γ.kl.cs))=Wp)(hf:f∈Γ.kl.ats){D:Ends}(rh1:RH Y H1 μ1 h1)(rs1:RS Y H1 μ1 S Z)(rd:RD Y H1 μ1 d x)
 (f1:ZF Y H1 μ1 ((Zeu Cs f d h1).bind λv h2=>(ev T e S h2).bind λy h3=>match v,y with
  |.int a,.int b=>if (ZR d h1).map (·.1)=(ZR d h3).map (·.1)then(Zhq Cs f d (.int (a+b)) h3).bind λ_ h4=>.ok (.nx,S) h4 else .bad
  |_,_=>.bad) D E) :
 ∃a C dx fs v,x=.ref a/\H1 a=Wn (.ins C dx fs)/\Cls X.K C/\ZaV X.K C f/\fs.lookup f=Wn v /\
  ZZ T Y E e Z H1 λy H2=>ZvK v y H2 λz H3=>∃dx' fs',H3 a=Wn (.ins C dx' fs')/\fs'.length<1000/\D.nx Z (upd H3 a (.ins C dx' (Zci f z fs'))):=by
 unfold Zeu at f1;cases ei:ZR d h1 with
 |none=>rw[ei]at f1;exact f1.elim
 |some p=>
  obtain⟨C,fs⟩:=p;rw[ei]at f1;simp only at f1;by_cases hC:C∈Cs
  . rw[if_pos hC]at f1;obtain⟨w,e1,f1⟩:=f1.ofO;obtain⟨i,a,Ca,dx,gs,rfl,rfl,q,hi,z,m,s⟩:=ZgO rh1 rd ei;obtain⟨v,l,rv⟩:=(s.look (f:=f)).1 w e1;have hc':=hc;rw[OC]at hc';obtain⟨Ca',m',cl,na⟩:=G.cls C (of_decide_eq_true (hc' C hC));have m0:=m;rw[G.gk.mg,m']at m;cases m;refine⟨a,Ca,dx,gs,v,rfl,z,cl,na f hf,l,S,h1,μ1,rh1,rs1,ZF.bind f1 λy h3 u H3 μ3 _ g3 rh3 ry f3=>?_⟩;cases w with
    |int p=>
     cases y with
     |int r=>
      cases rv;cases ry;refine⟨p,r,rfl,rfl,?_⟩;simp only at f3;by_cases hk:Option.map (·.1) (Wn (C,fs))=(ZR (.ref i) h3).map (·.1)
      . rw[if_pos hk]at f3;obtain⟨a',C',dx',fs',e4,z',_,_,l',nx⟩:=ZnX (Q:=λ_ H'=>D.nx Z H') G hc hf rh3 (rd.mono rh1 g3) (.int _) (ZF.bind f3 λ_ h4 _ H4 μ4 _ g4 rh4 _ f4=>f4.nx rh4 ((rs1.mono rh1 g3).mono rh3 g4));cases e4;cases e5:ZR (.ref i) h3 with
        |none=>rw[e5]at hk;cases hk
        |some p3=>obtain⟨C3,fs3⟩:=p3;rw[e5]at hk;cases hk;obtain⟨i3,a3,Ca3,dx3,gs3,e6,e7,_,_,z3,m3,_⟩:=ZgO rh3 (rd.mono rh1 g3) e5;cases e7;rw[m0]at m3;cases m3;rw[z']at z3;cases z3;exact⟨dx',fs',z',l',nx⟩
      . rw[if_neg hk]at f3;exact f3.elim
     |_=>exact f3.elim
    |_=>exact f3.elim
  . rw[if_neg hC]at f1;exact f1.elim
theorem _root_.IV.Gd.nox(G:Gd T Γ X Y E k):Gd T Γ X.nox Y E0 k:=⟨⟨G.gk.K,G.gk.mg,G.gk.gd,G.gk.g,G.gk.bare⟩,G.N,G.sc,G.vis,G.glo,G.nd,G.calm,G.room,G.h60,ZhM,G.defs,G.blt,G.room1,G.cls,G.mts,G.mks⟩
def Zib(f:Fin Y rel H B r.plain Q E):Fin Y rel H B r Q E0:=by
 cases r with
 |bad=>exact f.elim
 |ok a h=>exact f
 |exc c h=>exact f.elim
def ZlX{D D1:Ends}{k:Ev->Hd->R (Fl×Ev)}(f:ZF Y H B (r.bind λp h2=>match p with
 |(.nx,ρ2)=>k ρ2 h2
 |(.ct,ρ2)=>k ρ2 h2
 |(.bk,ρ2)=>.ok (.nx,ρ2) h2
 |(.rt d,ρ2)=>.ok (.rt d,ρ2) h2) D E) (hn:∀ρ2 h2 H2 μ2 σ',Gr H B H2 μ2->RH Y H2 μ2 h2->RS Y H2 μ2 ρ2 σ'->ZF Y H2 μ2 (k ρ2 h2) D E->D1.nx σ' H2) (hc:D1.ct=D1.nx) (hb:D1.bk=D.nx) (hr:D1.rt=D.rt):ZF Y H B r D1 E:=
 ZF.part f λp h2 H2 μ2 _ g2 rh2 f2=>by
  obtain⟨fl,ρ2⟩:=p;cases fl with
  |nx=>exact λσ' rs'=>hn ρ2 h2 H2 μ2 σ' g2 rh2 rs' f2
  |ct=>rw[hc];exact λσ' rs'=>hn ρ2 h2 H2 μ2 σ' g2 rh2 rs' f2
  |bk=>rw[hb];exact λσ' rs'=>ZF.nx f2 rh2 rs'
  |rt d=>rw[hr];exact λv rv=>f2 H2 μ2 Gr.refl rh2 v rv
def ZsG{D:Ends}(s:Zjk T Y E (.whl c b) D Z H):ZnP (Zjj T Y E c) (ZlI T Y E b) D Z H:=by
 refine⟨λm=>SmS Y E (ZT (tst T c) (xs2 T b) m) D,⟨T.L,s⟩,λm Z H s=>?_⟩;cases m with
 |zero=>exact SmS.at s λ_ _ _ _ _ f=>f.elim
 |succ m=>
  refine SmS.bind s λS t h1 v H1 μ1 rh1 rs1 rd f1=>?_;cases rd;cases t with
  |false=>exact ZjK (ZF.nx f1 rh1 rs1)
  |true=>exact ZjJ ⟨SmS Y E (ZT (tst T c) (xs2 T b) m) D,λσ' H' q=>⟨m,OH m,q⟩,S,h1,μ1,rh1,rs1,ZlX f1 (λρ2 h2 H2 μ2 σ' _ rh2 rs2 f2=>⟨ρ2,h2,μ2,rh2,rs2,f2⟩) rfl rfl rfl⟩
inductive FwS(Y:Yx)(E:XK)(H1:Hp)(μ1:List Yi)(n i:Nat)(F:Ev->Hd->R (Fl×Ev))(D:Ends)(m:Nat)(Z:L2.St)(H:Hp):Prop
 |mk (S:Ev) (h:Hd) (B:List Yi) (hi:i<=n) (hm:m=n - i) (g:Gr H1 μ1 H B) (rh:RH Y H B h) (rs:RS Y H B S Z) (f:ZF Y H B (F S h) D E):FwS Y E H1 μ1 n i F D m Z H
def Zun{K:Yk}{g:Tg}{D:Ends}(hY:Y.K=K)(rh1:RH Y H1 μ1 h1)(rs1:RS Y H1 μ1 S Z)(wj:WJ Y H1 μ1 w J)(f1:ZF Y H1 μ1 (Z3 w.src g (xs2 T b) w.xs S h1) D E):∃W:Nat->Nat->L2.St->Hp->Prop,(∃m,W 0 m Z H1)/\∀i m Z H,W i m Z H ->
 (J.stop i H/\D.nx Z H)\/(J.go i H/\∃B_:L2.St->Hp->Prop,(∀σ' H',B_ σ' H'->∃m',m'<m/\W (i+1) m' σ' H')/\∀x H',J.yld i H x H'->tgR K g x Z H' λσ' H''=>ZlI T Y E b {D with nx:=B_,ct:=B_,bk:=D.nx} σ' H''):=by
 refine⟨λi=>FwS Y E H1 μ1 w.xs.length i (λS=>Z3 w.src g (xs2 T b) (w.xs.drop i) S) D,⟨w.xs.length,S,h1,μ1,Yw _,(Nat.sub_zero _).symm,Gr.refl,rh1,rs1,f1⟩,λi m Z H s=>?_⟩;cases s with
 |mk S h B hi hm g0 rh rs f=>
  subst hm;by_cases hs:Wk.stays w.src h=Wp
  . by_cases hlt:i<w.xs.length
    . have hd:=Og hlt;rw[List.drop_eq_getElem_cons hlt,Z3,if_pos hs]at f;obtain⟨go,yl⟩:=(wj H B h g0 rh hs).1 i _ hd;refine .inr ⟨go,FwS Y E H1 μ1 w.xs.length (i+1) (λS=>Z3 w.src g (xs2 T b) (w.xs.drop (i+1)) S) D (w.xs.length - (i+1)),λσ' H' q=>⟨_,Nat.sub_lt_sub_left hlt (OH i),q⟩,λx H' hy=>?_⟩;obtain⟨g2,rh2,rx⟩:=yl x H' hy;split at f
      . exact f.elim
      . rename_i ρ1 hb;exact ZiT hY rx (rs.mono rh g2) hb λσ1 rs1=>⟨ρ1,h,B,rh2,rs1,ZlX (ZF.mono g2 f) (λρ2 h3 H3 μ3 σ' g3 rh3 rs3 f3=>⟨ρ2,h3,μ3,hlt,rfl,(g0.trans g2).trans g3,rh3,rs3,f3⟩) rfl rfl rfl⟩
    . have he:i=w.xs.length:=Nat.le_antisymm hi (Nat.le_of_not_lt hlt);subst he;rw[List.drop_eq_nil_of_le (Oq _),Z3,if_pos hs]at f;exact .inl ⟨(wj H B h g0 rh hs).2,ZF.nx f rh rs⟩
  . cases e:w.xs.drop i with
    |nil=>rw[e,Z3,if_neg hs]at f;exact f.elim
    |cons _ _=>rw[e,Z3,if_neg hs]at f;exact f.elim
def ZsN{X:Cx}{D:Ends}(m:Y.mg C=Wn (.ref ca))(xo:XOk X.K ca)(s:Zjk T Y E (.trr f es C b) D Z H):Zr6 X.K (ZeM T Y f) ca (λ_ _ D Z H=>D.rt (.bl b) H) (Zik T Y E0 es) D Z H:=by
 cases s with
 |mk S h B rh rs ff=>
  refine⟨S,h,B,rh,rs,Zib (ZF.bind ff λds h1 vs H1 μ1 _ g1 rh1 rds f1=>⟨ds,h1,μ1,rh1,rds,?_⟩)⟩;have rs1:=rs.mono rh g1;cases q:T.C f ds h1 with
  |bad=>rw[q]at f1;exact f1.elim
  |ok w h2=>rw[q]at f1;exact λb H' μ' g2 rh2 rb=>f1 H' μ' g2 rh2 _ (rs1.mono rh1 g2)
  |exc w h2=>
   rw[q]at f1;unfold catchR at f1;by_cases e:w=C
   . subst e;simp only[if_true]at f1;intro H' μ' C' g2 rh2 mc;rw[m]at mc;cases mc;exact⟨ca,rfl,xo.sub,λa oe=>f1 H' μ' g2 rh2 _ (.bl b)⟩
   . simp only[if_neg e]at f1;exact f1.elim
def ZsO(G:GdS T Γ X Y E k)(hf:f∈Γ.fs)(hgf:glb Γ f=Wp)(hxs:C∈Γ.kl.xs)(hg:glb Γ C=Wp)(h4:chks Γ es (y::ys)=Wp)(ha:PA X.nox (y::ys) (Zik T Y E0 es)):
 PS X (.Try [.Expr (.Call (.Name f fp) (y::ys) [] cp) ep] [.ExceptHandler (Wn (.Name C np)) Wo [.Return (Wn (.Constant (.bool b) j r)) q] z] [] [] pos) (Zjk T Y E (.trr f es C b)):=by
 obtain⟨ps,hd⟩:=G.defs _ hf;obtain⟨g1,g2⟩:=G.gl hgf;obtain⟨c1,c2⟩:=G.gl hg;obtain⟨ca,m,xo⟩:=G.xcs _ hxs;exact(ZkA hd G.room g1 ha c1 m xo.toExcN G.stk G.frm (ts:=λ_ _ D Z H=>D.rt (.bl b) H) (λa oe=>(ZlQ (Zol (X:=cxH X a oe) Zsj)).imp λD Z H q=>q) g2 c2 (Zb1 X.env h4).1 ((Zb1 X.env h4).2 _) rfl).imp λD Z H s=>ZsN (by rw[G.gk.mg];exact m) xo s
def RS.del{v:Option V}(r:RS Y H B S Z):RS Y H B (S.set i Wo) (Z.set i v):=by
 refine⟨by simp[r.1],λj e he=>?_⟩;by_cases hj:i=j
 . subst hj;rw[List.getElem?_set_self' ]at he;cases h:S[i]? with
   |none=>rw[h]at he;cases he
   |some _=>rw[h]at he;cases he
 . rw[Oc hj]at he ⊢;exact r.2 j e he
theorem kinds_of{X:Cx}{xi:List (Str×Str×Bool)}(G:∀p∈xi,∃b v,X.mg p.1=Wn (.ref b)/\ClV X.mg p.2.1 v/\PySem.W.kitOne X.K (.ref b) v=Wn p.2.2)(m:X.mg c=Wn (.ref ca)):
 ∀{Ws:List Str}{l:List Bool},l.length=Ws.length->((Ws.zip l).all λq=>Wt ((c,q.1,q.2)∈xi))=Wp->Kinds X.mg X.K ca Ws l
 |[],[],_,_=>rfl
 |W::Ws,b::l,e,h=>by rw[List.zip_cons_cons,List.all_cons,Oa]at h;obtain⟨b',v,m',cv,k⟩:=G _ (of_decide_eq_true h.1);rw[m]at m';cases m';exact⟨b,l,v,rfl,cv,k,kinds_of G m (Nat.succ.inj e) h.2⟩
theorem ZpH:∀l:List Bool,RDs Y H B (l.map .bl) (l.map .bl)
 |[]=>.nil
 |b::l=>.cons (.bl b) (ZpH l)
theorem Zl4{α:Type}{c:Str}{x:α}:∀{bs:List (Str×α)},bs.lookup c=Wn x->(c,x)∈bs
 |[],h=>by cases h
 |(k,y)::r,h=>by
  rw[OF]at h;cases e:c==k with
  |true=>rw[e]at h;cases h;rw[eq_of_beq e];exact .head _
  |false=>rw[e]at h;exact .tail _ (Zl4 h)
def ZsP{X:Cx}{D:Ends}(hb:∀c l,(c,l)∈bs->∃wa,Y.mg c=Wn (.ref wa)/\YU X.K (.ref wa) (.ref ca)=Wn Wp/\ExcA X.K wa/\Kinds X.mg X.K wa Ws l/\l.length<=sizeLine)(s:Zjk T Y E (.tre i n f es C Ws bs) D Z H):Zvi X.K (ZeM T Y f) ca n (λa oe D Z H=>∃(c:Yi) (bs:List Bool) (σ0:L2.St),oe.cls=.ref c/\ExcA X.K c/\Kinds X.mg X.K c Ws bs/\Z=σ0.set n (Wn (.ref a))/\bs.length<=sizeLine/\∀p,H p=Wo->D.nx (Z.set i (Wn (.ref p))) (upd H p (.lst (bs.map V.bl)))) (Zik T Y E0 es) D Z H:=by
 cases s with
 |mk S h B rh rs ff=>
  refine⟨S,h,B,rh,rs,Zib (ZF.bind ff λds h1 vs H1 μ1 _ g1 rh1 rds f1=>⟨ds,h1,μ1,rh1,rds,?_⟩)⟩;have rs1:=rs.mono rh g1;cases q:T.C f ds h1 with
  |bad=>rw[q]at f1;exact f1.elim
  |ok w h2=>rw[q]at f1;exact λb H' μ' g2 rh2 rb=>f1 H' μ' g2 rh2 _ (rs1.mono rh1 g2)
  |exc c h2=>
   rw[q]at f1;unfold ZpC at f1;simp only at f1;cases e:bs.lookup c with
   |none=>rw[e]at f1;exact f1.elim
   |some l=>rw[e]at f1;obtain⟨wa,m,sb,xa,kd,hz⟩:=hb c l (Zl4 e);intro H' μ' C' g2 rh2 mc;rw[m]at mc;cases mc;refine⟨wa,rfl,sb,λa oe h1 _ _=>⟨wa,l,Z,h1,xa,kd,rfl,hz,λp hp=>?_⟩⟩;have g:=Gr.lay (B:=μ') (o:=HO.lst (l.map V.bl)) hp;exact f1 _ _ (g2.trans g) (rh2.lay hp ⟨_,Zh,ZpH l⟩) _ (((((rs1.mono rh1 g2).del).mono rh2 g).set (.ref (by rw[rh2.len];simp))).del)
theorem ZsQ(G:GdS T Γ X Y E k)(hf:f∈Γ.fs)(hgf:glb Γ f=Wp)(te:Zqb Γ n C Ws bs m=Wp)(hn:Γ.N[i]? = Wn y)(hown:ownD Γ.sc y=Wp)(hr:ZaY m Ws ys)(h4:chks Γ es (x::xs)=Wp)(ha:PA X.nox (x::xs) (Zik T Y E0 es)) :
   PS X (.Try [.Expr (.Call (.Name f fp) (x::xs) [] cp) ep] [.ExceptHandler (Wn (.Name C np)) (Wn m) [.Assign [.Name y px] (.List ys lp) q] z] [] [] pos) (Zjk T Y E (.tre i n f es C Ws bs)):=by
 unfold Zqb at te;obtain ⟨ps,fa,fdd,hm,hk,hb,F⟩:=G.defs _ hf;obtain ⟨g1,g2⟩:=G.gl hgf;have t1:=bL te;have t2:=bL (bR te);have t3:=of_decide_eq_true (bL (bR (bR te)));have t4:=bL (bR (bR (bR te)));have t5:=bR (bR (bR (bR te)));obtain ⟨c1,c2⟩:=G.gl (bL t5);obtain ⟨p0,hp0,ep0⟩:=List.any_eq_true.mp t4;obtain ⟨ca,_,m1,_,xo⟩:=G.xas _ hp0;rw [of_decide_eq_true ep0] at m1;obtain ⟨o1,o2⟩:=G.ownD _ hown;have hi:X.N[i]? = Wn y:=by rw [G.N];exact hn
 have hie:X.N[n]? = Wn m:=by rw [G.N];exact of_decide_eq_true (bL (bR (bR t5)))
 have hl:X.env.scope.names.lookup m=Wn .local:=by rw [G.sc G.top];exact of_decide_eq_true (bL (bR (bR (bR t5))))
 have gi:=(G.gl (bL (bR t5))).1;have hW:∀ W∈Ws,Gl X W/\(W==("__debug__" : Str))=Wq/\∃ v,ClV X.mg W v:=fun W hW=>by
   have a:=OC.mp t2 W hW;obtain ⟨q,hq,eq⟩:=List.any_eq_true.mp (bR a);obtain ⟨_,v,_,cv,_⟩:=G.xis q hq;rw [of_decide_eq_true eq] at cv;exact ⟨(G.gl (bL a)).1,(G.gl (bL a)).2,v,cv⟩
 have sl:100<=sizeLine:=by decide
 exact (Zkz F G.room g1 hm hk hb ha c1 m1 xo.toExcN G.nd hie hl G.calm G.stk G.frm (fun a oe=>Znl gi (G.blt _ (by decide)) G.nd hi o1 o2 hie hl (of_decide_eq_true (bL (bR (bR (bR (bR t5)))))) (of_decide_eq_true (bR (bR (bR (bR (bR t5)))))) hr hW) g2 c2 (Zb1 X.env h4).1 ((Zb1 X.env h4).2 _) rfl).imp fun D Z H s=>ZsP (X:=X) (fun c l hcl=>by
   have a:=OC.mp t1 _ hcl;obtain ⟨a',wa,n1,n2,xo'⟩:=G.xas _ (of_decide_eq_true (bL a));rw [m1] at n1;cases n1;have e:=of_decide_eq_true (bL (bR a));exact ⟨wa,by rw [G.gk.mg];exact n2,xo'.sub,xo'.at',kinds_of G.xis n2 e (bR (bR a)),by rw [e];exact OE t3 sl⟩) s
mutual
theorem Zvt(s:Sx){Γ:Gm}{X:Cx}{E:XK}{k:Nat}{x:Stmt}(G:GdS T Γ X Y E k)(h:ZwR Γ s x=Wp):PS X x (Zjk T Y E s):=match s,h with
 |.ret e,h=>Z1 (P:=λx=>PS X x _) h λp h=>Zer (P:=λo=>PS X (.Return o p.p) _) h λy h=>(Zol (Zf e G.toGd h)).imp λD Z H s=>SmS.bind s λS d h1 v H1 μ1 rh1 rs1 rd f1=>f1 H1 μ1 Gr.refl rh1 v rd
 |.set g e,h=>Zkn (P:=λx=>PS X x _) h λtg xe pos h=>by
  have fin:∀{D:Ends}{Z:L2.St}{H:Hp},Zjk T Y E (.set g e) D Z H->Zku (ZZ T Y E e) (tgR X.K g) D Z H:=λ{D Z H} s=>SmS.bind s λS d h1 v H1 μ1 rh1 rs1 rd f1=>by obtain⟨ρ1,eb,f1⟩:=f1.ofO;exact ZiT G.gk.K rd rs1 eb λσ1 rs2=>f1.nx rh1 rs2
  have pg:=ZlS (X:=X) G.N G.nd G.calm G.ownD (bL h);refine bO (bR (bR h)) (λh3=>?_) λh3=>?_
  . cases g with
    |nm i=>exact Zbu (P:=λt=>PS X (.Assign [t] _ _) _) (bL h) λy py e1 e2=>(ZkC G.nd (by rw[G.N];exact e1) (G.ownD y e2).1 (Zf e G.toGd (bL (bR h))) (ZdP (bL h3)) (G.ownD y e2).2).imp λD Z H q=>fin q
    |two i j=>exact(ZlH (Zjd (P:=λt=>isTup t=Wp) (show Zmw Γ.N (ownD Γ.sc) i j tg=Wp from bL h) λ_ _ _ _=>rfl) pg (Zf e G.toGd (bL (bR h))) h3).imp λD Z H q=>fin q
    |many is=>exact(ZlH (Zjd (P:=λt=>isTup t=Wp) (show Zmv Γ.N (ownD Γ.sc) is tg=Wp from bL h) λ_ _ _ _=>rfl) pg (Zf e G.toGd (bL (bR h))) h3).imp λD Z H q=>fin q
  . cases g with
    |nm i=>exact Zbu (P:=λt=>PS X (.Assign [t] _ _) _) (bL h) λy py e1 e2=>(ZnY G e1 e2 (bR h3) (bL (bR h))).imp λD Z H q=>fin q
    |two i j=>exact ff (Zjd (P:=λt=>Wt (tgE t=6)=Wp->Wq=Wp) (show Zmw Γ.N (ownD Γ.sc) i j tg=Wp from bL h) (λ_ _ _ _ z=>z) (bL h3))
    |many is=>exact ff (Zjd (P:=λt=>Wt (tgE t=6)=Wp->Wq=Wp) (show Zmv Γ.N (ownD Γ.sc) is tg=Wp from bL h) (λ_ _ _ _ z=>z) (bL h3))
 |.put o i e,h=>Zkn (P:=λx=>PS X x _) h λtg xe p2 h=>ZnZ (P:=λt=>PS X (.Assign [t] _ _) _) h λxo xi p1 h=>
  (ZkD (pos:=p2) (Zf e G.toGd (bL (bR (bR h)))) (Zoq (pos:=p1) (Zf o G.toGd (bL h)) (Zf i G.toGd (bL (bR h))) (Ztg (Y:=Y) (E:=E)) ((kdE xi).put (of_decide_eq_true (bL (bR (bR (bR h))))) _ _ _)) (by unfold swapsWithSole;exact ZdP (bR (bR (bR (bR h))))) rfl rfl).imp λD Z H s=>SmS.bind s λS d h1 v H1 μ1 rh1 rs1 rd f1=>
   ⟨S,h1,μ1,rh1,rs1,f1.bind λd2 h2 v2 H2 μ2 _ g2 rh2 rd2 f2=>⟨S,h2,μ2,rh2,rs1.mono rh1 g2,f2.bind λd3 h3 v3 H3 μ3 _ g3 rh3 rd3 f3=>⟨d2,d3,d,h3,μ3,rh3,rd2.mono rh2 g3,rd3,(rd.mono rh1 g2).mono rh2 g3,f3.bind λ_ h4 _ H4 μ4 _ g4 rh4 _ f4=>f4.nx rh4 (((rs1.mono rh1 g2).mono rh2 g3).mono rh3 g4)⟩⟩⟩
 |.npt o i e,h=>Zkn (P:=λx=>PS X x _) h λtg xe p2 h=>ZnZ (P:=λt=>PS X (.Assign [t] _ _) _) h λxo xi p1 h=>
  (ZkD (pos:=p2) (Zf e G.toGd (bL (bR (bR h)))) (Zoq (pos:=p1) (Zf o G.toGd (bL h)) (Zf i G.toGd (bL (bR h))) (ZtL (Y:=Y) (E:=E) G.room G.gk.K) ((kdE xi).put (of_decide_eq_true (bL (bR (bR (bR h))))) _ _ _)) (by unfold swapsWithSole;exact ZdP (bR (bR (bR (bR h))))) rfl rfl).imp λD Z H s=>SmS.bind s λS d h1 v H1 μ1 rh1 rs1 rd f1=>
   ⟨S,h1,μ1,rh1,rs1,f1.bind λd2 h2 v2 H2 μ2 _ g2 rh2 rd2 f2=>⟨S,h2,μ2,rh2,rs1.mono rh1 g2,f2.bind λd3 h3 v3 H3 μ3 _ g3 rh3 rd3 f3=>⟨d2,d3,d,h3,μ3,rh3,rd2.mono rh2 g3,rd3,(rd.mono rh1 g2).mono rh2 g3,f3.bind λ_ h4 _ H4 μ4 _ g4 rh4 _ f4=>f4.nx rh4 (((rs1.mono rh1 g2).mono rh2 g3).mono rh3 g4)⟩⟩⟩
 |.trr f es C b,h=>Z1 (P:=λx=>PS X x _) h λp h=>ZfQ (P:=λys=>PS X (.Try p.xs p.hs ys p.zs p.p) _) h λh=>ZfQ (P:=λzs=>PS X (.Try p.xs p.hs [] zs p.p) _) h λh=>Zvd (P:=λhs=>PS X (.Try p.xs hs [] [] p.p) _) (bL h) λnp j r q z hxs hg=>
  Zae (P:=λxs=>PS X (.Try xs _ [] [] p.p) _) (bR h) λs h5=>Z1 (P:=λs=>PS X (.Try [s] _ [] [] p.p) _) h5 λp5 h5=>Zb2 (P:=λx=>PS X (.Try [.Expr x p5.p] _ [] [] p.p) _) h5 λfp ys cp h5=>Zmp (P:=λys=>PS X (.Try [.Expr (.Call (.Name f fp) ys [] cp) p5.p] _ [] [] p.p) _) (bL (bR (bR h5))) (bR (bR (bR h5))) λy ys h4=>ZsO G (of_decide_eq_true (bL h5)) (bL (bR h5)) hxs hg h4 (evs_ok es G.toGd.nox h4)
 |.aug i op e,h=>Z1 (P:=λx=>PS X x _) h λp h=>Zbu (P:=λa=>PS X (.AugAssign a _ _ _) _) (bL h) λy py e1 e2=>dS (P:=λo=>PS X (.AugAssign _ o _ _) _) (bL (bR h)) <| dS (P:=λo=>PS X _ (Zjk T Y E (.aug i o e))) (bL (bR (bR h))) <|
  (Ztk G.nd (by rw[G.N];exact e1) (G.ownD _ e2).1 (Zf e G.toGd (bR (bR (bR h)))) Zuh (G.ownD _ e2).2).imp λD Z H s=>SmS.at s λS h B rh rs f=>by
   obtain⟨d,ed,f⟩:=ZF.ofO f;obtain⟨v,ev,rd⟩:=rs.var ed;refine⟨v,ev,S,h,B,rh,rs,ZF.bind f λd2 h2 v2 H2 μ2 _ g2 rh2 rd2 f2=>?_⟩;cases rd with
   |int a=>
    cases rd2 with
    |int b=>exact⟨a,b,rfl,rfl,ZF.nx f2 rh2 ((rs.mono rh g2).set (.int _))⟩
    |_=>exact f2.elim
   |_=>exact f2.elim
 |.drp e,h=>Z1 (P:=λx=>PS X x _) h λp h=>(ZqA (Zf e G.toGd (bL h)) (ZdP (bR h))).imp λD Z H s=>SmS.bind s λS d h1 v H1 μ1 rh1 rs1 rd f1=>f1.nx rh1 rs1
 |.iff c a b,h=>Z1 (P:=λx=>PS X x _) h λp h=>(ZvO (tst_ok c G.toGd (bL h)) (sts_ok a G (bL (bR h))) (sts_ok b G (bR (bR h)))).imp λD Z H s=>SmS.bind s λS t h1 v H1 μ1 rh1 rs1 rd f1=>by
  cases rd;cases t with
  |true=>exact ZjJ ⟨S,h1,μ1,rh1,rs1,f1⟩
  |false=>exact ZjK ⟨S,h1,μ1,rh1,rs1,f1⟩
 |.whl c b,h=>Z1 (P:=λx=>PS X x _) h λp h=>ZfQ (P:=λys=>PS X (.While _ _ ys _) _) h λh=>(Zok G.own (tst_ok c G.toGd (bL h)) (sts_ok b G (bR h))).imp λD Z H s=>ZsG s
 |.forr g it b,h=>Z1 (P:=λx=>PS X x _) h λp h=>ZfQ (P:=λys=>PS X (.For _ _ _ ys _) _) h λh=>(Zti G.own G.calm (evi_ok it G.toGd (bL h)) (ZlS (X:=X) G.N G.nd G.calm G.ownD (bL (bR (bR h)))) (sts_ok b G (bR (bR (bR h)))) (Zkw X.env (bL (bR h)))).imp λD Z H s=>SmS.bind s λS w h1 J H1 μ1 rh1 rs1 wj f1=>Zun G.gk.K rh1 rs1 wj f1
 |.pas,h=>Z1 (P:=λx=>PS X x _) h λp h=>Zqz.imp λD Z H s=>SmS.at s λS h B rh rs f=>ZF.nx f rh rs
 |.brk,h=>Z1 (P:=λx=>PS X x _) h λp h=>Zom.imp λD Z H s=>SmS.at s λS h B rh rs f=>f H B Gr.refl rh Z rs
 |.cnt,h=>Z1 (P:=λx=>PS X x _) h λp h=>Zjr.imp λD Z H s=>SmS.at s λS h B rh rs f=>f H B Gr.refl rh Z rs
 |.any,h=>λpins s Z H D I s=>SmS.at s λS h B rh rs f=>f.elim
 |.rai C e,h=>Z1 (P:=λx=>PS X x _) h λp h=>ZkK (P:=λc=>PS X (.Raise _ c _) _) h λh=>Zer (P:=λo=>PS X (.Raise o _ _) _) h λx h=>by
  unfold Zmt at h;exact Zb2 (P:=λx=>PS X (.Raise (Wn x) _ _) _) h λnp ys q h=>Zae (P:=λys=>PS X (.Raise (Wn (.Call _ ys _ _)) _ _) _) h λy h=>by obtain⟨ca,m,xo⟩:=G.xcs _ (of_decide_eq_true (bL h));have st:=Zr (xs:=[]) X.env (bL (bR (bR h)));exact(Zjq G.rz G.calm PySem.F.excBase_ValueError (G.gl (bL (bR h))).1 m xo.own (Zah (Zf e G.toGd (bR (bR (bR h)))) Zck st) (G.gl (bL (bR h))).2 st rfl).imp λD Z H s=>SmS.bind s λS d h1 v H1 μ1 rh1 rs1 rd f1=>⟨by show 1<=sizeLine;decide,f1 H1 μ1 ca Gr.refl rh1 (by rw[G.gk.mg];exact m)⟩
 |.raf C e,h=>Z1 (P:=λx=>PS X x _) h λp h=>ZkK (P:=λc=>PS X (.Raise _ c _) _) h λh=>Zer (P:=λo=>PS X (.Raise o _ _) _) h λx h=>by
  unfold Zmt at h;exact Zb2 (P:=λx=>PS X (.Raise (Wn x) _ _) _) h λnp ys q h=>Zae (P:=λys=>PS X (.Raise (Wn (.Call _ ys _ _)) _ _) _) h λy h=>by
   obtain⟨ca,m,xo⟩:=G.xcs _ (of_decide_eq_true (bL h));have st:=Zr (xs:=[]) X.env (bL (bR (bR h)));refine ZwB (P:=λy=>Yz [y] X.env=(Wq,eval y X.env)::Yz [] X.env->PS X (.Raise (Wn (.Call _ [y] _ _)) _ _) _) (bR (bR (bR h))) (λc j p1 y p2 pos hc h1 st=>?_) st;exact(Zjq G.rz G.calm PySem.F.excBase_ValueError (G.gl (bL (bR h))).1 m xo.own (Zah (Zoy (Zf e G.toGd h1) hc) Zck st) (G.gl (bL (bR h))).2 st rfl).imp λD Z H s=>SmS.bind s λS d h1 v H1 μ1 rh1 rs1 rd f1=>by
    cases rd with
    |str y ok=>
     have f1:ZF Y H1 μ1 (if y.length<=50000 then .exc C h1 else .bad) D E:=f1;by_cases hy:y.length<=50000
     . rw[if_pos hy]at f1;have:=StrLaws.reprText_len y λc hc=>by
        have:=of_decide_eq_true (Array.all_eq_true'.mp (show y.cps.all (λc=>Wt (c<0x110000))=Wp from ok) c (Array.mem_toList_iff.mp hc))
        lia
       exact⟨y,rfl,by lia,λz=>⟨by show 1<=sizeLine;decide,f1 H1 μ1 ca Gr.refl rh1 (by rw[G.gk.mg];exact m)⟩⟩
     . rw[if_neg hy]at f1;exact f1.elim
    |_=>exact f1.elim
 |.tre i n f es C Ws bs,h=>Z1 (P:=λx=>PS X x _) h λp h=>ZfQ (P:=λys=>PS X (.Try p.xs p.hs ys p.zs p.p) _) h λh=>ZfQ (P:=λzs=>PS X (.Try p.xs p.hs [] zs p.p) _) h λh=>Zvf (P:=λhs=>PS X (.Try p.xs hs [] [] p.p) _) (bL h) λnp m y px q z rows lp te hn hown hr=>
  Zae (P:=λxs=>PS X (.Try xs _ [] [] p.p) _) (bR h) λs h5=>Z1 (P:=λs=>PS X (.Try [s] _ [] [] p.p) _) h5 λp5 h5=>Zb2 (P:=λx=>PS X (.Try [.Expr x p5.p] _ [] [] p.p) _) h5 λfp ys cp h5=>Zmp (P:=λys=>PS X (.Try [.Expr (.Call (.Name f fp) ys [] cp) p5.p] _ [] [] p.p) _) (bL (bR (bR h5))) (bR (bR (bR h5))) λy ys h4=>ZsQ G (of_decide_eq_true (bL h5)) (bL (bR h5)) te hn hown hr h4 (evs_ok es G.toGd.nox h4)
 |.trs i f es C,h=>ff h
 |.trw i n f es C W w,h=>ff h
 |.seta Cs o f e,h=>Zkn (P:=λx=>PS X x _) h λtg xe pos h=>ZrY (P:=λt=>PS X (.Assign [t] _ _) _) h λxo q h=>(Ztj (Zf o G.toGd (bL h)) (Zf e G.toGd (bL (bR h))) (ZdP (bL (bR (bR h))))).imp λD Z H s=>SmS.bind s λS d h1 v H1 μ1 rh1 rs1 rd f1=>⟨S,h1,μ1,rh1,rs1,ZF.bind f1 λd2 h2 v2 H2 μ2 _ g2 rh2 rd2 f2=>ZnX (Q:=λ_ H'=>D.nx Z H') G.toGd (bL (bR (bR (bR h)))) (of_decide_eq_true (bR (bR (bR (bR h))))) rh2 rd2 (rd.mono rh1 g2) (ZF.bind f2 λ_ h3 _ H3 μ3 _ g3 rh3 _ f3=>f3.nx rh3 ((rs1.mono rh1 g2).mono rh2 g3))⟩
 |.auga Cs o f e,h=>Z1 (P:=λx=>PS X x _) h λp h=>dS (P:=λo=>PS X (.AugAssign _ o _ _) _) (bL h) <| ZrY (P:=λt=>PS X (.AugAssign t _ _ _) _) (bR h) λxo q h=>(ZmY (Zf o G.toGd (bL h)) (Zf e G.toGd (bL (bR h))) Zui).imp λD Z H s=>SmS.bind s λS d h1 x H1 μ1 rh1 rs1 rd f1=>ZuM G.toGd (bL (bR (bR h))) (of_decide_eq_true (bR (bR (bR h)))) rh1 rs1 rd f1
 |.unl i j e,h=>ff h
theorem sts_ok(s:Sxs){Γ:Gm}{X:Cx}{E:XK}{k:Nat}{x:List Stmt}(G:GdS T Γ X Y E k)(h:chkSs Γ s x=Wp):PSs X x (ZlI T Y E s):=match s,x,h with
 | .nil,[],h=>Zqy.imp fun D Z H s=>SmS.at s fun S h B rh rs f=>ZF.nx f rh rs
 | .nil,_::_,h=>ff h
 | .cons s r,[],h=>ff h
 | .cons s r,x::xs,h=>(Zoj (Zvt s G (bL h)) (sts_ok r G (bR h))).imp fun D Z H s=>SmS.at s fun S h B rh rs f=>⟨S,h,B,rh,rs,ZF.part f fun p h1 H1 μ1 _ g1 rh1 f1=>by
     obtain ⟨fl,ρ1⟩:=p;cases fl with
     | nx=>exact fun σ' rs'=>⟨ρ1,h1,μ1,rh1,rs',f1⟩
     | bk=>exact fun σ' rs'=>f1 H1 μ1 Gr.refl rh1 σ' rs'
     | ct=>exact fun σ' rs'=>f1 H1 μ1 Gr.refl rh1 σ' rs'
     | rt d=>exact fun v rv=>f1 H1 μ1 Gr.refl rh1 v rv⟩
end
set_option tactic.hygienic false
structure BodyOk(K:Yk)(kl:Kl)(fs:List Str)(x q:Str)(fd:Fd)(st:Stmt)(f:Yi)(fdd:FuncData):Prop where
 fn:Fun K x q st f fdd
 sc:FnScope fd.N fd.ps (ZQ st)
 hb:∀(kV doc pm:Yj) (an:Option Yi) (cdv ct:Yj) (us:List Yj),us.length=fd.ps.length->bindArgs (PySem.W.fnOf x q (ZdZ st) (Zb0 st) (ZQ st) .none kV doc pm an cdv ct) ⟨us,[]⟩=pure (fd.ps.zip us)
 ck:chkSs ⟨fd.N,ZQ st,fs,Wp,kl⟩ fd.body (Zb0 st)=Wp
structure DefOk(K:Yk)(mg:Str->Option Yj)(kl:Kl)(fs:List Str)(x:Str)(fd:Fd)(st:Stmt)(f:Yi)(fdd:FuncData):Prop where
 bd:BodyOk K kl fs x x fd st f fdd
 mg:mg x=Wn (.ref f)
structure Md(Pr:Yh)(w:Yg)(K:Yk)(mg:Str->Option Yj)(P:Pg)(kl:Kl):Prop where
 bare:Zgp K=Wp
 gd:∀x kvs,P.GD x=Wn kvs->∃a kvs',mg x=Wn (.ref a)/\DkK Pr w K a kvs'/\∀H B,RKs ⟨K,mg⟩ H B kvs kvs'
 g:∀x d,P.G x=Wn d->∃v u,mg x=Wn u/\RelV v u/\∀H B,RD ⟨K,mg⟩ H B d v
 blt:∀x∈ZmB,mg x=Wo
 defs:∀x fd,P.tb.lookup x=Wn fd->∃st f fdd,DefOk K mg kl (P.tb.map (·.1)) x fd st f fdd
 cls:∀C∈kl.cs,∃a,mg C=Wn (.ref a)/\Cls K a/\∀f∈kl.ats,ZaV K a f
 mts:∀p∈kl.ms,∃a f fdd fd st q,mg p.1=Wn (.ref a)/\Cls K a/\Meth K a p.2 f/\P.look (mnm p.1 p.2)=Wn fd/\BodyOk K kl (P.tb.map (·.1)) p.2 q fd st f fdd
 mks:∀C∈kl.is,∃a f fdd fd st q,mg C=Wn (.ref a)/\Mk K a f/\P.look (mnm C (O "__init__"))=Wn fd/\BodyOk K kl (P.tb.map (·.1)) (O "__init__") q fd st f fdd
 xcs:∀C∈kl.xs,∃a,mg C=Wn (.ref a)/\XOk K a
 xas:∀p∈kl.xa,∃a b,mg p.1=Wn (.ref a)/\mg p.2=Wn (.ref b)/\XAs K a b
 xis:∀p∈kl.xi,∃b v,mg p.1=Wn (.ref b)/\ClV mg p.2.1 v/\PySem.W.kitOne K (.ref b) v=Wn p.2.2
def ZnS(r:RDs Y H B ds vs):RS Y H B (ZB N ds) (L2.start N vs):=by
 refine⟨by simp[ZB,L2.start,r.length],λi d e=>?_⟩;unfold ZB at e;unfold L2.start;by_cases hi:i<ds.length
 . rw[Oe (by simpa using hi),On]at e;rw[Oe (by simpa[<- r.length]using hi),On];obtain⟨d',e1,e2⟩:=Oo.mp e;cases e2;obtain⟨v,h1,h2⟩:=r.get e1;exact⟨v,by rw[h1];rfl,h2⟩
 . rw[Om (by simpa using hi)]at e;have:=O1 e;rw[List.mem_replicate]at this;cases this.2
def Zqj(f:Fin Y (RD Y) H B (Ze r) Q E):ZF Y H B r {nx:=λ_ H'=>Q .non H',rt:=Q} E:=by
 cases r with
 |bad=>exact f.elim
 |exc c h=>exact f
 |ok p h=>
  obtain⟨fl,S⟩:=p;cases fl with
  |nx=>exact λH' μ' g rh σ' _=>f .non H' μ' g rh .non
  |bk=>exact f.elim
  |ct=>exact f.elim
  |rt d=>exact λH' μ' g rh v rv=>f v H' μ' g rh rv
section
variable {Pr:Yh}{w:Yg}{K:Yk}{mg:Str->Option Yj}{base:YF}{P:Pg}{kl:Kl}
def Ziw(h:P.tb.lookup x=Wn fd):P.look x=Wn fd:=by unfold Pg.look;rw[h]
def ZnU(hl:P.look x=Wn fd)(h:ZeM (P.tbl n) ⟨K,mg⟩ x vs H Q E):vs.length=fd.ps.length:=by
 obtain⟨ds,h,B,rh,rs,f⟩:=h;cases n with
 |zero=>exact f.elim
 |succ n=>have f:Fin ⟨K,mg⟩ (RD ⟨K,mg⟩) H B (run P (n+1) x ds h) Q E:=f;rw[run,hl]at f;obtain⟨hz,_⟩:=f.iff;rw[<- rs.length];exact hz
structure Lev(Pr:Yh)(w:Yg)(K:Yk)(mg:Str->Option Yj)(base:YF)(P:Pg)(kl:Kl)(n:Nat):Prop where
 defs:∀y∈P.tb.map (·.1),∃ps,Def Pr w K mg base (2 * n+61) y ps (ZeM (P.tbl n) ⟨K,mg⟩ y)
 mts:∀p∈kl.ms,∃a f fd ps,mg p.1=Wn (.ref a)/\Cls K a/\Meth K a p.2 f/\FnOk Pr w K mg base (CXF Pr w) (2 * n+61) f fd ps (ZeM (P.tbl n) ⟨K,mg⟩ (mnm p.1 p.2))/\Binds K fd ps []
 mks:∀C∈kl.is,∃a f fd ps,mg C=Wn (.ref a)/\Mk K a f/\FnOk Pr w K mg base (CXF Pr w) (2 * n+61) f fd ps (ZeM (P.tbl n) ⟨K,mg⟩ (mnm C (O "__init__")))/\Binds K fd ps []
def ZiL(M:Md Pr w K mg P kl){x nm q:Str}{fd:Fd}{st:Stmt}{f:Yi}{fdd:FuncData}(hl:P.look x=Wn fd)(o:BodyOk K kl (P.tb.map (·.1)) nm q fd st f fdd):
 ∀n,Lev Pr w K mg base P kl n->FnOk Pr w K mg base (CXF Pr w) (2 * (n+1)+61) f fdd fd.ps (ZeM (P.tbl (n+1)) ⟨K,mg⟩ x):=by
 intro n ih;obtain⟨oc,od,kV,doc,pm,an,cdv,ct,osl,rfl,lk,hcd⟩:=o.fn.ex;have S_:=o.sc;rw[show 2 * (n+1)+61=(2 * n+61+1)+1 by lia];refine ZwD lk hcd S_ (λvs H Q E h=>ZnU hl h) λA outer s H vs Q E hr hsp=>?_;refine ZrJ (t:=ZlI (P.tbl n) ⟨K,mg⟩ E fd.body) (sts_ok fd.body (k:=2 * n+61) (Γ:=⟨fd.N,ZQ st,P.tb.map (·.1),Wp,kl⟩) ⟨⟨⟨rfl,rfl,M.gd,M.g,M.bare⟩,rfl,λ_=>rfl,λy hy=>?_,λy hy=>hy,S_.nd,rfl,hr.mono (by lia),by lia,ZqP λ_ _ z=>z,ih.defs,M.blt,hr,M.cls,ih.mts,ih.mks⟩,rfl,λ_=>rfl,PassesOwn.leaving,?_,Zn4,rfl,rfl,M.xcs,M.xas,M.xis⟩ o.ck) ?_
 . unfold Zp6 at hy;rw[Wm,Wm]at hy;rcases hy with (hy|hy)|hy
   . exact .inl (of_decide_eq_true hy)
   . exact .inr (.inl (of_decide_eq_true hy))
   . exact .inr (.inr (of_decide_eq_true hy))
 . show(if (ZQ st).kind.isAnnotationScope then ScopeKind.function else(ZQ st).kind)=.function;rw[S_.kind];rfl
 . obtain⟨ds,h,B,rh,rs,f⟩:=hsp;have f:Fin ⟨K,mg⟩ (RD ⟨K,mg⟩) H B (run P (n+1) x ds h) Q E:=f;rw[run,hl]at f;obtain⟨hz,f⟩:=f.iff;exact⟨ZB fd.N ds,h,B,rh,ZnS rs,Zqj f⟩
def mem_lookup{α:Type}{l:List (Str×α)}{x:Str}(h:x∈l.map (·.1)):∃a,l.lookup x=Wn a:=by
 induction l with
 |nil=>simp at h
 |cons p r ih=>
  rw[OF];by_cases e:x=p.1
  . have:(x==p.1)=Wp:=by simpa using e
    rw[this];exact⟨_,rfl⟩
  . have:(x==p.1)=Wq:=by simpa using e
    rw[this];exact ih (by simpa[e]using h)
def ZiC{x:Str}{fd:Fd}{f:Yi}{fdd:FuncData}(hl:P.look x=Wn fd):FnOk Pr w K mg base (CXF Pr w) (2 * 0+61) f fdd fd.ps (ZeM (P.tbl 0) ⟨K,mg⟩ x):=⟨λvs H Q E h=>ZnU hl h,λA outer s H args us vs Q E _ _ _ _ h=>by obtain⟨ds,h,B,rh,rs,f⟩:=h;exact f.elim⟩
def ZpX(M:Md Pr w K mg P kl):∀n,Lev Pr w K mg base P kl n:=by
 intro n;induction n with
 |zero=>
  refine⟨λy hy=>?_,λp hp=>?_,λC hC=>?_⟩
  . obtain⟨fd,hl⟩:=mem_lookup hy;obtain⟨st,f,fdd,o⟩:=M.defs y fd hl;exact⟨fd.ps,f,fdd,o.mg,o.bd.fn.kp,o.bd.fn.binds o.bd.hb,ZiC (Ziw hl)⟩
  . obtain⟨a,f,fdd,fd,st,q,m,c,me,hl,o⟩:=M.mts p hp;exact⟨a,f,fdd,fd.ps,m,c,me,ZiC hl,o.fn.binds o.hb⟩
  . obtain⟨a,f,fdd,fd,st,q,m,me,hl,o⟩:=M.mks C hC;exact⟨a,f,fdd,fd.ps,m,me,ZiC hl,o.fn.binds o.hb⟩
 |succ n ih=>
  refine⟨λy hy=>?_,λp hp=>?_,λC hC=>?_⟩
  . obtain⟨fd,hl⟩:=mem_lookup hy;obtain⟨st,f,fdd,o⟩:=M.defs y fd hl;exact⟨fd.ps,f,fdd,o.mg,o.bd.fn.kp,o.bd.fn.binds o.bd.hb,ZiL M (Ziw hl) o.bd n ih⟩
  . obtain⟨a,f,fdd,fd,st,q,m,c,me,hl,o⟩:=M.mts p hp;exact⟨a,f,fdd,fd.ps,m,c,me,ZiL M hl o n ih,o.fn.binds o.hb⟩
  . obtain⟨a,f,fdd,fd,st,q,m,me,hl,o⟩:=M.mks C hC;exact⟨a,f,fdd,fd.ps,m,me,ZiL M hl o n ih,o.fn.binds o.hb⟩
def Zt2(M:Md Pr w K mg P kl){x:Str}{a:Str}{fd:Fd}{fa:Yi}(n:Nat)(hl:P.tb.lookup x=Wn fd)(hps:fd.ps=[a])(hm:mg x=Wn (.ref fa)):
 ∃fdd:FuncData,(∀(s:Yb) (v:Yj),BindsTo s fdd ⟨[v],[]⟩ [(a,v)])/\∀base:YF,FnOk Pr w K mg base (CXF Pr w) (2 * (n+1)+61) fa fdd [a] (ZeM (P.tbl (n+1)) ⟨K,mg⟩ x):=by
 obtain⟨st,f,fdd,o⟩:=M.defs x fd hl;have e:=hm.symm.trans o.mg;cases e;refine⟨fdd,λs v=>?_,λbase=>hps ▸ ZiL M (Ziw hl) o.bd n (ZpX M n)⟩;obtain⟨oc,od,kV,doc,pm,an,cdv,ct,osl,rfl,lk,hcd⟩:=o.bd.fn.ex;have:=o.bd.hb kV doc pm an cdv ct [v] (by rw[hps];rfl);rw[hps]at this;exact BindsTo.of_eq this
end
def Zu7{α:Type}{us:List α}(h:us.length=0):us=[]:=List.length_eq_zero_iff.mp h
def ZmI{α:Type}{us:List α}{n:Nat}(h:us.length=n+1):∃a r,us=a::r/\r.length=n:=by
 cases us with
 |nil=>cases h
 |cons a r=>exact⟨a,r,rfl,Nat.succ.inj h⟩
def Zu6{α:Type}{us:List α}(h:us.length=1):∃a0,us=[a0]:=by obtain⟨a0,r,rfl,h2⟩:=ZmI h;exact⟨a0,by rw[Zu7 h2]⟩
def Zu5{α:Type}{us:List α}(h:us.length=2):∃a0 a1,us=[a0,a1]:=by obtain⟨a0,r,rfl,h2⟩:=ZmI h;obtain⟨a1,rfl⟩:=Zu6 h2;exact⟨a0,a1,rfl⟩
def Zu4{α:Type}{us:List α}(h:us.length=3):∃a0 a1 a2,us=[a0,a1,a2]:=by obtain⟨a0,r,rfl,h2⟩:=ZmI h;obtain⟨a1,a2,rfl⟩:=Zu5 h2;exact⟨a0,a1,a2,rfl⟩
def Zu3{α:Type}{us:List α}(h:us.length=4):∃a0 a1 a2 a3,us=[a0,a1,a2,a3]:=by obtain⟨a0,r,rfl,h2⟩:=ZmI h;obtain⟨a1,a2,a3,rfl⟩:=Zu4 h2;exact⟨a0,a1,a2,a3,rfl⟩
def Zu2{α:Type}{us:List α}(h:us.length=5):∃a0 a1 a2 a3 a4,us=[a0,a1,a2,a3,a4]:=by obtain⟨a0,r,rfl,h2⟩:=ZmI h;obtain⟨a1,a2,a3,a4,rfl⟩:=Zu3 h2;exact⟨a0,a1,a2,a3,a4,rfl⟩
def Zxj{α:Type}{us:List α}(h:us.length=6):∃a0 a1 a2 a3 a4 a5,us=[a0,a1,a2,a3,a4,a5]:=by obtain⟨a0,r,rfl,h2⟩:=ZmI h;obtain⟨a1,a2,a3,a4,a5,rfl⟩:=Zu2 h2;exact⟨a0,a1,a2,a3,a4,a5,rfl⟩
set_option tactic.hygienic true
def All(p:α->Prop):List α->Prop
 |[]=>True
 |a::l=>p a/\All p l
theorem All.mem:∀{l:List α},All p l->∀a∈l,p a
 |[],_,a,h=>by simp at h
 |b::l,⟨h1,h2⟩,a,h=>by
  rcases O2.mp h with rfl|h
  . exact h1
  . exact All.mem h2 a h
def lookup_mem{α:Type}{l:List (Str×α)}{a:α}(h:l.lookup x=Wn a):(x,a)∈l:=by
 induction l with
 |nil=>cases h
 |cons p r ih=>
  rw[OF]at h;by_cases e:x=p.1
  . have:(x==p.1)=Wp:=by simpa using e
    rw[this]at h;cases h;subst e;exact Oi
  . have:(x==p.1)=Wq:=by simpa using e
    rw[this]at h;exact Oh _ (ih h)
noncomputable def spL(K:Yk):Sp:=λvs H Q _=>∃(a:Yi) (ns:List Int),vs=[.ref a]/\SqL K H a (ns.map V.int)/\ns.length<=63/\ZrZ H/\∀H',Q (.bl Wp) H'
theorem Zmg:∀ns:List Int,RDs Y H B (ns.map D.int) (ns.map V.int)
 |[]=>.nil
 |n::r=>.cons (.int n) (Zmg r)
def Zu1{l:PySem.W.OpenLaw}{q:Yh}{loose:List Str}{XP:(Str->Option Yj)->YF->Prop}{YP:Yg->YF->Prop}{d:DefRec}{K:Params->Yk}{P:Pg}{kl:Kl}{fd:Fd}(n:Nat)(hn:l.most=Wn 63)(hdf:d.params.defaults=[])(hd:d.name=O "law")(hr:Room (2 * (n+1)+61) callerA)
 (hY:∀(w:Yg) (h:YF),YP w h->(K w.params).In h) (hl:P.tb.lookup (O "law")=Wn fd) (hps:fd.ps=[O "_law_script"])
 (hrun:∀ns:List Int,ns.length<=63->∃h',run P (n+1) (O "law") [.ro (ns.map .int)] []=.ok (.bl Wp) h')
 (M:∀(w:Yg) (mg:Str->Option Yj) (h:YF),(K w.params).In h->h.Ns Yd mg->Md l.prog w (K w.params) mg P kl) :
 PySem.W.WalkO q loose XP YP l.row.toRowW d [] (λf vs=>PySem.call f vs):=by
 refine L2.Zp5 (n:=63) (k:=2 * (n+1)+61) (x := "_law_script") (CX:=λw=>CXF l.prog w) (sp:=λw=>spL (K w.params)) hn (by decide) hdf hr hY (λw mg fa h KX G hmg=>?_) (λ_ _ a ns hl hO hS=>⟨a,ns,rfl,hS,hl,hO,λ_=>rfl⟩) λ_ _ _ _ _ z=>by obtain⟨_,_,_,_,_,_,_,_,_,_,_,_,_,z⟩:=z;exact z
 rw[hd]at hmg;obtain⟨fdd,hb,F⟩:=Zt2 (M w mg h KX G) n hl hps hmg;refine⟨fdd,hb,λbase _ _=>(F base).imp λvs H Q E hsp=>?_⟩;obtain⟨a,ns,rfl,hS,hz,hO,hq⟩:=hsp;obtain⟨h',e⟩:=hrun ns hz;refine⟨[.ro (ns.map .int)],[],[],⟨rfl,.nil,λi o a e=>by simp at e,λi o e=>by simp at e⟩,.cons (.ro ?_ (Zmg ns)) .nil,?_⟩
 . rcases hS with hS|hS
   . rcases hS with hS|hS
     . rcases hO a with z|⟨o,xs,z⟩<;>(rw[z]at hS;cases hS)
     . exact .inl hS
   . exact .inr hS
 . show Fin _ _ H [] (run P (n+1) (O "law") [.ro (ns.map .int)] []) Q E;rw[e];exact λb H' μ' _ _ r=>by cases r;exact hq H'
def Zsc{K:Yk}(h:K.lookup a=Wn ⟨.type "tuple",od,.seq its n,sl⟩)(hz:its.size<=sizeLine)(r:Zj vs its.toList):SqT K H a vs:=
 .inr ⟨_,its,n,h,rfl,rfl,hz,r⟩
end IV
namespace IV
open PySem L2 PyProof.Rows
section
structure Chk(kl:Kl)(fs:List Str)(x q:Str)(fd:Fd)(st:Stmt):Prop where
 sc:FnScope fd.N fd.ps (ZQ st)
 hb:∀(kV doc pm:Yj) (an:Option Yi) (cdv ct:Yj) (us:List Yj),us.length=fd.ps.length->bindArgs (PySem.W.fnOf x q (ZdZ st) (Zb0 st) (ZQ st) .none kV doc pm an cdv ct) ⟨us,[]⟩=pure (fd.ps.zip us)
 ck:chkSs ⟨fd.N,ZQ st,fs,Wp,kl⟩ fd.body (Zb0 st)=Wp
variable {K:Yk}{h:YF}{mg:Str->Option Yj}{kl:Kl}{fs:List Str}{x q C:Str}{fd:Fd}{st:Stmt}{ca:Yi}{P:Pg}
def Chk.bd(c:Chk kl fs x q fd st)(F:Fun K x q st f fdd):BodyOk K kl fs x q fd st f fdd:=⟨F,c.sc,c.hb,c.ck⟩
def ZuU(K:Yk)(x:Str)(st:Stmt):Prop:=∃f fdd,Yl K Yd x=Wn (Wn (.ref f))/\Fun K x x st f fdd
def Zls(K:Yk)(ca:Yi)(x q:Str)(st:Stmt):Prop:=∃f fdd,YI K (.ref ca) x=Wn (Wn (.ref f))/\PySem.W.isFn K (.ref f)=Wp/\YZ K (.ref f)=Wp/\Fun K x q st f fdd
def ZrC(X:K.In h)(G:h.Ns Yd mg)(d:ZuU K x st)(c:Chk kl fs x x fd st):∃st f fdd,DefOk K mg kl fs x fd st f fdd:=by obtain⟨f,fdd,a,F⟩:=d;exact⟨st,f,fdd,c.bd F,YN X G a⟩
def Zrc(X:K.In h)(G:h.Ns Yd mg)(y:Yl K Yd C=Wn (Wn (.ref ca)))(cl:Cls K ca)(d:Zls K ca x q st)(c:Chk kl (P.tb.map (·.1)) x q fd st)(e:P.look (mnm C x)=Wn fd):∃a f fdd fd st q,mg C=Wn (.ref a)/\Cls K a/\Meth K a x f/\P.look (mnm C x)=Wn fd/\BodyOk K kl (P.tb.map (·.1)) x q fd st f fdd:=by obtain⟨f,fdd,u1,u2,u3,F⟩:=d;exact⟨ca,f,fdd,fd,st,q,YN X G y,cl,⟨u1,u2,u3⟩,e,c.bd F⟩
def ZoT(X:K.In h)(G:h.Ns Yd mg)(y:Yl K Yd C=Wn (Wn (.ref ca)))(m:PySem.W.makesIn K ca=Wp)(k:YZ K (.ref ca)=Wp)(d:Zls K ca (O "__init__") q st)(c:Chk kl (P.tb.map (·.1)) (O "__init__") q fd st)(e:P.look (mnm C (O "__init__"))=Wn fd):∃a f fdd fd st q,mg C=Wn (.ref a)/\Mk K a f/\P.look (mnm C (O "__init__"))=Wn fd/\BodyOk K kl (P.tb.map (·.1)) (O "__init__") q fd st f fdd:=by obtain⟨f,fdd,u1,u2,u3,F⟩:=d;exact⟨ca,f,fdd,fd,st,q,YN X G y,⟨m,u1,u2,k⟩,e,c.bd F⟩
end
section
noncomputable abbrev Ml:=Str×Str×Fd×Nat×Nat
variable {K:Yk}{h:YF}{mg:Str->Option Yj}{kl:Kl}{fs:List Str}{C:Str}{ca:Yi}{P:Pg}
theorem All.app{α:Type}{p:α->Prop}{b:List α}:∀{a:List α},All p a->All p b->All p (a++b)
 |[],_,hb=>hb
 |_::_,ha,hb=>⟨ha.1,ha.2.app hb⟩
theorem Zmn(X:K.In h)(G:h.Ns Yd mg){top:Nat->Stmt}:∀{l:List (Str×Fd×Nat)},All (λp=>ZuU K p.1 (top p.2.2)) l->All (λp=>Chk kl fs p.1 p.1 p.2.1 (top p.2.2)) l->All (λp:Str×Fd=>∃st f fdd,DefOk K mg kl fs p.1 p.2 st f fdd) (l.map λp=>(p.1,p.2.1))
 |[],_,_=>trivial
 |_::_,d,c=>⟨ZrC X G d.1 c.1,Zmn X G d.2 c.2⟩
theorem Ziv(X:K.In h)(G:h.Ns Yd mg)(y:Yl K Yd C=Wn (Wn (.ref ca)))(cl:Cls K ca){mt:Nat->Nat->Stmt}:∀{l:List Ml},All (λp=>Zls K ca p.1 p.2.1 (mt p.2.2.2.1 p.2.2.2.2)) l->All (λp=>Chk kl (P.tb.map (·.1)) p.1 p.2.1 p.2.2.1 (mt p.2.2.2.1 p.2.2.2.2)) l->All (λp=>P.look (mnm C p.1)=Wn p.2.2.1) l->All (λp:Str×Str=>∃a f fdd fd st q,mg p.1=Wn (.ref a)/\Cls K a/\Meth K a p.2 f/\P.look (mnm p.1 p.2)=Wn fd/\BodyOk K kl (P.tb.map (·.1)) p.2 q fd st f fdd) (l.map λp=>(C,p.1))
 |[],_,_,_=>trivial
 |_::_,d,c,e=>⟨Zrc X G y cl d.1 c.1 e.1,Ziv X G y cl d.2 c.2 e.2⟩
theorem Zjw(X:K.In h)(G:h.Ns Yd mg):∀{l:List Str},All (λx=>Yl K Yd x=Wn Wo) l->All (λx=>mg x=Wo) l
 |[],_=>trivial
 |_::_,d=>⟨PySem.W.mg_none_of X G d.1,Zjw X G d.2⟩
end
end IV
namespace IV
open PySem L2
set_option tactic.hygienic false
def Zis(h:Str.ofString a=Str.ofString b):a=b:=by
 have e:∀s:String,(Str.ofString s).cps.toList=s.toList.map Char.toNat:=λs=>by show(cpsOfBytes 0 0 s.toByteArray.data.toList).toArray.toList=_;rw[cpsOfBytes_string]
 have h1:=congrArg (λs:Str=>s.cps.toList) h;simp only[e]at h1;have h2:a.toList=b.toList:=by
  have inj:∀{x y:Char},x.toNat=y.toNat->x=y:=λ{x y} q=>by have:x.val=y.val:=UInt32.toNat_inj.mp q;exact Char.ext this
  exact(List.map_inj_right λx y q=>inj q).mp h1
 exact String.toList_inj.mp h2
@[simp] theorem ofString_eq(a b:String):(Str.ofString a=Str.ofString b)↔a=b:=⟨Zis,λh=>h ▸ rfl⟩
@[simp] theorem Zq7(a b:String):(Str.ofString a==Str.ofString b)=(a==b):=by rw[Bool.eq_iff_iff];simp
def Un(k:γ):Type:=Unit
noncomputable def un:Un k:=()
def R.bnd(r:R α)(k:α->Hd->R β)(u:Un k:=un):R β:=r.bind k
@[simp] theorem Zg:R.bnd (.ok a h) k u=k a h:=rfl
@[simp] theorem Zxg:R.bnd (R.bad:R α) k u=.bad:=rfl
section
variable {T:Tb}{S:Ev}{h:Hd}
@[simp] theorem bind_ok:(R.ok a h).bind k=k a h:=rfl
@[simp] theorem bind_bad:(R.bad:R α).bind k=.bad:=rfl
@[simp] theorem ofO_some:R.ofO (Wn a) h=.ok a h:=rfl
@[simp] theorem Zm1:(R.ok a h).plain=.ok a h:=rfl
@[simp] theorem Zpn{i}:ev T (.var i) S h=R.ofO (S[i]?).join h:=rfl
@[simp] theorem Zuw{d}:ev T (.cst d) S h=.ok d h:=rfl
@[simp] theorem Zpp{x}:ev T (.glo x) S h=R.ofO (T.G x) h:=rfl
@[simp] theorem Zpq{op a b}:ev T (.bin op a b) S h=(ev T a S h).bnd λx h1=>(ev T b S h1).bnd λy h2=>opB op x y h2:=rfl
@[simp] theorem Zux{op a b}:ev T (.cmp op a b) S h=(ev T a S h).bnd λx h1=>(ev T b S h1).bnd λy h2=>opC T.GD op x y h2:=rfl
@[simp] theorem Zx6{a}:ev T (.neg a) S h=(ev T a S h).bnd λx h1=>match x with
 |.int i=>.ok (.int (-i)) h1
 |_=>.bad:=rfl
@[simp] theorem Zyw{a}:ev T (.nt a) S h=(ev T a S h).bnd λx h1=>match x with
 |.bl b=>.ok (.bl (!b)) h1
 |_=>.bad:=rfl
@[simp] theorem ZiK{es}:ev T (.ands es) S h=evAnd T es S h:=rfl
@[simp] theorem Zut{es}:ev T (.ors es) S h=evOr T es S h:=rfl
@[simp] theorem ZuX{e}:evAnd T (.cons e .nil) S h=ev T e S h:=rfl
@[simp] theorem ZfB{e e' r}:evAnd T (.cons e (.cons e' r)) S h=(ev T e S h).bnd λx h1=>match x with
 |.bl Wp=>evAnd T (.cons e' r) S h1
 |.bl Wq=>.ok (.bl Wq) h1
 |_=>.bad:=rfl
@[simp] theorem ZwH{e}:evOr T (.cons e .nil) S h=ev T e S h:=rfl
@[simp] theorem Zpr{e e' r}:evOr T (.cons e (.cons e' r)) S h=(ev T e S h).bnd λx h1=>match x with
 |.bl Wp=>.ok (.bl Wp) h1
 |.bl Wq=>evOr T (.cons e' r) S h1
 |_=>.bad:=rfl
@[simp] theorem Zx8{c a b}:ev T (.ite c a b) S h=(tst T c S h).bnd λc h1=>if c then ev T a S h1 else ev T b S h1:=rfl
@[simp] theorem Zrz{es}:ev T (.tupl es) S h=(evs T es S h).bnd λxs h1=>if xs.length<=sizeLine then .ok (.tup xs) h1 else .bad:=rfl
@[simp] theorem Zmm{es}:ev T (.lstl es) S h=(evs T es S h).bnd λxs h1=>if xs.length<=sizeLine then Zba (.lst xs) h1 else .bad:=rfl
@[simp] theorem ZjX{a i}:ev T (.ix a i) S h=(ev T a S h).bnd λx h1=>(ev T i S h1).bnd λy h2=>Za8 T.GD x y h2:=rfl
@[simp] theorem ZwG{a lo hi}:ev T (.sl a lo hi) S h=(ev T a S h).bnd λx h1=>(evo T lo S h1).bnd λl h2=>(evo T hi S h2).bnd λu h3=>Zjt x l u h3:=rfl
@[simp] theorem Zuz{f es}:ev T (.blt f es) S h=(evs T es S h).bnd λxs h1=>Z0 T.GD f xs h1:=rfl
@[simp] theorem ZiJ{f es}:ev T (.call f es) S h=(evs T es S h).bnd λxs h1=>T.C f xs h1:=rfl
@[simp] theorem ZrA{m o es}:ev T (.meth m o es) S h=(ev T o S h).bnd λx h1=>if ZeY x h1 then(evs T es S h1).bnd λxs h2=>ZbF m x xs h2 else .bad:=rfl
@[simp] theorem ZiI{NC js it g c e}:ev T (.comp NC js it g c e) S h=(evi T it S h).bnd λw h1=>(Zz w.src g (tsto T c) (ev T e) w.xs (ZbI js S) [] h1).bnd λxs h2=>Zba (.lst xs) h2:=rfl
@[simp] theorem Zxf{e d}:ev T (.maxd e d) S h=(ev T e S h).bnd λx h1=>(ev T d S h1).bnd λy h2=>ZmF x y h2:=rfl
@[simp] theorem ZjY{ps}:ev T (.dictl ps) S h=(evs T ps S h).bnd λxs h1=>match Zcj xs with
 |some kvs=>if kvs.length<=15 then Zba (.dic (ZcK [] kvs)) h1 else .bad
 |none=>.bad:=rfl
@[simp] theorem Zg6{Cs o f}:ev T (.att Cs o f) S h=(ev T o S h).bnd λx h1=>Zeu Cs f x h1:=rfl
@[simp] theorem Zsr{C es}:ev T (.mk C es) S h=(evs T es S h).bnd λxs h1=>ZkP T.C C xs h1:=rfl
@[simp] theorem Zuu{C m o es}:ev T (.mcl C m o es) S h=(ev T o S h).bnd λx h1=>match ZR x h1 with
 |some (C',fs)=>if C'=C/\fs.lookup m=Wo then(evs T es S h1).bnd λxs h2=>T.C (mnm C m) (x::xs) h2 else .bad
 |none=>.bad:=rfl
@[simp] theorem Zxe{e}:ev T (.trev e) S h=(ev T e S h).bnd λx h1=>ZsA x h1:=rfl
@[simp] theorem Zuv{e}:ev T (.lrv e) S h=(ev T e S h).bnd λx h1=>ZwX x h1:=rfl
@[simp] theorem Zx3{o e}:ev T (.tix o e) S h=(ev T o S h).bnd λx h1=>if Zwr x then(ev T e S h1).bnd λy h2=>ZwV x y h2 else .bad:=rfl
@[simp] theorem Zx2{m o e}:ev T (.tmt m o e) S h=(ev T o S h).bnd λx h1=>if Zws x then(ev T e S h1).bnd λy h2=>txm m x y h2 else .bad:=rfl
@[simp] theorem Zx7{a b}:ev T (.lmu a b) S h=(ev T a S h).bnd λx h1=>(ev T b S h1).bnd λy h2=>ZwY x y h2:=rfl
@[simp] theorem Zx4{a b}:ev T (.sin a b) S h=(ev T a S h).bnd λx h1=>(ev T b S h1).bnd λy h2=>ZwW x y h2:=rfl
@[simp] theorem Zx1{e}:evi T (.tw e) S h=(ev T e S h).bnd λx h1=>match x with
 |.str y=>.ok ⟨[],y.cps.toList.map λc=>.str ⟨#[c]⟩⟩ h1
 |_=>.bad:=rfl
@[simp] theorem Zx9{a b}:ev T (.dne a b) S h=(ev T a S h).bnd λx h1=>(ev T b S h1).bnd λy h2=>ZwZ T.GD x y h2:=rfl
@[simp] theorem ZnH{Cs o f e}:xs1 T (.seta Cs o f e) S h=(ev T e S h).bnd λd h1=>(ev T o S h1).bnd λx h2=>(Zhq Cs f x d h2).bnd λ_ h3=>.ok (.nx,S) h3:=rfl
@[simp] theorem Zu0{Cs o f e}:xs1 T (.auga Cs o f e) S h=(ev T o S h).bnd λx h1=>(Zeu Cs f x h1).bnd λv h2=>(ev T e S h2).bnd λy h3=>match v,y with
 |.int a,.int b=>if (ZR x h1).map (·.1)=(ZR x h3).map (·.1)then(Zhq Cs f x (.int (a+b)) h3).bnd λ_ h4=>.ok (.nx,S) h4 else .bad
 |_,_=>.bad:=rfl
@[simp] theorem Zmk:evs T .nil S h=.ok [] h:=rfl
@[simp] theorem Zg4{e es}:evs T (.cons e es) S h=(ev T e S h).bnd λx h1=>(evs T es S h1).bnd λxs h2=>.ok (x::xs) h2:=rfl
@[simp] theorem ZwF:evo T Wo S h=.ok Wo h:=rfl
@[simp] theorem Zpm{e}:evo T (Wn e) S h=(ev T e S h).bnd λx h1=>match x with
 |.int i=>.ok (Wn i) h1
 |_=>.bad:=rfl
@[simp] theorem Zkt{e}:tst T (.ex e) S h=(ev T e S h).bnd λx h1=>R.ofO (Zen T.GD x h1) h1:=rfl
@[simp] theorem Zja{ts}:tst T (.ands ts) S h=tstAnd T ts S h:=rfl
@[simp] theorem Zie{ts}:tst T (.ors ts) S h=tstOr T ts S h:=rfl
@[simp] theorem Zgq{a}:tst T (.nt a) S h=(tst T a S h).bnd λc h1=>.ok (!c) h1:=rfl
@[simp] theorem ZsL{t}:tstAnd T (.one t) S h=tst T t S h:=rfl
@[simp] theorem ZfM{t ts}:tstAnd T (.cons t ts) S h=(tst T t S h).bnd λc h1=>if c then tstAnd T ts S h1 else .ok Wq h1:=rfl
@[simp] theorem ZmO{t}:tstOr T (.one t) S h=tst T t S h:=rfl
@[simp] theorem ZcE{t ts}:tstOr T (.cons t ts) S h=(tst T t S h).bnd λc h1=>if c then .ok Wp h1 else tstOr T ts S h1:=rfl
@[simp] theorem ZmN:tsto T Wo S h=.ok Wp h:=rfl
@[simp] theorem ZuW{t}:tsto T (Wn t) S h=tst T t S h:=rfl
@[simp] theorem Zla{e}:evi T (.pl e) S h=(ev T e S h).bnd λx h1=>R.ofO (ZaN x h1) h1:=rfl
@[simp] theorem Zml{e}:evi T (.rng e) S h=(ev T e S h).bnd λx h1=>match x with
 |.int j=>if Zas j then .ok ⟨[],ZY 0 j.toNat⟩ h1 else .bad
 |_=>.bad:=rfl
@[simp] theorem Zx5{a b}:ev T (.rpn a b) S h=(ev T a S h).bnd λx h1=>(shD x h1).bnd λp h1=>(ev T b S h1).bnd λy h2=>(shD y h2).bnd λq h3=>.ok (.bl (!Wt (p=q))) h3:=rfl
@[simp] theorem Zry{e}:evi T (.enu e) S h=(ev T e S h).bnd λx h1=>R.ofO ((ZhF x h1).map λw=>⟨w.src,Zds w.xs⟩) h1:=rfl
@[simp] theorem Zxd{e}:evi T (.rev e) S h=(ev T e S h).bnd λx h1=>R.ofO ((ZhE x h1).map λw=>⟨w.src,w.xs.reverse⟩) h1:=rfl
@[simp] theorem ZpZ{e}:xs1 T (.ret e) S h=(ev T e S h).bnd λx h1=>.ok (.rt x,S) h1:=rfl
@[simp] theorem Zgb{g e}:xs1 T (.set g e) S h=(ev T e S h).bnd λx h1=>(R.ofO (ZbJ g x S) h1).bnd λρ1 h2=>.ok (.nx,ρ1) h2:=rfl
@[simp] theorem Zid{o i e}:xs1 T (.put o i e) S h=(ev T e S h).bnd λx h1=>(ev T o S h1).bnd λy h2=>(ev T i S h2).bnd λz h3=>(Zau y z x h3).bnd λ_ h4=>.ok (.nx,S) h4:=rfl
@[simp] theorem Zlw{e}:xs1 T (.drp e) S h=(ev T e S h).bnd λ_ h1=>.ok (.nx,S) h1:=rfl
@[simp] theorem Zlv{c a b}:xs1 T (.iff c a b) S h=(tst T c S h).bnd λt h1=>if t then xs2 T a S h1 else xs2 T b S h1:=rfl
@[simp] theorem ZeH{c b}:xs1 T (.whl c b) S h=ZT (tst T c) (xs2 T b) T.L S h:=rfl
@[simp] theorem ZnI{g it b}:xs1 T (.forr g it b) S h=(evi T it S h).bnd λw h1=>Z3 w.src g (xs2 T b) w.xs S h1:=rfl
@[simp] theorem Zw9:xs2 T .nil S h=.ok (.nx,S) h:=rfl
@[simp] theorem Zgl{s r}:xs2 T (.cons s r) S h=(xs1 T s S h).bnd λp h1=>match p with
 |(.nx,ρ1)=>xs2 T r ρ1 h1
 |p=>.ok p h1:=rfl
def Za(e:xs1 T s S h=.ok (.nx,ρ1) h1):xs2 T (.cons s r) S h=xs2 T r ρ1 h1:=by rw[Zgl,e];rfl
def Zb(e:xs1 T s S h=.ok (.rt d,ρ1) h1):xs2 T (.cons s r) S h=.ok (.rt d,ρ1) h1:=by rw[Zgl,e];rfl
@[simp] theorem Zxh{i d}:ZbJ (.nm i) d S=Wn (S.set i (Wn d)):=rfl
@[simp] theorem ZpI{i j a b}:ZbJ (.two i j) (.tup [a,b]) S=Wn ((S.set i (Wn a)).set j (Wn b)):=rfl
@[simp] theorem ZxH:Ze (.ok (.rt d,S) h)=.ok d h:=rfl
@[simp] theorem ZxI:Ze (.ok (.nx,S) h)=.ok .non h:=rfl
end
@[simp] theorem ZhK:seqOf (.tup xs) h=Wn xs:=rfl
@[simp] theorem Zv0:Zio f (.int i) (.int j) h=.ok (.bl (f i j)) h:=rfl
section
variable {GD:Str->Option (List (Key×D))}{h:Hd}
@[simp] theorem Ziq{x y}:opC GD .Eq x y h=Zav Wq x y h:=rfl
@[simp] theorem ZoG{x y}:opC GD .NotEq x y h=Zav Wp x y h:=rfl
@[simp] theorem ZtH{i j}:opC GD .Lt (.int i) (.int j) h=.ok (.bl (Wt (i<j))) h:=rfl
@[simp] theorem ZoH{i j}:opC GD .LtE (.int i) (.int j) h=.ok (.bl (Wt (i<=j))) h:=rfl
@[simp] theorem ZxV{i j}:opC GD .Gt (.int i) (.int j) h=.ok (.bl (Wt (j<i))) h:=rfl
@[simp] theorem ZxW{i j}:opC GD .GtE (.int i) (.int j) h=.ok (.bl (Wt (j<=i))) h:=rfl
@[simp] theorem ZoJ{x}:opC GD .Is x .non h=.ok (.bl (Wt (x=.non))) h:=rfl
@[simp] theorem ZoI{x}:opC GD .IsNot x .non h=.ok (.bl (!Wt (x=.non))) h:=rfl
@[simp] theorem Zip{s n}:opC GD .NotIn (.str s) (.kd n) h=match GD n with
 |some kvs=>.ok (.bl (!(ZK kvs (.inr s)).isSome)) h
 |none=>.bad:=by
 show ZbU GD Wp (.str s) (.kd n) h=_;unfold ZbU;simp only[seqOf,lstOf,dicOf,keyOf];cases GD n<;>rfl
def Zgm(ss:List Str):(ss.map D.str).all D.flat=Wp:=by rw[OC];intro x hx;obtain⟨s,_,rfl⟩:=List.mem_map.mp hx;rfl
def any_words(ss:List Str)(x:Str):((ss.map D.str).any λz=>eqF z (.str x))=Wt (x∈ss):=by
 induction ss with
 |nil=>rfl
 |cons s r ih=>
  rw[Op,YY,ih];show((s==x) || Wt (x∈r))=_;by_cases e:s=x
  . subst e;simp
  . have:(s==x)=Wq:=by simpa using e
    rw[this];have e':¬ x=s:=λq=>e q.symm;simp[e']
def ZcH{ss:List Str}{x:Str}:opC GD .In (.str x) (.tup (ss.map .str)) h=.ok (.bl (Wt (x∈ss))) h:=by show ZbU GD Wq (.str x) (.tup (ss.map .str)) h=_;unfold ZbU;rw[ZhK];simp only[Zgm,any_words];rfl
def ZcY{ss:List Str}{x:Str}:opC GD .NotIn (.str x) (.tup (ss.map .str)) h=.ok (.bl (!Wt (x∈ss))) h:=by show ZbU GD Wp (.str x) (.tup (ss.map .str)) h=_;unfold ZbU;rw[ZhK];simp only[Zgm,any_words];rfl
@[simp] theorem ZvZ{xs i}:Za8 GD (.tup xs) (.int i) h=R.ofO (atI xs i) h:=rfl
@[simp] theorem Zxb{xs i}:Za8 GD (.ro xs) (.int i) h=R.ofO (atI xs i) h:=rfl
@[simp] theorem Zq0{n s}:Za8 GD (.kd n) (.str s) h=match GD n with
 |some kvs=>R.ofO (ZK kvs (.inr s)) h
 |none=>.bad:=rfl
def ZP{i k xs}(e:h[i]? = Wn (.lst xs)):Za8 GD (.ref i) (.int k) h=R.ofO (atI xs k) h:=by unfold Za8;simp only[seqOf,lstOf,e]
@[simp] theorem Zw2{α:Type}{x:α}{l:List α}:atI (x::l) 0=Wn x:=by simp[atI,ixN]
def Zce{α:Type}{l:List α}{k:Nat}:atI l (k:Int)=l[k]? := by
 unfold atI ixN;by_cases hk:k<l.length
 . simp[hk]
 . simp[hk]
@[simp] theorem Zyz{α:Type}{x y:α}{l:List α}:atI (x::y::l) 1=Wn y:=Zce (k:=1)
@[simp] theorem Zyy{α:Type}{x y z:α}{l:List α}:atI (x::y::z::l) 2=Wn z:=Zce (k:=2)
@[simp] theorem Zyx{α:Type}{x y z w:α}{l:List α}:atI (x::y::z::w::l) 3=Wn w:=Zce (k:=3)
def ZpS{α:Type}{l:List α}{x:α}:atI (l++[x]) (-1)=Wn x:=by
 unfold atI ixN;rw[if_neg (by decide),if_pos (by simp;lia)];have:(-1+((l++[x]).length:Int)).toNat=l.length:=by simp;lia
 simp only[Yy,this];simp
@[simp] theorem ZvY{xs l u}:Zjt (.tup xs) l u h=.ok (.tup (cutD xs l u)) h:=rfl
@[simp] theorem Zxa{b}:Zen GD (.bl b) h=Wn b:=rfl
@[simp] theorem Zvc{i}:Zen GD (.int i) h=Wn (i != 0):=rfl
@[simp] theorem Zva{xs}:Zen GD (.tup xs) h=Wn (!xs.isEmpty):=rfl
@[simp] theorem Zvb:Zen GD .non h=Wn Wq:=rfl
@[simp] theorem Zq4{i j}:opB .Add (.int i) (.int j) h=.ok (.int (i+j)) h:=rfl
@[simp] theorem Zxc{i j}:opB .Sub (.int i) (.int j) h=.ok (.int (i - j)) h:=rfl
def ZN(hj:0<j):opB .Mod (.int i) (.int j) h=.ok (.int (i % j)) h:=if_pos hj
def ZcI(hj:0<j/\j<1073741824):opB .FloorDiv (.int i) (.int j) h=.ok (.int (i / j)) h:=if_pos hj
def ZeR(hj:i.natAbs<2 ^ 2000/\j.natAbs<2 ^ 2000):opB .Mult (.int i) (.int j) h=.ok (.int (i * j)) h:=if_pos hj
def Zir(hl:xs.length+ys.length<=sizeLine):opB .Add (.tup xs) (.tup ys) h=.ok (.tup (xs++ys)) h:=if_pos hl
@[simp] theorem ZeQ:Zav n (.str x) (.str y) h=.ok (.bl (if n then !Wt (x=y)else Wt (x=y))) h:=by
 have e:YO (.str x) (.str y)=Wt (x=y):=by show(x==y)=_;rw[Bool.beq_eq_decide_eq]
 have q:Zav n (.str x) (.str y) h=if min (PyData.str x).depth (PyData.str y).depth<=1100 then .ok (.bl (if n then !YO (.str x) (.str y)else YO (.str x) (.str y))) h else .bad:=rfl;rw[q,if_pos (by simp[PyData.depth]),e]
@[simp] theorem ZoF:Zav n (.int x) (.int y) h=.ok (.bl (if n then !Wt (x=y)else Wt (x=y))) h:=by
 have e:YO (.int x) (.int y)=Wt (x=y):=by show(x==y)=_;rw[Bool.beq_eq_decide_eq]
 have q:Zav n (.int x) (.int y) h=if min (PyData.int x).depth (PyData.int y).depth<=1100 then .ok (.bl (if n then !YO (.int x) (.int y)else YO (.int x) (.int y))) h else .bad:=rfl;rw[q,if_pos (by simp[PyData.depth]),e]
end
def Zd(e:P.tb.lookup f=Wn fd)(hl:ds.length=fd.ps.length):run P (n+1) f ds h=Ze (xs2 ⟨P.G,P.GD,run P n,P.L⟩ fd.body (ZB fd.N ds) h):=by rw[run,show P.look f=Wn fd by unfold Pg.look;rw[e]];simp only;rw[if_pos hl]
def Zep(hn:P.tb.lookup f=Wo)(e:P.ms.lookup f=Wn fd)(hl:ds.length=fd.ps.length):run P (n+1) f ds h=Ze (xs2 ⟨P.G,P.GD,run P n,P.L⟩ fd.body (ZB fd.N ds) h):=by rw[run,show P.look f=Wn fd by unfold Pg.look;rw[hn];exact e];simp only;rw[if_pos hl]
section
variable {h:Hd}{x y z w:DO}{r:List DO}
@[simp] theorem ZaH:(h++x::r)[h.length]? = Wn x:=by simp
@[simp] theorem ZrV:(h++x::y::r)[h.length+1]? = Wn y:=by simp
@[simp] theorem Zyp:(h++x::y::z::r)[h.length+2]? = Wn z:=by simp
@[simp] theorem ZvM:(h++x::r).set h.length o=h++o::r:=by simp
end
@[simp] theorem Zra:Zba o h=.ok (.ref h.length) (h++[o]):=rfl
section
variable {h:Hd}
def ZbE(e:h[i]? = Wn (.lst ys))(hz:ys.length<sizeLine):ZbF .app (.ref i) [d] h=.ok .non (h.set i (.lst (ys++[d]))):=by simp only[ZbF,e,Zf3,ZoX];rw[if_pos hz]
def ZeS(e:h[i]? = Wn (.lst (ys++[d]))):ZbF .pop (.ref i) [] h=.ok d (h.set i (.lst ys)):=by simp only[ZbF,e,Zf3,Zrf];simp
def Zby(e:h[i]? = Wn (.lst ys)):ZeY (.ref i) h=Wp:=by simp[ZeY,e]
def Zp8(e:h[i]? = Wn (.lst ys)):Zen GD (.ref i) h=Wn (!ys.isEmpty):=by simp[Zen,e]
@[simp] theorem ZwC:Z3 [] g body [] S h=.ok (.nx,S) h:=rfl
def ZdX:Z3 [] g body (d::ds) S h=match ZbJ g d S with
 |none=>.bad
 |some ρ1=>(body ρ1 h).bnd λp h2=>match p with
  |(.nx,ρ2)=>Z3 [] g body ds ρ2 h2
  |(.ct,ρ2)=>Z3 [] g body ds ρ2 h2
  |(.bk,ρ2)=>.ok (.nx,ρ2) h2
  |(.rt d,ρ2)=>.ok (.rt d,ρ2) h2:=rfl
def ZaP:Zz src g test elt (d::ds) S acc h=if Wk.stays src h/\acc.length<sizeLine then match ZbJ g d S with
 |none=>.bad
 |some ρ1=>(test ρ1 h).plain.bnd λb h1=>if b then(elt ρ1 h1).plain.bnd λx h2=>Zz src g test elt ds S (acc++[x]) h2 else Zz src g test elt ds S acc h1
 else .bad:=rfl
def Za1:ZT test body (n+1) S h=(test S h).bnd λb h1=>if b then(body S h1).bnd λp h2=>match p with
 |(.nx,ρ2)=>ZT test body n ρ2 h2
 |(.ct,ρ2)=>ZT test body n ρ2 h2
 |(.bk,ρ2)=>.ok (.nx,ρ2) h2
 |(.rt d,ρ2)=>.ok (.rt d,ρ2) h2
 else .ok (.nx,S) h1:=rfl
end
inductive Wd where
 |add|sub|mul|lt
 deriving DecidableEq
noncomputable def Wd.s:Wd->Str
 |.add=>O "+"
 |.sub=>O "-"
 |.mul=>O "*"
 |.lt=>O "<"
inductive T where
 |num (n:Int)|name (x:Str)|fn (x:Str) (e:T)|rcc (f x:Str) (e:T)|call (f a:T)|iff (c t e:T)|op (w:Wd) (a b:T)
noncomputable def T.d:T->D
 |.num n=>.tup [.str (O "num"),.int n]
 |.name x=>.tup [.str (O "name"),.str x]
 |.fn x e=>.tup [.str (O "fn"),.str x,e.d]
 |.rcc f x e=>.tup [.str (O "rec"),.str f,.str x,e.d]
 |.call f a=>.tup [.str (O "call"),f.d,a.d]
 |.iff c t e=>.tup [.str (O "if"),c.d,t.d,e.d]
 |.op w a b=>.tup [.str w.s,a.d,b.d]
noncomputable def T.parts:T->List T
 |.num _|.name _=>[]
 |.fn _ e|.rcc _ _ e=>[e]
 |.call f a=>[f,a]
 |.iff c t e=>[c,t,e]
 |.op _ a b=>[a,b]
noncomputable def T.places:T->List T
 |.num n=>[.num n]
 |.name x=>[.name x]
 |.fn x e=>.fn x e::e.places
 |.rcc f x e=>.rcc f x e::e.places
 |.call f a=>.call f a::(f.places++a.places)
 |.iff c t e=>.iff c t e::(c.places++(t.places++e.places))
 |.op w a b=>.op w a b::(a.places++b.places)
noncomputable def T.size(t:T):Nat:=t.places.length
def T.places_parts(t:T):t.places=t::t.parts.flatMap T.places:=by cases t<;>simp[T.places,T.parts]
set_option tactic.hygienic true
section
variable {U:Tb}{S:Ev}{h h1:Hd}{f:Str}{as:List D}{r:R D}
noncomputable abbrev Tb.say(U:Tb)(r:R D):Tb:=⟨U.G,U.GD,λ_ _ _=>r,U.L⟩
def ZaC(e:U.C f as h1=r)(q:xs1 U s S h=xs1 (U.say (U.C f as h1)) s S h)(z:xs1 (U.say r) s S h=y):xs1 U s S h=y:=by rw[q,e,z]
def Zu(e:tst U c S h=.ok Wp h1):xs1 U (.iff c a b) S h=xs2 U a S h1:=by rw[Zlv,e];rfl
def Zs(e:tst U c S h=.ok Wq h1):xs1 U (.iff c a b) S h=xs2 U b S h1:=by rw[Zlv,e];rfl
def Zm(q:ev U e S h=.ok d h1):xs1 U (.ret e) S h=.ok (.rt d,S) h1:=by rw[ZpZ,q];rfl
def Zl(q:ev U e S h=.ok d h1):xs1 U (.set (.nm i) e) S h=.ok (.nx,S.set i (Wn d)) h1:=by rw[Zgb,q];rfl
def ZgS(q:evi U it S h=.ok w h1):xs1 U (.forr g it b) S h=Z3 w.src g (xs2 U b) w.xs S h1:=by rw[ZnI,q];rfl
def Zt(p:ev U a S h=.ok x h1)(q:ev U b S h1=.ok y h2):ev U (.bin op a b) S h=opB op x y h2:=by rw[Zpq,p];simp only[Zg,q]
def Zn(p:ev U a S h=.ok x h1)(q:ev U b S h1=.ok y h2):ev U (.cmp op a b) S h=opC U.GD op x y h2:=by rw[Zux,p];simp only[Zg,q]
def Zaz(q:ev U e S h=.ok (.bl b) h1):tst U (.ex e) S h=.ok b h1:=by rw[Zkt,q];rfl
def Zq{b c:Bool}{y:R Bool}(q:y=.ok b h1)(e:b=c):y=.ok c h1:=e ▸ q
noncomputable def hdS:Sxs->Sx
 |.cons s _=>s
 |.nil=>.pas
noncomputable def tlS:Sxs->Sxs
 |.cons _ r=>r
 |.nil=>.nil
def rt1(e:xs1 U (hdS ss) S h=.ok (.rt d,ρ1) h2)(hs:ss=.cons (hdS ss) (tlS ss)):Ze (xs2 U ss S h)=.ok d h2:=by rw[hs,Zb e];rfl
def nx1(e:xs1 U (hdS ss) S h=.ok (.nx,ρ1) h2)(hs:ss=.cons (hdS ss) (tlS ss)):xs2 U ss S h=xs2 U (tlS ss) ρ1 h2:=by rw[hs,Za e];rfl
def Zc(p:ev U a S h=.ok x h1)(q:evs U es S h1=.ok xs h2):evs U (.cons a es) S h=.ok (x::xs) h2:=by rw[Zg4,p,Zg,q];rfl
def Zuy(p:evs U es S h=.ok xs h1):ev U (.call g es) S h=U.C g xs h1:=by rw[ZiJ,p];rfl
def Zkb(a:atI xs z=Wn d)(p:evs U es S h=.ok xs h)(q:ev U e S (h++[.lst xs])=.ok (.int z) (h++[.lst xs]))(hz:xs.length<=1000):ev U (.ix (.lstl es) e) S h=.ok d (h++[.lst xs]):=by rw[ZjX,Zmm,p,Zg,if_pos (OE hz (by decide)),Zra,Zg,q,Zg,ZP (xs:=xs) (by simp),a];rfl
def Zo(e:U.C g xs h1=y)(p:evs U es S h=.ok xs h1):ev U (.call g es) S h=y:=(Zuy p).trans e
def ZaA(p:evs U es S h=.ok xs h1)(hz:xs.length<=1000):ev U (.tupl es) S h=.ok (.tup xs) h1:=by rw[Zrz,p,Zg,if_pos (OE hz (by decide))]
def Zwq(p:ev U e S h=.ok x h1)(n:x≠.non):tst U (.ex (.cmp .Is e (.cst .non))) S h=.ok Wq h1:=Zaz ((Zn p rfl).trans (by rw[ZoJ,decide_eq_false n]))
def Zwp(p:ev U e S h=.ok .non h1):tst U (.ex (.cmp .Is e (.cst .non))) S h=.ok Wp h1:=Zaz ((Zn p rfl).trans (by rw[ZoJ,decide_eq_true rfl]))
def Zcu(p:ev U a S h=.ok (.str x) h1)(q:ev U b S h1=.ok (.str y) h2):tst U (.ex (.cmp .Eq a b)) S h=.ok (Wt (x=y)) h2:=Zaz ((Zn p q).trans (by rw[Ziq,ZeQ];rfl))
def ZfC(p:ev U a S h=.ok (.int x) h1)(q:ev U b S h1=.ok (.int y) h2):tst U (.ex (.cmp .Eq a b)) S h=.ok (Wt (x=y)) h2:=Zaz ((Zn p q).trans (by rw[Ziq,ZoF];rfl))
def ZD(p:ev U a S h=.ok x h1)(q:ev U b S h1=.ok y h2):ev U (.ix a b) S h=Za8 U.GD x y h2:=by rw[ZjX,p,Zg,q,Zg]
def ZpW(p:tst U a S h=.ok Wp h1)(q:tst U b S h1=.ok c h2):tst U (.ands (.cons a (.one b))) S h=.ok c h2:=by rw[Zja,ZfM,p];exact q
def ZsB(p:tst U a S h=.ok Wq h1):tst U (.ands (.cons a (.one b))) S h=.ok Wq h1:=by rw[Zja,ZfM,p];rfl
def Zty(p:tst U a S h=.ok Wp h1):tst U (.ors (.cons a (.one b))) S h=.ok Wp h1:=by rw[Zie,ZcE,p];rfl
def ZkH(p:tst U a S h=.ok Wq h1)(q:tst U b S h1=.ok c h2):tst U (.ors (.cons a (.one b))) S h=.ok c h2:=by rw[Zie,ZcE,p];exact q
end
end IV
namespace Gn
open PySem L2 IV
set_option tactic.hygienic false
def ZbK:Sxs:=(.c (.iff (.ex (.cmp .NotIn (.ix (.v 0) (.ci 0)) (.glo (O "FORMS")))) (.c (.ret (.tupl .n)) .n) .n) (.c (.ret (.sl (.v 0) (Wn (.bin .Add (.ci 1) (.ix (.ix (.glo (O "FORMS")) (.ix (.v 0) (.ci 0))) (.ci 0)))) Wo)) .n))
def ZgW:Fd:=⟨[(O "E")],[(O "E")],ZbK⟩
def Zkd:Sxs:=(.c (.set (.nm 1) (.lstl .n)) (.c (.set (.nm 2) (.lstl (.c (.v 0) .n))) (.c (.whl (.ex (.v 2)) (.c (.set (.nm 3) (.meth .pop (.v 2) .n)) (.c (.drp (.meth .app (.v 1) (.c (.v 3) .n))) (.c (.forr (.nm 4) (.rev (.call (O "parts_of") (.c (.v 3) .n))) (.c (.drp (.meth .app (.v 2) (.c (.v 4) .n))) .n)) .n)))) (.c (.ret (.v 1)) .n))))
def Ze5:Fd:=⟨[(O "E")],[(O "E"),(O "found"),(O "waiting"),(O "place"),(O "part")],Zkd⟩
def Zcp:Sxs:=(.c (.iff (.ex (.cmp .Lt (.v 1) (.blt .len (.c (.v 0) .n)))) (.c (.ret (.ix (.v 0) (.v 1))) .n) .n) (.c (.ret (.ci 0)) .n))
def ZaZ:Fd:=⟨[(O "_law_script"),(O "_law_k")],[(O "_law_script"),(O "_law_k")],Zcp⟩
def Zf1:Sxs:=(.c (.set (.nm 2) (.bin .Add (.bin .Pow (.ci 10) (.ci 30)) (.ci 57))) (.c (.set (.nm 3) (.bin .Mult (.bin .Mod (.v 0) (.v 2)) (.ci 271828182845904523536028747135))) (.c (.set (.nm 3) (.bin .Add (.v 3) (.bin .Mult (.bin .Mult (.v 1) (.v 1)) (.ci 314159265358979323846264338327)))) (.c (.ret (.bin .Mod (.bin .Add (.v 3) (.ci 577215664901532860606512090082)) (.v 2))) .n))))
def Zdp:Fd:=⟨[(O "_law_cell"),(O "_law_k")],[(O "_law_cell"),(O "_law_k"),(O "_law_big"),(O "_law_number_here")],Zf1⟩
def Zez:Sxs:=(.c (.set (.nm 1) (.ix (.v 0) (.ci 1))) (.c (.put (.v 0) (.ci 1) (.bin .Add (.v 1) (.ci 1))) (.c (.iff (.ex (.cmp .Lt (.v 1) (.blt .len (.c (.ix (.v 0) (.ci 0)) .n)))) (.c (.ret (.ix (.ix (.v 0) (.ci 0)) (.v 1))) .n) .n) (.c (.ret (.call (O "_law_mixed") (.c (.v 1) (.c (.ci 7) .n)))) .n))))
def ZgY:Fd:=⟨[(O "_law_state")],[(O "_law_state"),(O "_law_at")],Zez⟩
def Zf0:Sxs:=(.c (.set (.nm 1) (.Ci_ "abcdefghijklmnopqrstuvwxyz")) (.c (.set (.nm 2) (.bin .Add (.ci 1) (.bin .Mod (.v 0) (.ci 8)))) (.c (.set (.nm 3) (.bin .Mod (.bin .FloorDiv (.v 0) (.ci 8)) (.v 2))) (.c (.set (.nm 4) (.bin .FloorDiv (.v 0) (.ci 64))) (.c (.set (.nm 5) (.Ci_ "")) (.c (.forr (.nm 6) (.rng (.ci 8)) (.c (.set (.nm 5) (.bin .Add (.v 5) (.ix (.v 1) (.bin .Mod (.v 4) (.ci 26))))) (.c (.set (.nm 4) (.bin .FloorDiv (.v 4) (.ci 26))) .n))) (.c (.set (.nm 7) (.lstl .n)) (.c (.forr (.nm 6) (.rng (.ci 5)) (.c (.set (.nm 8) (.ix (.v 1) (.bin .Mod (.bin .Add (.v 4) (.bin .Mult (.ci 5) (.v 6))) (.ci 26)))) (.c (.set (.nm 9) (.bin .Add (.bin .Add (.sl (.v 5) Wo (Wn (.v 3))) (.v 8)) (.sl (.v 5) (Wn (.bin .Add (.v 3) (.ci 1))) (Wn (.v 2))))) (.c (.iff (.ex (.cmp .Eq (.bin .Mod (.bin .FloorDiv (.v 4) (.ci 26)) (.ci 4)) (.ci 1))) (.c (.set (.nm 9) (.sl (.v 5) Wo (Wn (.bin .Sub (.ci 8) (.v 6))))) .n) .n) (.c (.iff (.ex (.cmp .In (.v 9) (.tupl (.c (.Ci_ "fn") (.c (.Ci_ "rec") (.c (.Ci_ "call") (.c (.Ci_ "if") .n))))))) (.c (.set (.nm 9) (.bin .Mult (.Ci_ "q") (.blt .len (.c (.v 9) .n)))) .n) .n) (.c (.drp (.meth .app (.v 7) (.c (.v 9) .n))) .n)))))) (.c (.ret (.v 7)) .n)))))))))
def Zdo:Fd:=⟨[(O "_law_number_here")],[(O "_law_number_here"),(O "_law_letters"),(O "_law_long"),(O "_law_place"),(O "_law_rest"),(O "_law_base"),(O "_law_k"),(O "_law_found"),(O "_law_sign"),(O "_law_word")],Zf0⟩
def ZfZ:Sxs:=(.c (.set (.nm 2) (.dictl .n)) (.c (.forr (.two 3 4) (.pl (.v 0)) (.c (.put (.v 2) (.v 3) (.v 4)) .n)) (.c (.ret (.comp [(O "_law_name"),(O "_law_wish"),(O "_law_known")] [Wo,Wn 1,Wn 2] (.pl (.blt .srt (.c (.v 2) .n))) (.nm 0) (Wn (.ex (.cmp .Eq (.ix (.v 2) (.v 0)) (.v 1)))) (.v 0))) .n)))
def Zdn:Fd:=⟨[(O "_law_scope"),(O "_law_wish")],[(O "_law_scope"),(O "_law_wish"),(O "_law_known"),(O "_law_name"),(O "_law_held")],ZfZ⟩
def Zaq:Sxs:=(.c (.iff (.ex (.cmp .Eq (.v 0) (.Ci_ "n"))) (.c (.ret (.tupl (.c (.Ci_ "num") (.c (.ix (.lstl (.c (.ci 0) (.c (.ci 1) (.c (.ci 2) (.c (.bin .Mod (.bin .FloorDiv (.v 1) (.ci 7)) (.ci 1000000)) .n))))) (.bin .Mod (.v 1) (.ci 4))) .n)))) .n) .n) (.c (.iff (.ex (.cmp .Eq (.v 0) (.Ci_ "f"))) (.c (.ret (.tupl (.c (.Ci_ "fn") (.c (.Ci_ "w") (.c (.tupl (.c (.Ci_ "-") (.c (.tupl (.c (.Ci_ "name") (.c (.Ci_ "w") .n))) (.c (.tupl (.c (.Ci_ "num") (.c (.bin .Mod (.v 1) (.ci 3)) .n))) .n)))) .n))))) .n) .n) (.c (.ret (.tupl (.c (.Ci_ "fn") (.c (.Ci_ "w") (.c (.tupl (.c (.Ci_ "call") (.c (.tupl (.c (.Ci_ "name") (.c (.Ci_ "w") .n))) (.c (.tupl (.c (.Ci_ "num") (.c (.bin .Mod (.v 1) (.ci 5)) .n))) .n)))) .n))))) .n)))
def ZfS:Fd:=⟨[(O "_law_wish"),(O "_law_number_here")],[(O "_law_wish"),(O "_law_number_here")],Zaq⟩
def ZaU:Sx:=(.set (.nm 6) (.ix (.v 4) (.bin .Mod (.v 1) (.ci 5))))
def Zac:Sx:=(.iff (.ex (.cmp .Eq (.v 0) (.Ci_ "g"))) (.c (.ret (.tupl (.c (.Ci_ "fn") (.c (.v 6) (.c (.call (O "_law_any") (.c (.Ci_ "n") (.c (.bin .Add (.v 2) (.lstl (.c (.tupl (.c (.v 6) (.c (.Ci_ "f") .n))) .n))) (.c (.v 3) (.c (.v 4) (.c (.v 5) .n)))))) .n))))) .n) .n)
def Zab:Sx:=(.iff (.ex (.cmp .Eq (.bin .Mod (.bin .FloorDiv (.v 1) (.ci 5)) (.ci 3)) (.ci 0))) (.c (.ret (.tupl (.c (.Ci_ "fn") (.c (.v 6) (.c (.call (O "_law_any") (.c (.Ci_ "n") (.c (.bin .Add (.v 2) (.lstl (.c (.tupl (.c (.v 6) (.c (.Ci_ "n") .n))) .n))) (.c (.v 3) (.c (.v 4) (.c (.v 5) .n)))))) .n))))) .n) .n)
def ZaT:Sx:=(.set (.nm 7) (.ix (.v 4) (.bin .Mod (.bin .Add (.bin .Add (.bin .Mod (.v 1) (.ci 5)) (.ci 1)) (.bin .Mod (.bin .FloorDiv (.v 1) (.ci 15)) (.ci 4))) (.ci 5))))
def ZaS:Sx:=(.set (.nm 8) (.bin .Add (.v 2) (.lstl (.c (.tupl (.c (.v 7) (.c (.Ci_ "f") .n))) (.c (.tupl (.c (.v 6) (.c (.Ci_ "n") .n))) .n)))))
def ZaR:Sx:=(.set (.nm 9) (.tupl (.c (.Ci_ "call") (.c (.tupl (.c (.Ci_ "name") (.c (.v 7) .n))) (.c (.tupl (.c (.Ci_ "-") (.c (.tupl (.c (.Ci_ "name") (.c (.v 6) .n))) (.c (.tupl (.c (.Ci_ "num") (.c (.ci 1) .n))) .n)))) .n)))))
def Zaa:Sx:=(.iff (.ex (.cmp .Eq (.bin .Mod (.bin .FloorDiv (.v 1) (.ci 60)) (.ci 3)) (.ci 0))) (.c (.set (.nm 9) (.call (O "_law_any") (.c (.Ci_ "n") (.c (.v 8) (.c (.v 3) (.c (.v 4) (.c (.v 5) .n))))))) .n) (.c (.iff (.ex (.cmp .Eq (.bin .Mod (.bin .FloorDiv (.v 1) (.ci 60)) (.ci 3)) (.ci 1))) (.c (.set (.nm 9) (.tupl (.c (.ix (.lstl (.c (.Ci_ "+") (.c (.Ci_ "*") .n))) (.bin .Mod (.bin .FloorDiv (.v 1) (.ci 180)) (.ci 2))) (.c (.call (O "_law_any") (.c (.Ci_ "n") (.c (.v 8) (.c (.v 3) (.c (.v 4) (.c (.bin .Sub (.v 5) (.ci 1)) .n)))))) (.c (.v 9) .n))))) .n) .n) .n))
def Z9:Sx:=(.ret (.tupl (.c (.Ci_ "rec") (.c (.v 7) (.c (.v 6) (.c (.tupl (.c (.Ci_ "if") (.c (.tupl (.c (.Ci_ "name") (.c (.v 6) .n))) (.c (.v 9) (.c (.call (O "_law_any") (.c (.Ci_ "n") (.c (.v 8) (.c (.v 3) (.c (.v 4) (.c (.bin .Sub (.v 5) (.ci 1)) .n)))))) .n))))) .n))))))
def Zhh:Sxs:=(.c ZaU (.c Zac (.c Zab (.c ZaT (.c ZaS (.c ZaR (.c Zaa (.c Z9 .n))))))))
def Zdq:Fd:=⟨[(O "_law_wish"),(O "_law_rest"),(O "_law_scope"),(O "_law_state"),(O "_law_names_here"),(O "_law_room")],[(O "_law_wish"),(O "_law_rest"),(O "_law_scope"),(O "_law_state"),(O "_law_names_here"),(O "_law_room"),(O "_law_x"),(O "_law_f"),(O "_law_inner"),(O "_law_again")],Zhh⟩
def ZdD:Sx:=(.set (.nm 5) (.bin .Mod (.v 0) (.ci 6)))
def ZbM:Sx:=(.iff (.ex (.cmp .Eq (.v 5) (.ci 0))) (.c (.ret (.call (O "_law_plain") (.c (.Ci_ "n") (.c (.bin .FloorDiv (.v 0) (.ci 6)) .n)))) .n) .n)
def ZbL:Sx:=(.iff (.ex (.cmp .Lt (.v 5) (.ci 3))) (.c (.set (.nm 6) (.call (O "_law_any") (.c (.Ci_ "n") (.c (.v 1) (.c (.v 2) (.c (.v 3) (.c (.v 4) .n))))))) (.c (.ret (.tupl (.c (.ix (.lstl (.c (.Ci_ "+") (.c (.Ci_ "-") (.c (.Ci_ "*") (.c (.Ci_ "<") .n))))) (.bin .Mod (.bin .FloorDiv (.v 0) (.ci 6)) (.ci 4))) (.c (.v 6) (.c (.call (O "_law_any") (.c (.Ci_ "n") (.c (.v 1) (.c (.v 2) (.c (.v 3) (.c (.v 4) .n)))))) .n))))) .n)) .n)
def ZdC:Sx:=(.set (.nm 7) (.ix (.lstl (.c (.Ci_ "f") (.c (.Ci_ "f") (.c (.Ci_ "g") .n)))) (.bin .Sub (.v 5) (.ci 3))))
def ZdB:Sx:=(.set (.nm 8) (.call (O "_law_any") (.c (.v 7) (.c (.v 1) (.c (.v 2) (.c (.v 3) (.c (.v 4) .n)))))))
def ZdA:Sx:=(.ret (.tupl (.c (.Ci_ "call") (.c (.v 8) (.c (.call (O "_law_any") (.c (.ix (.dictl (.c (.Ci_ "f") (.c (.Ci_ "n") (.c (.Ci_ "g") (.c (.Ci_ "f") .n))))) (.v 7)) (.c (.v 1) (.c (.v 2) (.c (.v 3) (.c (.v 4) .n)))))) .n)))))
def ZcP:Sxs:=(.c ZdD (.c ZbM (.c ZbL (.c ZdC (.c ZdB (.c ZdA .n))))))
def Ze6:Fd:=⟨[(O "_law_rest"),(O "_law_scope"),(O "_law_state"),(O "_law_names_here"),(O "_law_room")],[(O "_law_rest"),(O "_law_scope"),(O "_law_state"),(O "_law_names_here"),(O "_law_room"),(O "_law_way"),(O "_law_one"),(O "_law_wish"),(O "_law_fun")],ZcP⟩
def Za7:Sx:=(.put (.v 2) (.ci 2) (.bin .Sub (.ix (.v 2) (.ci 2)) (.ci 1)))
def Zcb:Sx:=(.set (.nm 5) (.call (O "_law_next") (.c (.v 2) .n)))
def Za6:Sx:=(.iff (.ex (.cmp .Eq (.bin .Mod (.v 5) (.ci 29)) (.ci 0))) (.c (.set (.nm 0) (.ix (.lstl (.c (.Ci_ "n") (.c (.Ci_ "f") (.c (.Ci_ "g") .n)))) (.bin .Mod (.bin .FloorDiv (.v 5) (.ci 29)) (.ci 3)))) .n) .n)
def Zca:Sx:=(.set (.nm 6) (.bin .FloorDiv (.v 5) (.ci 87)))
def Za5:Sx:=(.set (.nm 7) (.call (O "_law_there") (.c (.v 1) (.c (.v 0) .n))))
def Za4:Sx:=(.iff (.ands (.c (.ex (.cmp .NotEq (.v 7) (.lstl .n))) (.one (.ex (.cmp .Eq (.bin .Mod (.v 6) (.ci 3)) (.ci 0)))))) (.c (.ret (.tupl (.c (.Ci_ "name") (.c (.ix (.v 7) (.bin .Mod (.bin .FloorDiv (.v 6) (.ci 3)) (.blt .len (.c (.v 7) .n)))) .n)))) .n) .n)
def Zar:Sx:=(.iff (.ors (.c (.ex (.cmp .Lt (.v 4) (.ci 1))) (.one (.ex (.cmp .Lt (.ix (.v 2) (.ci 2)) (.ci 0)))))) (.c (.ret (.call (O "_law_plain") (.c (.v 0) (.c (.bin .FloorDiv (.v 6) (.ci 3)) .n)))) .n) .n)
def Zb9:Sx:=(.set (.nm 6) (.bin .FloorDiv (.v 6) (.ci 30)))
def Za3:Sx:=(.iff (.ex (.cmp .Eq (.bin .Mod (.v 6) (.ci 8)) (.ci 0))) (.c (.set (.nm 8) (.call (O "_law_any") (.c (.Ci_ "n") (.c (.v 1) (.c (.v 2) (.c (.v 3) (.c (.bin .Sub (.v 4) (.ci 1)) .n))))))) (.c (.set (.nm 9) (.call (O "_law_any") (.c (.v 0) (.c (.v 1) (.c (.v 2) (.c (.v 3) (.c (.bin .Sub (.v 4) (.ci 1)) .n))))))) (.c (.ret (.tupl (.c (.Ci_ "if") (.c (.v 8) (.c (.v 9) (.c (.call (O "_law_any") (.c (.v 0) (.c (.v 1) (.c (.v 2) (.c (.v 3) (.c (.bin .Sub (.v 4) (.ci 1)) .n)))))) .n)))))) .n))) .n)
def ZaD:Sx:=(.iff (.ex (.cmp .Eq (.v 0) (.Ci_ "n"))) (.c (.ret (.call (O "_law_number") (.c (.bin .FloorDiv (.v 6) (.ci 8)) (.c (.v 1) (.c (.v 2) (.c (.v 3) (.c (.bin .Sub (.v 4) (.ci 1)) .n))))))) .n) .n)
def Zbw:Sx:=(.ret (.call (O "_law_function") (.c (.v 0) (.c (.bin .FloorDiv (.v 6) (.ci 8)) (.c (.v 1) (.c (.v 2) (.c (.v 3) (.c (.bin .Sub (.v 4) (.ci 1)) .n))))))))
def Zny:Sxs:=(.c Za7 (.c Zcb (.c Za6 (.c Zca (.c Za5 (.c Za4 (.c Zar (.c Zb9 (.c Za3 (.c ZaD (.c Zbw .n)))))))))))
def ZdY:Fd:=⟨[(O "_law_wish"),(O "_law_scope"),(O "_law_state"),(O "_law_names_here"),(O "_law_room")],[(O "_law_wish"),(O "_law_scope"),(O "_law_state"),(O "_law_names_here"),(O "_law_room"),(O "_law_number_here"),(O "_law_rest"),(O "_law_there_here"),(O "_law_asked_of"),(O "_law_first")],Zny⟩
def Zdx:Sxs:=(.c (.ret (.bin .Add (.ci 1) (.blt .sum (.c (.comp [(O "_law_part")] [Wo] (.pl (.v 0)) (.nm 0) (Wn (.ex (.blt .isi (.c (.v 0) (.c (.cst (.ty "tuple")) .n))))) (.call (O "_law_width") (.c (.v 0) .n))) .n)))) .n)
def ZbX:Fd:=⟨[(O "_law_told")],[(O "_law_told")],Zdx⟩
def ZeA:Sxs:=(.c (.ret (.maxd (.comp [(O "_law_part")] [Wo] (.pl (.v 0)) (.nm 0) (Wn (.ex (.blt .isi (.c (.v 0) (.c (.cst (.ty "tuple")) .n))))) (.bin .Add (.ci 1) (.call (O "_law_deep") (.c (.v 0) .n)))) (.ci 0))) .n)
def ZcO:Fd:=⟨[(O "_law_told")],[(O "_law_told")],ZeA⟩
def Zai:Sx:=(.set (.nm 2) (.comp [(O "_law_k"),(O "_law_cell")] [Wo,Wo] (.enu (.sl (.v 0) (Wn (.v 1)) Wo)) (.two 0 1) Wo (.call (O "_law_mixed") (.c (.v 1) (.c (.bin .Add (.v 0) (.ci 2)) .n)))))
def Zc6:Sx:=(.set (.nm 3) (.lstl (.c (.v 2) (.c (.ci 0) (.c (.ci 26) .n)))))
def Zc5:Sx:=(.set (.nm 4) (.call (O "_law_names") (.c (.call (O "_law_next") (.c (.v 3) .n)) .n)))
def Zc4:Sx:=(.set (.nm 5) (.call (O "_law_any") (.c (.Ci_ "n") (.c (.lstl .n) (.c (.v 3) (.c (.v 4) (.c (.ci 7) .n)))))))
def Zbc:Sx:=(.forr (.nm 6) (.rng (.ci 2)) (.c (.iff (.ex (.cmp .Lt (.call (O "_law_width") (.c (.v 5) .n)) (.ci 50))) (.c (.put (.v 3) (.ci 2) (.ci 12)) (.c (.set (.nm 5) (.tupl (.c (.Ci_ "+") (.c (.v 5) (.c (.call (O "_law_any") (.c (.Ci_ "n") (.c (.lstl .n) (.c (.v 3) (.c (.v 4) (.c (.ci 6) .n)))))) .n))))) .n)) .n) .n))
def Zbb:Sx:=(.iff (.ors (.c (.ex (.cmp .Gt (.call (O "_law_width") (.c (.v 5) .n)) (.ci 100))) (.one (.ex (.cmp .Gt (.call (O "_law_deep") (.c (.v 5) .n)) (.ci 20)))))) (.c (.set (.nm 5) (.call (O "_law_plain") (.c (.Ci_ "n") (.c (.call (O "_law_next") (.c (.v 3) .n)) .n)))) .n) .n)
def Zc3:Sx:=(.ret (.v 5))
def Zhx:Sxs:=(.c Zai (.c Zc6 (.c Zc5 (.c Zc4 (.c Zbc (.c Zbb (.c Zc3 .n)))))))
def Zeg:Fd:=⟨[(O "_law_script"),(O "_law_start")],[(O "_law_script"),(O "_law_start"),(O "_law_cells"),(O "_law_state"),(O "_law_names_here"),(O "_law_told"),(O "_law_k")],Zhx⟩
noncomputable def Zct:List (Key×D):=[(.inr (O "fn"),.tup [.int 1,.int 1]),(.inr (O "rec"),.tup [.int 2,.int 1]),(.inr (O "call"),.tup [.int 0,.int 2]),(.inr (O "if"),.tup [.int 0,.int 3]),(.inr (O "+"),.tup [.int 0,.int 2]),(.inr (O "-"),.tup [.int 0,.int 2]),(.inr (O "*"),.tup [.int 0,.int 2]),(.inr (O "<"),.tup [.int 0,.int 2])]
structure Tre(P:Pg):Prop where
 parts:P.tb.lookup (O "parts_of")=Wn ZgW
 g:P.G (O "FORMS")=Wn (.kd (O "FORMS"))
 gd:P.GD (O "FORMS")=Wn Zct
 big:1000000<=P.L
def ZbV(H:Tre P)(hU:U.G=P.G/\U.GD=P.GD)(q:ev U e S h=.ok (.str w) h)(f:ZK Zct (.inr w)=x):tst U (.ex (.cmp .NotIn e (.glo (O "FORMS")))) S h=.ok (!x.isSome) h:=by
 have g:ev U (.glo (O "FORMS")) S h=.ok (.kd (O "FORMS")) h:=by rw[Zpp,hU.1,H.g];rfl
 refine Zaz ((Zn q g).trans ?_);rw[Zip,hU.2,H.gd];simp only[f]
def Zmj(H:Tre P)(hU:U.G=P.G/\U.GD=P.GD)(q:ev U e S h=.ok (.str w) h)(f:ZK Zct (.inr w)=Wn x):ev U (.ix (.glo (O "FORMS")) e) S h=.ok x h:=by
 have g:ev U (.glo (O "FORMS")) S h=.ok (.kd (O "FORMS")) h:=by rw[Zpp,hU.1,H.g];rfl
 rw[ZjX,g,Zg,q,Zg,Zq0,hU.2,H.gd];simp only[f];rfl
def Zed:ev U (.ix (.var 0) (.ci 0)) (Wn (.tup (.str w::ds))::S) h=.ok (.str w) h:=by show R.ofO (atI (D.str w::ds) 0) h=_;rw[Zw2];rfl
def Zk4(H:Tre P)(hU:U.G=P.G/\U.GD=P.GD)(e:ZK Zct (.inr w)=Wn (.tup [.int a,.int b])):ev U (.bin .Add (.ci 1) (.ix (.ix (.glo (O "FORMS")) (.ix (.var 0) (.ci 0))) (.ci 0))) [Wn (.tup (.str w::ds))] h=.ok (.int (1+a)) h:=by refine(Zt (x:=.int 1) (y:=.int a) rfl ?_).trans rfl;rw[ZjX,Zmj H hU Zed e];rfl
def ZiG(q:ev U e S h=.ok (.int l) h):evo U (Wn e) S h=.ok (Wn l) h:=by rw[Zpm,q];rfl
def ZnW(p:ev U a S h=.ok x h)(q:evo U lo S h=.ok l h)(r:evo U hi S h=.ok u h):ev U (.sl a lo hi) S h=Zjt x l u h:=by simp only[ZwG,p,Zg,q,r]
def ZeP(H:Tre P)(n:Nat)(h:Hd)(w:Str)(ds:List D)(e:ZK Zct (.inr w)=Wo):run P (n+1) (O "parts_of") [.tup (.str w::ds)] h=.ok (.tup []) h:=by rw[Zd H.parts rfl];show Ze (xs2 (P.tbl n) ZbK [Wn (.tup (.str w::ds))] h)=_;rw[ZbK,Zb ((Zu (ZbV H ⟨rfl,rfl⟩ Zed e)).trans (Zb (Zm (d:=.tup []) rfl)))];rfl
def ZW(H:Tre P)(n:Nat)(h:Hd)(w:Str)(ds:List D)(a b:Int)(e:ZK Zct (.inr w)=Wn (.tup [.int a,.int b])):run P (n+1) (O "parts_of") [.tup (.str w::ds)] h=.ok (.tup (cutD (.str w::ds) (Wn (1+a)) Wo)) h:=by
 rw[Zd H.parts rfl];show Ze (xs2 (P.tbl n) ZbK [Wn (.tup (.str w::ds))] h)=_;have q:=Zk4 H (U:=P.tbl n) ⟨rfl,rfl⟩ (ds:=ds) (h:=h) e;have r:ev (P.tbl n) (.sl (.var 0) (Wn (.bin .Add (.ci 1) (.ix (.ix (.glo (O "FORMS")) (.ix (.var 0) (.ci 0))) (.ci 0)))) Wo) [Wn (.tup (.str w::ds))] h=.ok (.tup (cutD (.str w::ds) (Wn (1+a)) Wo)) h:=by exact(ZnW (a:=.var 0) (x:=.tup (.str w::ds)) rfl (ZiG q) rfl).trans rfl
 rw[ZbK,Za ((Zs (ZbV H ⟨rfl,rfl⟩ Zed e)).trans rfl),Zb (Zm r)];rfl
def ZlL(H:Tre P)(n:Nat)(t:T)(h:Hd):run P (n+1) (O "parts_of") [t.d] h=.ok (.tup (t.parts.map T.d)) h:=by
 cases t with
 |num z=>exact ZeP H n h (O "num") _ rfl
 |name x=>exact ZeP H n h (O "name") _ rfl
 |fn x e=>exact ZW H n h (O "fn") _ 1 1 rfl
 |rcc f x e=>exact ZW H n h (O "rec") _ 2 1 rfl
 |call f a=>exact ZW H n h (O "call") _ 0 2 rfl
 |iff c a b=>exact ZW H n h (O "if") _ 0 3 rfl
 |op w a b=>exact ZW H n h w.s _ 0 2 (by cases w<;>rfl)
theorem ZfP(p:Option D):∀(ps:List D) (W:List D) (q:Option D),W.length+ps.length<=1000000->∃q',
 Z3 [] (.nm 4) (xs2 U (.cons (.drp (.meth .app (.var 2) (.cons (.var 4) .nil))) .nil)) ps [Wn E,Wn (.ref h.length),Wn (.ref (h.length+1)),p,q] (h++[.lst F,.lst W])
  = .ok (.nx,[Wn E,Wn (.ref h.length),Wn (.ref (h.length+1)),p,q']) (h++[.lst F,.lst (W++ps)])
 |[],W,q,hz=>⟨q,by simp⟩
 |d::ds,W,q,hz=>by
  obtain⟨q',e⟩:=ZfP (U:=U) (h:=h) (F:=F) (E:=E) p ds (W++[d]) (Wn d) (by simp at hz ⊢;lia);refine⟨q',?_⟩;have hz2:W.length<sizeLine:=by simp at hz;rw[YB];lia
  rw[ZdX];simp[ZeY,ZbF,Zf3,ZoX,hz2,e]
def ZkF(t:T):1<=t.places.length:=by rw[T.places_parts];simp
theorem Zeb:∀W:List T,W.length<=(W.flatMap T.places).length
 |[]=>by simp
 |t::W=>by
  have:=ZkF t;have:=Zeb W;rw[List.flatMap_cons,OA,Os]
  lia
theorem ZjE(H:Tre P)(n:Nat):∀(fuel:Nat) (W:List T) (F:List D) (p q:Option D),(W.flatMap T.places).length<fuel->F.length+(W.flatMap T.places).length<=900000->∃p' q',
 ZT (tst ⟨P.G,P.GD,run P (n+1),P.L⟩ (.ex (.var 2))) (xs2 ⟨P.G,P.GD,run P (n+1),P.L⟩ (.cons (.set (.nm 3) (.meth .pop (.var 2) .nil)) (.cons (.drp (.meth .app (.var 1) (.cons (.var 3) .nil))) (.cons (.forr (.nm 4) (.rev (.call (O "parts_of") (.cons (.var 3) .nil))) (.cons (.drp (.meth .app (.var 2) (.cons (.var 4) .nil))) .nil)) .nil))))
  fuel [Wn E,Wn (.ref h.length),Wn (.ref (h.length+1)),p,q] (h++[.lst F,.lst (W.map T.d).reverse])
  = .ok (.nx,[Wn E,Wn (.ref h.length),Wn (.ref (h.length+1)),p',q']) (h++[.lst (F++(W.flatMap T.places).map T.d),.lst []])
 |0,W,F,p,q,h1,h2=>by lia
 |fuel+1,[],F,p,q,h1,h2=>⟨p,q,by rw[Za1];simp[Zen]⟩
 |fuel+1,t::W,F,p,q,h1,h2=>by
  have e0:((t::W).flatMap T.places)=t::((t.parts++W).flatMap T.places):=by rw[List.flatMap_cons,T.places_parts t,List.flatMap_append];simp
  rw[e0]at h1 h2 ⊢;have hp:t.parts.length<=3:=by cases t<;>simp[T.parts]
  simp only[Os]at h1 h2;have h3:=Zeb (t.parts++W);rw[OA]at h3;obtain⟨q1,e1⟩:=ZfP (U:=⟨P.G,P.GD,run P (n+1),P.L⟩) (h:=h) (F:=F++[t.d]) (E:=E) (Wn t.d) (t.parts.map T.d).reverse (W.map T.d).reverse q (by simp;lia);obtain⟨p',q',e2⟩:=ZjE H (h:=h) (E:=E) n fuel (t.parts++W) (F++[t.d]) (Wn t.d) q1 (by lia) (by rw[OA,List.length_singleton];lia);refine⟨p',q',?_⟩;have hz2:F.length<sizeLine:=by rw[YB];lia
  rw[Za1];simp[Zen,ZeY,ZbF,Zf3,ZoX,Zrf,hz2,ZlL H,ZhE,e1];simpa using e2
def Zn7(H:Tre P)(hp:P.tb.lookup (O "places")=Wn Ze5)(n:Nat)(t:T)(h:Hd)(hz:t.size<=800000):run P (n+2) (O "places") [t.d] h=.ok (.ref h.length) (h++[.lst (t.places.map T.d),.lst []]):=by rw[Zd hp (by rfl)];obtain⟨p',q',e⟩:=ZjE H (h:=h) (E:=t.d) n P.L [t] [] Wo Wo (by have:=H.big;unfold T.size at hz;simp;lia) (by unfold T.size at hz;simp;lia);simp at e;simp[Ze5,Zkd,ZB,YB,e]
end Gn
namespace IV
open PySem L2
section
variable {U:Tb}{S:Ev}{h h1 h2 h3:Hd}
def ZiH(p:ev U o S h=.ok (.ref i) h1)(l:h1[i]? = Wn (.lst ys))(q:evs U es S h1=.ok xs h2)(e:ZbF m (.ref i) xs h2=r):ev U (.meth m o es) S h=r:=by rw[ZrA,p,Zg,Zby l,if_pos rfl,q];exact e
def ZfU(q:ev U e S h=.ok d h1):xs1 U (.drp e) S h=.ok (.nx,S) h1:=by rw[Zlw,q];rfl
def ZhV(p:ev U o S h=.ok (.ref i) h1)(l:h1[i]? = Wn (.ins C fs))(f:fs.lookup m=Wo)(q:evs U es S h1=.ok xs h2)(e:U.C (mnm C m) (.ref i::xs) h2=r):ev U (.mcl C m o es) S h=r:=by rw[Zuu,p,Zg,show ZR (.ref i) h1=Wn (C,fs) by simp[ZR,l]];simp only[f,and_self,if_true,q];exact e
def Zfb(p:evi U it S h=.ok w h1)(q:Zz w.src g (tsto U c) (ev U e) w.xs (ZbI js S) [] h1=.ok xs h2):ev U (.comp NC js it g c e) S h=.ok (.ref h2.length) (h2++[.lst xs]):=by rw[ZiI,p,Zg,q];rfl
def Zk9(p:ev U e S h=.ok (.tup xs) h1):evi U (.pl e) S h=.ok ⟨[],xs⟩ h1:=by rw[Zla,p];rfl
def Znr(p:evs U es S h=.ok xs h1)(hz:xs.length<=1000):ev U (.lstl es) S h=.ok (.ref h1.length) (h1++[.lst xs]):=by rw[Zmm,p,Zg,if_pos (OE hz (by decide))];rfl
def Zev(p:evs U es S h=.ok xs h1)(q:Z0 U.GD f xs h1=r):ev U (.blt f es) S h=r:=by rw[Zuz,p];exact q
def ZjB(e:h[i]? = Wn (.lst ys)):Z0 GD .len [.ref i] h=.ok (.int ys.length) h:=by simp only[Z0,ZhC,seqOf,lstOf,e];rfl
def Zr4(e:h[i]? = Wn (.lst ys)):Z0 GD .tup [.ref i] h=.ok (.tup ys) h:=by simp only[Z0,Znz,lstOf,e];rfl
def Zjb(p:ev U e S h=.ok (.ref i) h1)(l:h1[i]? = Wn (.lst ys)):tst U (.ex e) S h=.ok (!ys.isEmpty) h1:=by rw[Zkt,p,Zg,Zp8 l];rfl
def ZcD(e:test S h=.ok Wp h1)(q:body S h1=.ok (.nx,ρ1) h2):ZT test body (n+1) S h=ZT test body n ρ1 h2:=by rw[Za1,e,Zg,if_pos rfl,q];rfl
def Zgc(e:test S h=.ok Wq h1):ZT test body (n+1) S h=.ok (.nx,S) h1:=by rw[Za1,e];rfl
def Zwz(p:ev U a S h=.ok (.int x) h1)(q:ev U b S h1=.ok (.int y) h2):tst U (.ex (.cmp .Gt a b)) S h=.ok (Wt (y<x)) h2:=Zaz (Zn p q)
def Zwb(p:ev U a S h=.ok (.int x) h1)(q:ev U b S h1=.ok (.int y) h2):tst U (.ex (.cmp .Lt a b)) S h=.ok (Wt (x<y)) h2:=Zaz (Zn p q)
def ZgT(b:ZbJ g d S=Wn ρ1)(q:body ρ1 h=.ok (.nx,ρ2) h2):Z3 [] g body (d::ds) S h=Z3 [] g body ds ρ2 h2:=by rw[ZdX,b];simp only;rw[q];rfl
def Zug(p:ev U e S h=.ok x h1):tst U (.ex (.cmp .IsNot e (.cst .non))) S h=.ok (!Wt (x=.non)) h1:=Zaz ((Zn p rfl).trans ZoI)
def Zk5(b:ZbJ g d S=Wn ρ1)(q:body ρ1 h=.ok (.rt x,ρ2) h2):Z3 [] g body (d::ds) S h=.ok (.rt x,ρ2) h2:=by rw[ZdX,b];simp only;rw[q];rfl
variable {c:Str}
def Zlu(q:xs1 U s S h=.exc c h1):xs2 U (.cons s r) S h=.exc c h1:=by rw[xs2,q];rfl
def ZwL(q:ev U e S h=.exc c h1):xs1 U (.drp e) S h=.exc c h1:=by rw[Zlw,q];rfl
def Zvy(q:ev U e S h=.ok d h1):xs1 U (.rai c e) S h=.exc c h1:=by rw[xs1,q];rfl
def Zp2(e:test S h=.ok Wp h1)(q:body S h1=.exc c h2):ZT test body (n+1) S h=.exc c h2:=by rw[Za1,e,Zg,if_pos rfl,q];rfl
end
end IV
section
set_option tactic.hygienic false
set_option exponentiation.threshold 3000
namespace Gn
open PySem L2 IV
def Up(i:Nat)(h h':Hd):Prop:=h.length<=h'.length/\∀m,m<h.length->m≠i->h'[m]? = h[m]?
def Up.refl:Up i h h:=⟨Oq _,λ_ _ _=>rfl⟩
theorem Up.trans(x:Up i a b)(y:Up i b c):Up i a c:=⟨OE x.1 y.1,λm h1 h2=>(y.2 m (Ot h1 x.1) h2).trans (x.2 m h1 h2)⟩
theorem Up.set:Up i h (h.set i o):=⟨by simp,λm _ h2=>by rw[Oc (YK h2)]⟩
def Up.app:Up i h (h++g):=⟨by simp,λm h1 _=>Oe h1⟩
def ZH{h:Hd}(e:h[i]? = Wn o):i<h.length:=(Ob.mp e).1
def Up.at{i m:Nat}(u:Up i h h')(e:h[m]? = Wn o)(ne:m≠i):h'[m]? = Wn o:=(u.2 m (ZH e) ne).trans e
def Alk(P:Pg)(f:Str)(fd:Fd):Prop:=∃ps N,ps.length=fd.ps.length/\N.length=fd.N.length/\P.tb.lookup f=Wn ⟨ps,N,fd.body⟩
def Alk.same(e:P.tb.lookup f=Wn fd):Alk P f fd:=⟨fd.ps,fd.N,rfl,rfl,e⟩
def Zge(e:Alk P f fd)(hl:ds.length=fd.ps.length):run P (n+1) f ds h=Ze (xs2 ⟨P.G,P.GD,run P n,P.L⟩ fd.body (ZB fd.N ds) h):=by obtain⟨ps,N,h1,h2,e⟩:=e;rw[Zd e (hl.trans h1.symm)];unfold ZB;rw[h2]
structure Mk0(P:Pg):Prop where
 mixed:P.tb.lookup (O "_law_mixed")=Wn Zdp
 next:P.tb.lookup (O "_law_next")=Wn ZgY
 names:P.tb.lookup (O "_law_names")=Wn Zdo
 there:P.tb.lookup (O "_law_there")=Wn Zdn
 plain:P.tb.lookup (O "_law_plain")=Wn ZfS
 function:Alk P (O "_law_function") Zdq
 number:Alk P (O "_law_number") Ze6
 any:Alk P (O "_law_any") ZdY
 width:P.tb.lookup (O "_law_width")=Wn ZbX
structure Mkr(P:Pg):Prop extends Mk0 P where
 deep:P.tb.lookup (O "_law_deep")=Wn ZcO
 program:Alk P (O "_law_program") Zeg
noncomputable def big:Int:=1000000000000000000000000000057
def mixed(c k:Int):Int:=(c % big * 271828182845904523536028747135+k * k * 314159265358979323846264338327+577215664901532860606512090082) % big
def ZV(h:-(2 ^ 128)<i)(h2:i<2 ^ 128):i.natAbs<2 ^ 2000:=by
 have:i.natAbs<2 ^ 128:=by lia
 exact Ot this (Nat.pow_le_pow_right (by decide) (by decide))
def ZmQ(hk:-(2 ^ 60)<k/\k<2 ^ 60):0<=k * k/\k * k<2 ^ 120:=by
 have a:k.natAbs<2 ^ 60:=by lia
 have b:k.natAbs * k.natAbs<2 ^ 60 * 2 ^ 60:=Nat.mul_lt_mul'' a a;have c2:((k.natAbs * k.natAbs:Nat):Int)=k * k:=Int.natAbs_mul_self;rw[<- c2];constructor
 . lia
 . have:((k.natAbs * k.natAbs:Nat):Int)<((2 ^ 60 * 2 ^ 60:Nat):Int):=Int.ofNat_lt.mpr b;exact this
def Zgy(H:Mk0 P)(n:Nat)(c k:Int)(h:Hd)(hk:-(2 ^ 60)<k/\k<2 ^ 60):run P (n+1) (O "_law_mixed") [.int c,.int k] h=.ok (.int (mixed c k)) h:=by
 rw[Zd H.mixed rfl];have hp:opB .Pow (.int 10) (.int 30) h=.ok (.int 1000000000000000000000000000000) h:=by show(if (0:Int)<=30/\(30:Int)<=1000000/\(10:Int).natAbs<2 ^ 64 then R.ok (D.int (10 ^ (30:Int).toNat)) h else R.bad)=_;rw[if_pos (by decide)];rfl
 have h1:0<=c % 1000000000000000000000000000057/\c % 1000000000000000000000000000057<1000000000000000000000000000057:=⟨Int.emod_nonneg _ (by decide),Int.emod_lt_of_pos _ (by decide)⟩
 have hkk:=ZmQ hk;have e1:opB .Mod (.int c) (.int 1000000000000000000000000000057) h=.ok (.int (c % 1000000000000000000000000000057)) h:=ZN (by decide);have e2:opB .Mult (.int (c % 1000000000000000000000000000057)) (.int 271828182845904523536028747135) h=.ok (.int (c % 1000000000000000000000000000057 * 271828182845904523536028747135)) h:=ZeR ⟨ZV (by lia) (by lia),ZV (by decide) (by decide)⟩;have e3:opB .Mult (.int k) (.int k) h=.ok (.int (k * k)) h:=ZeR ⟨ZV (by lia) (by lia),ZV (by lia) (by lia)⟩;have e4:opB .Mult (.int (k * k)) (.int 314159265358979323846264338327) h=.ok (.int (k * k * 314159265358979323846264338327)) h:=ZeR ⟨ZV (by lia) (by lia),ZV (by decide) (by decide)⟩;have e5:opB .Mod (.int (c % 1000000000000000000000000000057 * 271828182845904523536028747135+k * k * 314159265358979323846264338327+577215664901532860606512090082)) (.int 1000000000000000000000000000057) h=.ok (.int (mixed c k)) h:=ZN (by decide);simp[Zdp,Zf1,ZB,hp,e1,e2,e3,e4,e5]
def Zqo(H:Mkr P)(n:Nat)(c k:Int)(h:Hd)(hk:-(2 ^ 60)<k/\k<2 ^ 60):run P (n+1) (O "_law_mixed") [.int c,.int k] h=.ok (.int (mixed c k)) h:=Zgy H.toMk0 n c k h hk
def St3(h:Hd)(i j:Nat)(cs:List Int)(at' b:Int):Prop:=h[i]? = Wn (.lst [.ref j,.int at',.int b])/\h[j]? = Wn (.lst (cs.map .int))/\i≠j
def Zgx{P:Pg}(H:Mk0 P)(n:Nat)(st:St3 h i j cs a b)(ha:0<=a/\a<2 ^ 50):∃v,run P (n+2) (O "_law_next") [.ref i] h=.ok (.int v) (h.set i (.lst [.ref j,.int (a+1),.int b]))/\(v∈cs\/v=mixed a 7):=by
 obtain⟨h1,h2,ne⟩:=st;rw[Zd H.next (by rfl)];have i1:=ZH h1;have i2:(h.set i (.lst [.ref j,.int (a+1),.int b]))[i]? = Wn (.lst [.ref j,.int (a+1),.int b]):=by rw[Ol i1]
 have i3:(h.set i (.lst [.ref j,.int (a+1),.int b]))[j]? = Wn (.lst (cs.map .int)):=by rw[Oc ne];exact h2
 have hput:Zau (.ref i) (.int 1) (.int (a+1)) h=.ok () (h.set i (.lst [.ref j,.int (a+1),.int b])):=by simp only[Zau,h1];rfl
 have x1:xs1 (P.tbl (n+1)) (.set (.nm 1) (.ix (.var 0) (.ci 1))) [Wn (.ref i),Wo] h=.ok (.nx,[Wn (.ref i),Wn (.int a)]) h:=Zl ((ZD rfl rfl).trans ((ZP h1).trans rfl));have x2:xs1 (P.tbl (n+1)) (.put (.var 0) (.ci 1) (.bin .Add (.var 1) (.ci 1))) [Wn (.ref i),Wn (.int a)] h=.ok (.nx,[Wn (.ref i),Wn (.int a)]) (h.set i (.lst [.ref j,.int (a+1),.int b])):=by rw[Zid];show(Zau (.ref i) (.int 1) (.int (a+1)) h).bnd _=_;rw[hput];rfl
 generalize h.set i (.lst [.ref j,.int (a+1),.int b])=h' at *;have e0:ev (P.tbl (n+1)) (.ix (.var 0) (.ci 0)) [Wn (.ref i),Wn (.int a)] h'=.ok (.ref j) h':=(ZD rfl rfl).trans ((ZP i2).trans rfl);have tt:tst (P.tbl (n+1)) (.ex (.cmp .Lt (.var 1) (.blt .len (.cons (.ix (.var 0) (.ci 0)) .nil)))) [Wn (.ref i),Wn (.int a)] h'=.ok (Wt (a<(cs.map D.int).length)) h':=Zwb rfl (Zev (Zc e0 rfl) (ZjB i3));rw[Yt]at tt;have x3:xs2 (P.tbl (n+1)) Zez [Wn (.ref i),Wo] h=xs2 (P.tbl (n+1)) (tlS (tlS Zez)) [Wn (.ref i),Wn (.int a)] h':=(nx1 x1 rfl).trans (nx1 x2 rfl);by_cases hc:a<cs.length
 . obtain⟨k,rfl⟩:∃k:Nat,a=k:=⟨a.toNat,by lia⟩
   have hk:k<cs.length:=by lia
   have hat:atI (cs.map D.int) (k:Int)=Wn (.int cs[k]):=by rw[IV.Zce,On,Og hk];rfl
   exact⟨cs[k],(congrArg Ze x3).trans (rt1 ((Zu (Zq tt (decide_eq_true hc))).trans (Zb (Zm ((ZD e0 rfl).trans ((ZP i3).trans (by rw[hat];rfl)))))) rfl),.inl (List.getElem_mem hk)⟩
 . exact⟨mixed a 7,(congrArg Ze (x3.trans (nx1 ((Zs (Zq tt (decide_eq_false hc))).trans rfl) rfl))).trans (rt1 (Zm (Zo (Zgy H n a 7 _ (by decide)) rfl)) rfl),.inr rfl⟩
def Wl(n:Nat)(x:Str):Prop:=Yo x=Wp/\x.length<=n
def Cl:List Str->T->Prop
 |_,.num n=>0<=n/\n<1000000
 |sc,.name x=>x∈sc
 |sc,.fn x e=>Cl (x::sc) e/\Wl 20 x
 |sc,.rcc f x e=>Cl (x::f::sc) e/\f≠x/\Wl 20 f/\Wl 20 x
 |sc,.call f a=>Cl sc f/\Cl sc a
 |sc,.iff c t e=>Cl sc c/\Cl sc t/\Cl sc e
 |sc,.op _ a b=>Cl sc a/\Cl sc b
noncomputable def dep:T->Nat
 |.num _|.name _=>0
 |.fn _ e|.rcc _ _ e=>dep e+1
 |.call f a=>max (dep f) (dep a)+1
 |.iff c t e=>max (dep c) (max (dep t) (dep e))+1
 |.op _ a b=>max (dep a) (dep b)+1
noncomputable def fw:T->Int
 |.num _|.name _=>-1
 |.fn _ e|.rcc _ _ e=>fw e+3
 |.call f a=>fw f+fw a - 1
 |.iff c t e=>fw c+fw t+fw e - 1
 |.op _ a b=>fw a+fw b - 1
noncomputable def nb:T->Nat
 |.num _|.name _=>0
 |.fn _ e=>nb e+1
 |.rcc _ _ e=>nb e+2
 |.call f a=>max (nb f) (nb a)
 |.iff c t e=>max (nb c) (max (nb t) (nb e))
 |.op _ a b=>max (nb a) (nb b)
def at4(k:Int)(h0:0<=k)(h4:k<4):∃v,atI [D.int a,.int b,.int c,.int d] k=Wn (.int v)/\(v=a\/v=b\/v=c\/v=d):=by
 have:k=0\/k=1\/k=2\/k=3:=by lia
 rcases this with rfl|rfl|rfl|rfl
 . exact⟨a,by simp,.inl rfl⟩
 . exact⟨b,by simp,.inr (.inl rfl)⟩
 . exact⟨c,by simp,.inr (.inr (.inl rfl))⟩
 . exact⟨d,by simp,.inr (.inr (.inr rfl))⟩
def Zil(H:Mk0 P)(n:Nat)(w:Str)(v:Int)(h:Hd)(sc:List Str):∃t g,run P (n+1) (O "_law_plain") [.str w,.int v] h=.ok (T.d t) (h++g)/\Cl sc t/\(nb t<=dep t/\dep t<=2)/\t.size<=4/\fw t<=0:=by
 rw[Zd H.plain (by rfl)];by_cases w1:w=O "n"
 . obtain⟨u,e,hu⟩:=at4 (a:=0) (b:=1) (c:=2) (d:=v / 7 % 1000000) (v % 4) (by lia) (by lia);refine⟨.num u,[.lst [.int 0,.int 1,.int 2,.int (v / 7 % 1000000)]],?_,by show 0<=u/\u<1000000;lia,⟨Oq _,by show 0<=2;lia⟩,by show 1<=4;lia,by show(-1:Int)<=0;decide⟩;exact rt1 (U:=P.tbl n) (ss:=Zaq) ((Zu (Zq (Zcu rfl rfl) (decide_eq_true w1))).trans (Zb (Zm (ZaA (Zc rfl (Zc (Zkb e (Zc rfl (Zc rfl (Zc rfl (Zc ((Zt (x:=.int (v / 7)) ((Zt rfl rfl).trans (ZcI (by decide))) rfl).trans (ZN (by decide))) rfl)))) ((Zt rfl rfl).trans (ZN (by decide))) (Nat.le_of_ble_eq_true rfl)) rfl)) (Nat.le_of_ble_eq_true rfl))))) rfl
 . have x1:xs2 (P.tbl n) Zaq [Wn (.str w),Wn (.int v)] h=xs2 (P.tbl n) (tlS Zaq) [Wn (.str w),Wn (.int v)] h:=nx1 ((Zs (Zq (Zcu rfl rfl) (decide_eq_false w1))).trans rfl) rfl;by_cases w2:w=O "f"
   . refine⟨.fn (O "w") (.op .sub (.name (O "w")) (.num (v % 3))),[],?_,?_,by simp only[dep,nb];lia,by show 4<=4;lia,by simp only[fw];lia⟩
     . rw[Ys];exact(congrArg Ze x1).trans (rt1 (U:=P.tbl n) (ss:=tlS Zaq) ((Zu (Zq (Zcu rfl rfl) (decide_eq_true w2))).trans (Zb (Zm (ZaA (Zc rfl (Zc rfl (Zc (ZaA (Zc rfl (Zc rfl (Zc (ZaA (Zc rfl (Zc ((Zt rfl rfl).trans (ZN (by decide))) rfl)) (Nat.le_of_ble_eq_true rfl)) rfl))) (Nat.le_of_ble_eq_true rfl)) rfl))) (Nat.le_of_ble_eq_true rfl))))) rfl)
     . exact⟨⟨Oi,by show 0<=v % 3/\v % 3<1000000;lia⟩,by unfold Wl;decide +kernel⟩
   . refine⟨.fn (O "w") (.call (.name (O "w")) (.num (v % 5))),[],?_,?_,by simp only[dep,nb];lia,by show 4<=4;lia,by simp only[fw];lia⟩
     . rw[Ys];exact(congrArg Ze (x1.trans (nx1 ((Zs (Zq (Zcu rfl rfl) (decide_eq_false w2))).trans rfl) rfl))).trans (rt1 (U:=P.tbl n) (ss:=tlS (tlS Zaq)) (Zm (ZaA (Zc rfl (Zc rfl (Zc (ZaA (Zc rfl (Zc rfl (Zc (ZaA (Zc rfl (Zc ((Zt rfl rfl).trans (ZN (by decide))) rfl)) (Nat.le_of_ble_eq_true rfl)) rfl))) (Nat.le_of_ble_eq_true rfl)) rfl))) (Nat.le_of_ble_eq_true rfl))) rfl)
     . exact⟨⟨Oi,by show 0<=v % 5/\v % 5<1000000;lia⟩,by unfold Wl;decide +kernel⟩
noncomputable def Zy:Str:=O "abcdefghijklmnopqrstuvwxyz"
def ZjA:Zy.length=26:=by decide +kernel
def ZkW:Yo Zy=Wp:=by decide +kernel
noncomputable def ltr(k:Int):Nat:=Zy.cps.toList.getD k.toNat 0
def lt1(k:Int):Str:=⟨#[ltr k]⟩
def ZkX(k:Int)(h0:0<=k)(h1:k<26):Za8 GD (.str Zy) (.int k) h=.ok (.str (lt1 k)) h/\Wl 1 (lt1 k):=by
 obtain⟨m,rfl⟩:∃m:Nat,k=m:=⟨k.toNat,by lia⟩
 have hl:Zy.cps.toList.length=26:=by decide +kernel
 have hm:m<Zy.cps.toList.length:=by lia
 have el:ltr m=Zy.cps.toList[m]:=by show Zy.cps.toList.getD (m:Int).toNat 0=_;rw[Int.toNat_natCast,List.getD_eq_getElem?_getD,Og hm];rfl
 have e:atI Zy.cps.toList (m:Int)=Wn Zy.cps.toList[m]:=by rw[IV.Zce,Og hm]
 unfold lt1;rw[el];refine⟨?_,ZoN ZkW (List.getElem_mem hm),by show(#[Zy.cps.toList[m]]:Array Nat).size<=1;simp⟩;have q:Za8 GD (.str Zy) (.int (m:Int)) h=if Zy.length<=sizeLine then R.ofO ((atI Zy.cps.toList (m:Int)).map λc=>.str ⟨#[c]⟩) h else .bad:=rfl;rw[q,if_pos (by rw[ZjA,YB];decide),e];rfl
def len_cat{x y:Str}:(x++y).length=x.length+y.length:=by show(x.cps++y.cps).size=_;rw[Array.size_append];rfl
def Zfe{x y:Str}(hx:Wl a x)(hy:Wl b y)(hz:a+b<=1000):opB .Add (.str x) (.str y) h=.ok (.str (x++y)) h/\Wl (a+b) (x++y):=by have hl:(x++y).length=x.length+y.length:=len_cat;refine⟨if_pos (by rw[YB];have:=hx.2;have:=hy.2;lia),ZhN hx.1 hy.1,by rw[hl];have:=hx.2;have:=hy.2;lia⟩
theorem Zo2{U:Tb}:∀(ks:List Int) (r:Int) (x:Str) (m:Nat) (k:Option D),Wl m x->x.length=m->m+ks.length<=100->∃r' x' k',Wl (m+ks.length) x'/\x'.length=m+ks.length /\
 Z3 [] (.nm 6) (xs2 U (.cons (.set (.nm 5) (.bin .Add (.var 5) (.ix (.var 1) (.bin .Mod (.var 4) (.ci 26))))) (.cons (.set (.nm 4) (.bin .FloorDiv (.var 4) (.ci 26))) .nil))) (ks.map D.int) [a,Wn (.str Zy),l,p,Wn (.int r),Wn (.str x),k,f,sg,wd] h
  = .ok (.nx,[a,Wn (.str Zy),l,p,Wn (.int r'),Wn (.str x'),k',f,sg,wd]) h
 |[],r,x,m,k,hx,hn,hm=>⟨r,x,k,hx,hn,rfl⟩
 |c::cs,r,x,m,k,hx,hn,hm=>by
  obtain⟨e1,hy⟩:=ZkX (GD:=U.GD) (h:=h) (r % 26) (by lia) (by lia);obtain⟨e2,hxy⟩:=Zfe (h:=h) hx hy (by simp at hm;lia);obtain⟨r',x',k',h1,h2,e3⟩:=Zo2 (U:=U) (h:=h) (a:=a) (l:=l) (p:=p) (f:=f) (sg:=sg) (wd:=wd) cs (r / 26) (x++lt1 (r % 26)) (m+1) (Wn (.int c)) hxy (by rw[len_cat,hn];rfl) (by simp at hm ⊢;lia);have hcl:m+(c::cs).length=m+1+cs.length:=by rw[Os];lia
  refine⟨r',x',k',by rw[hcl];exact h1,by rw[hcl];exact h2,?_⟩;have e4:opB .Mod (.int r) (.int 26) h=.ok (.int (r % 26)) h:=ZN (by decide);have e5:opB .FloorDiv (.int r) (.int 26) h=.ok (.int (r / 26)) h:=ZcI (by decide);rw[Op,ZdX];simp[e4,e1,e2,e5,e3]
def Zs0(x:Str)(l u:Option Int):(Yp x l u).length<=x.length:=by
 unfold Yp;split
 . exact Oq _
 . show((Builtin.Str.strSliceIndices l u 1 x.length).filterMap (x.cps[·]?)).toArray.size<=_;rw[Of];refine OE (List.length_filterMap_le _ _) ?_;unfold Builtin.Str.strSliceIndices;refine PySem.sliceRange_length_le _ _ _ _ (λ_=>?_) (λz=>absurd (by decide) z);cases l<;>cases u<;>simp<;>lia
def ZdS(hx:Wl m x)(hm:m<=1000)(l u:Option Int):Zjt (.str x) l u h=.ok (.str (Yp x l u)) h/\Wl m (Yp x l u):=by
 refine⟨if_pos (by rw[YB];have:=hx.2;lia),ZoL hx.1 (Zgt _ _ _),?_⟩;have:=hx.2;have q:(Yp x l u).length<=x.length:=Zs0 x l u
 lia
def in4:opC GD .In (.str x) (.tup [.str (O "fn"),.str (O "rec"),.str (O "call"),.str (O "if")]) h=.ok (.bl (Wt (x∈[O "fn",O "rec",O "call",O "if"]))) h:=ZcH (ss:=[O "fn",O "rec",O "call",O "if"])
def len_str(hx:Wl m x)(hm:m<=1000):Z0 GD .len [.str x] h=.ok (.int x.length) h:=by show(if x.length<=sizeLine then _ else _)=_;exact if_pos (by rw[YB];have:=hx.2;lia)
def Zse(hx:Wl m x)(hm:m<=1000):opB .Mult (.str (O "q")) (.int x.length) h=.ok (.str (Zfr (O "q") x.length)) h/\Wl m (Zfr (O "q") x.length):=by
 have hq:(O "q").length=1:=by decide +kernel
 have:=hx.2;refine⟨if_pos ⟨by lia,by lia,by rw[hq];decide⟩,ZoM (by decide +kernel) _,?_⟩;rw[ZeN,hq]
 lia
def nmW(b:Str)(l p r c:Int):Str:=if r / 26 % 4=1 then Yp b Wo (Wn (8 - c))else Yp b Wo (Wn p)++lt1 ((r+5 * c) % 26)++Yp b (Wn (p+1)) (Wn l)
def nmQ(w:Str):Str:=if w∈[O "fn",O "rec",O "call",O "if"]then Zfr (O "q") w.length else w
def nm(b:Str)(l p r c:Int):Str:=nmQ (nmW b l p r c)
def ZoP(hb:Wl 8 b)(l p r c:Int):Wl 20 (nmW b l p r c):=by
 unfold nmW;split
 . have q:=(ZdS (h:=[]) hb (by decide) Wo (Wn (8 - c))).2;exact⟨q.1,by have:=q.2;lia⟩
 . have q1:=(ZdS (h:=[]) hb (by decide) Wo (Wn p)).2;have q2:=(ZkX (GD:=λ_=>Wo) (h:=[]) ((r+5 * c) % 26) (by lia) (by lia)).2;have q3:=(ZdS (h:=[]) hb (by decide) (Wn (p+1)) (Wn l)).2;have q:=(Zfe (h:=[]) (Zfe (h:=[]) q1 q2 (by decide)).2 q3 (by decide)).2;exact⟨q.1,by have:=q.2;lia⟩
def Zv4(hb:Wl 8 b)(l p r c:Int):Wl 20 (nm b l p r c):=by
 unfold nm nmQ;split
 . exact(Zse (h:=[]) (ZoP hb l p r c) (by decide)).2
 . exact ZoP hb l p r c
def Zt1:Sx:=.set (.nm 8) (.ix (.v 1) (.bin .Mod (.bin .Add (.v 4) (.bin .Mult (.ci 5) (.v 6))) (.ci 26)))
def Zt0:Sx:=.set (.nm 9) (.bin .Add (.bin .Add (.sl (.v 5) Wo (Wn (.v 3))) (.v 8)) (.sl (.v 5) (Wn (.bin .Add (.v 3) (.ci 1))) (Wn (.v 2))))
def ZtW:Tx:=.ex (.cmp .Eq (.bin .Mod (.bin .FloorDiv (.v 4) (.ci 26)) (.ci 4)) (.ci 1))
def Zwc:Sx:=.set (.nm 9) (.sl (.v 5) Wo (Wn (.bin .Sub (.ci 8) (.v 6))))
def ZtV:Exs:=(.c (.Ci_ "fn") (.c (.Ci_ "rec") (.c (.Ci_ "call") (.c (.Ci_ "if") .n))))
def Zwd:Sx:=.set (.nm 9) (.bin .Mult (.Ci_ "q") (.blt .len (.c (.v 9) .n)))
def ZtY:Sx:=.drp (.meth .app (.v 7) (.c (.v 9) .n))
def ZtX:Sxs:=.c (.iff (.ex (.cmp .In (.v 9) (.tupl ZtV))) (.c Zwd .n) .n) (.c ZtY .n)
def ZtZ:Sxs:=.c Zt1 (.c Zt0 (.c (.iff ZtW (.c Zwc .n) .n) ZtX))
def vn(a:Option D)(l p r:Int)(b:Str)(q:Nat)(k sg wd:Option D):Ev:=[a,Wn (.str Zy),Wn (.int l),Wn (.int p),Wn (.int r),Wn (.str b),k,Wn (.ref q),sg,wd]
def ZoY(hw:Wl 20 wd)(hz:ds.length<16777216):xs2 U ZtX (vn a l p r b h.length k sg (Wn (.str wd))) (h++[.lst ds])=.ok (.nx,vn a l p r b h.length k sg (Wn (.str (nmQ wd)))) (h++[.lst (ds++[.str (nmQ wd)])]):=by
 have ap:∀w:Str,xs1 U ZtY (vn a l p r b h.length k sg (Wn (.str w))) (h++[.lst ds])=.ok (.nx,vn a l p r b h.length k sg (Wn (.str w))) (h++[.lst (ds++[.str w])]):=λw=>by have e:=ZfU (ZiH (U:=U) (S:=vn a l p r b h.length k sg (Wn (.str w))) (o:=.var 7) (es:=.cons (.var 9) .nil) rfl ZaH rfl (ZbE (d:=.str w) (ZaH (h:=h) (x:=.lst ds) (r:=[])) (by rw[YB];exact hz)));rw[show(h++[DO.lst ds]).set h.length (.lst (ds++[.str w]))=h++[.lst (ds++[.str w])] by simp]at e;exact e
 have i4:tst U (.ex (.cmp .In (.var 9) (.tupl ZtV))) (vn a l p r b h.length k sg (Wn (.str wd))) (h++[.lst ds])=.ok (Wt (wd∈[O "fn",O "rec",O "call",O "if"])) (h++[.lst ds]):=Zaz ((Zn (x:=.str wd) rfl (ZaA (xs:=[.str (O "fn"),.str (O "rec"),.str (O "call"),.str (O "if")]) rfl (by decide))).trans in4);unfold nmQ;by_cases hin:wd∈[O "fn",O "rec",O "call",O "if"]
 . rw[if_pos hin];exact(Za ((Zu (Zq i4 (decide_eq_true hin))).trans ((Za (Zl ((Zt rfl (Zev rfl (len_str hw (by decide)))).trans (Zse hw (by decide)).1))).trans rfl))).trans ((Za (ap _)).trans rfl)
 . rw[if_neg hin];exact(Za ((Zs (Zq i4 (decide_eq_false hin))).trans rfl)).trans ((Za (ap _)).trans rfl)
def Zwe(hb:Wl 8 b)(hc:0<=c/\c<100)(hz:ds.length<16777216):xs2 U ZtZ (vn a l p r b h.length (Wn (.int c)) sg wd) (h++[.lst ds])=.ok (.nx,vn a l p r b h.length (Wn (.int c)) (Wn (.str (lt1 ((r+5 * c) % 26)))) (Wn (.str (nm b l p r c)))) (h++[.lst (ds++[.str (nm b l p r c)])]):=by
 obtain⟨e1,hy⟩:=ZkX (GD:=U.GD) (h:=h++[.lst ds]) ((r+5 * c) % 26) (by lia) (by lia);obtain⟨f1,w1⟩:=ZdS (h:=h++[.lst ds]) hb (by decide) Wo (Wn p);obtain⟨f2,w2⟩:=ZdS (h:=h++[.lst ds]) hb (by decide) (Wn (p+1)) (Wn l);obtain⟨f3,w3⟩:=ZdS (h:=h++[.lst ds]) hb (by decide) Wo (Wn (8 - c));obtain⟨c1,v1⟩:=Zfe (h:=h++[.lst ds]) w1 hy (by decide);obtain⟨c2,v2⟩:=Zfe (h:=h++[.lst ds]) v1 w2 (by decide);have m5:opB .Mult (.int 5) (.int c) (h++[.lst ds])=.ok (.int (5 * c)) (h++[.lst ds]):=ZeR ⟨ZV (by decide) (by decide),ZV (by lia) (by lia)⟩;unfold nm nmW;generalize lt1 ((r+5 * c) % 26)=y at *;have x8:xs1 U Zt1 (vn a l p r b h.length (Wn (.int c)) sg wd) (h++[.lst ds])=.ok (.nx,vn a l p r b h.length (Wn (.int c)) (Wn (.str y)) wd) (h++[.lst ds]):=Zl ((ZD (x:=.str Zy) rfl ((Zt (x:=.int (r+5 * c)) ((Zt rfl ((Zt rfl rfl).trans m5)).trans rfl) rfl).trans (ZN (by decide)))).trans e1);have g1:ev U (.sl (.var 5) Wo (Wn (.var 3))) (vn a l p r b h.length (Wn (.int c)) (Wn (.str y)) wd) (h++[.lst ds])=.ok (.str (Yp b Wo (Wn p))) (h++[.lst ds]):=f1;have g2:ev U (.sl (.var 5) (Wn (.bin .Add (.var 3) (.ci 1))) (Wn (.var 2))) (vn a l p r b h.length (Wn (.int c)) (Wn (.str y)) wd) (h++[.lst ds])=.ok (.str (Yp b (Wn (p+1)) (Wn l))) (h++[.lst ds]):=f2;have g3:∀w,ev U (.sl (.var 5) Wo (Wn (.bin .Sub (.ci 8) (.var 6)))) (vn a l p r b h.length (Wn (.int c)) (Wn (.str y)) w) (h++[.lst ds])=.ok (.str (Yp b Wo (Wn (8 - c)))) (h++[.lst ds]):=λ_=>f3;have x9:xs1 U Zt0 (vn a l p r b h.length (Wn (.int c)) (Wn (.str y)) wd) (h++[.lst ds])=.ok (.nx,vn a l p r b h.length (Wn (.int c)) (Wn (.str y)) (Wn (.str (Yp b Wo (Wn p)++y++Yp b (Wn (p+1)) (Wn l))))) (h++[.lst ds]):=Zl ((Zt ((Zt g1 rfl).trans c1) g2).trans c2);have tt:tst U ZtW (vn a l p r b h.length (Wn (.int c)) (Wn (.str y)) (Wn (.str (Yp b Wo (Wn p)++y++Yp b (Wn (p+1)) (Wn l))))) (h++[.lst ds])=.ok (Wt (r / 26 % 4=1)) (h++[.lst ds]):=ZfC ((Zt (x:=.int (r / 26)) ((Zt rfl rfl).trans (ZcI (by decide))) rfl).trans (ZN (by decide))) rfl;refine(Za x8).trans ((Za x9).trans ?_);by_cases hr:r / 26 % 4=1
 . rw[if_pos hr];exact(Za ((Zu (Zq tt (decide_eq_true hr))).trans ((Za (Zl (g3 _))).trans rfl))).trans (ZoY ⟨w3.1,by have:=w3.2;lia⟩ hz)
 . rw[if_neg hr];exact(Za ((Zs (Zq tt (decide_eq_false hr))).trans rfl)).trans (ZoY ⟨v2.1,by have:=v2.2;lia⟩ hz)
theorem Zl8(hb:Wl 8 b):∀(ks:List Int) (fo:List Str) (k sg wd:Option D),fo.length+ks.length<=100->(∀c∈ks,0<=c/\c<100)->∃k' sg' wd',
 Z3 [] (.nm 6) (xs2 U ZtZ) (ks.map D.int) (vn a l p r b h.length k sg wd) (h++[.lst (fo.map .str)])
  = .ok (.nx,vn a l p r b h.length k' sg' wd') (h++[.lst ((fo++ks.map (nm b l p r)).map .str)])
 |[],fo,k,sg,wd,h2,h3=>⟨k,sg,wd,by rw[Oy,Oy,Ys];rfl⟩
 |c::cs,fo,k,sg,wd,h2,h3=>by rw[Os]at h2;obtain⟨k',sg',wd',e3⟩:=Zl8 (U:=U) (h:=h) (a:=a) (l:=l) (p:=p) (r:=r) hb cs (fo++[nm b l p r c]) (Wn (.int c)) (Wn (.str (lt1 ((r+5 * c) % 26)))) (Wn (.str (nm b l p r c))) (by rw[OA,List.length_singleton];lia) (λz hz=>h3 z (.tail _ hz));refine⟨k',sg',wd',(ZgT rfl (Zwe hb (h3 c (.head _)) (by rw[Yt];lia))).trans ?_⟩;rw[List.map_append,Oz]at e3;exact e3
def Zt4:∀k∈[[102,110],[114,101,99],[99,97,108,108],[105,102]],∀l∈[[102,110],[114,101,99],[99,97,108,108],[105,102],YJ k.length 113],k=l\/k.length≠l.length\/∀i,i<4->∃j,j<4/\j≠i/\k[j]?≠l[j]? := by decide +kernel
def Zl9(ne:x≠y)(a:List Nat)(h:a++x::b∈[[102,110],[114,101,99],[99,97,108,108],[105,102]]):a++y::b ∉ [[102,110],[114,101,99],[99,97,108,108],[105,102]]/\a++y::b≠YJ (a++x::b).length 113:=by
 have l4:(a++x::b).length<=4:=by
  have:∀k∈[[102,110],[114,101,99],[99,97,108,108],[105,102]],k.length<=4:=by decide
  exact this _ h
 have sl:(a++x::b).length=(a++y::b).length:=by simp
 have no:∀l∈[[102,110],[114,101,99],[99,97,108,108],[105,102],YJ (a++x::b).length 113],a++y::b≠l:=λl hl e=>by
  rcases Zt4 _ h l hl with q|q|q
  . rw[<- e]at q;exact ne (List.cons.inj (List.append_cancel_left q)).1
  . exact q (by rw[<- e];exact sl)
  . obtain⟨j,_,nj,d⟩:=q a.length (by simp at l4;lia);rw[<- e]at d;rcases Nat.lt_or_ge j a.length with z|z
    . exact d (by rw[Oe z,Oe z])
    . rw[Om z,Om z]at d;obtain⟨m,hm⟩:∃m,j - a.length=m+1:=⟨j - a.length - 1,by lia⟩
      rw[hm]at d;exact d rfl
 refine⟨λm=>no _ (Yr [YJ (a++x::b).length 113] m) rfl,no _ (Ov [[102,110],[114,101,99],[99,97,108,108],[105,102]] (Ox.mpr rfl))⟩
def Zo3:w∈[O "fn",O "rec",O "call",O "if"]↔w.cps.toList∈[[102,110],[114,101,99],[99,97,108,108],[105,102]]:=by
 have e:[[102,110],[114,101,99],[99,97,108,108],[105,102]]=[O "fn",O "rec",O "call",O "if"].map (·.cps.toList):=by decide +kernel
 rw[e];refine⟨λh=>List.mem_map_of_mem h,λh=>?_⟩;obtain⟨v,hv,q⟩:=List.mem_map.mp h;have:v=w:=by obtain⟨⟨v⟩⟩:=v;obtain⟨⟨w⟩⟩:=w;cases q;rfl
 exact this ▸ hv
def Zjm:∀n,(Zfr (O "q") n).cps.toList=YJ n 113
 |n=>by
  have:∀(n:Nat) (a:Array Nat),((YJ n (O "q").cps).foldl (·++·) a).toList=a.toList++YJ n 113:=by
   intro n;induction n with
   |zero=>intro a;simp
   |succ n ih=>intro a;rw[List.replicate_succ,Wi,ih,Array.toList_append,Oz,List.replicate_succ];rfl
  have q:=this n #[];simpa[Zfr]using q
def nq(hv:v.cps.toList=a++x::b)(hw:w.cps.toList=a++y::b)(ne:x≠y):nmQ v≠nmQ w:=by
 have hl:v.length=(a++x::b).length/\w.length=(a++y::b).length:=by rw[<- hv,<- hw];exact⟨by simp[Str.length],by simp[Str.length]⟩
 unfold nmQ;intro e;have e':=congrArg (·.cps.toList) e;simp only[Zo3]at e';split at e'
 . rename_i kv;rw[hv]at kv;obtain⟨k1,k2⟩:=Zl9 ne a kv;rw[if_neg (by rw[hw];exact k1),Zjm,hw,hl.1]at e';exact k2 e'.symm
 . split at e'
   . rename_i kw;rw[hw]at kw;obtain⟨k1,k2⟩:=Zl9 (YK ne) a kw;rw[Zjm,hv,hl.2]at e';exact k2 e'
   . rw[hv,hw]at e';have:=List.append_cancel_left e';exact ne (List.cons.inj this).1
def Zl0(w:Str):(nmQ w).length=w.length:=by
 unfold nmQ;split
 . rw[ZeN,show(O "q").length=1 by decide +kernel,Nat.mul_one]
 . rfl
def Zrg:∀i j:Fin 26,ltr (i.val:Int)=ltr (j.val:Int)->i=j:=by decide +kernel
theorem Zv5(hb:b.length=8)(hc:0<=c/\c<5)(hd:0<=d/\d<5)(ne:c≠d):nm b l p r c≠nm b l p r d:=by
 unfold nm nmW;split
 . intro e;have e':=congrArg Str.length e;have len:∀ z:Int,0<=z/\z<5->(Yp b Wo (Wn (8 - z))).length=(8 - z).toNat:=fun z hz=>by
     have h8:b.cps.toList.length=8:=by simpa [Str.length] using hb
     rw [StrLaws.sliceText_to ⟨by lia,by lia⟩];show (List.take (8 - z - 0).toNat (List.drop 0 b.cps.toList)).toArray.size=_;rw [Of,List.length_take,List.drop_zero,h8]
     lia
   rw [Zl0,Zl0,len c hc,len d hd] at e'
   lia
 . refine nq (a:=(Yp b Wo (Wn p)).cps.toList) (b:=(Yp b (Wn (p+1)) (Wn l)).cps.toList) (x:=ltr ((r+5 * c) % 26)) (y:=ltr ((r+5 * d) % 26)) ?_ ?_ ?_
   . show (_++#[ltr ((r+5 * c) % 26)]++_:Array Nat).toList=_;simp
   . show (_++#[ltr ((r+5 * d) % 26)]++_:Array Nat).toList=_;simp
   . intro e;have q:=Zrg ⟨((r+5 * c) % 26).toNat,by lia⟩ ⟨((r+5 * d) % 26).toNat,by lia⟩ (by
       show ltr (((r+5 * c) % 26).toNat:Int)=ltr (((r+5 * d) % 26).toNat:Int);rw [Int.toNat_of_nonneg (by lia),Int.toNat_of_nonneg (by lia)];exact e)
     have q:=Fin.mk.inj q
     lia
def ZoO(hb:b.length=8):(([0,1,2,3,4]:List Int).map (nm b l p r)).Nodup:=by
 refine List.pairwise_map.mpr (List.Pairwise.imp_of_mem (R:=λx y=>x≠y) (λ{x y} hx hy ne=>Zv5 hb ?_ ?_ ne) (by decide))
 . simp at hx;lia
 . simp at hy;lia
def Zqn(H:Mk0 P)(n:Nat)(v:Int)(h:Hd):∃ns:List Str,ns.length=5/\(∀x∈ns,Wl 20 x)/\ns.Nodup/\run P (n+1) (O "_law_names") [.int v] h=.ok (.ref h.length) (h++[.lst (ns.map .str)]):=by
 rw[Zd H.names rfl];have u8:ZY 0 8=[0,1,2,3,4,5,6,7].map D.int:=by rfl
 have u5:ZY 0 5=[0,1,2,3,4].map D.int:=by rfl
 have m8:opB .Mod (.int v) (.int 8) h=.ok (.int (v % 8)) h:=ZN (by decide);have d8:opB .FloorDiv (.int v) (.int 8) h=.ok (.int (v / 8)) h:=ZcI (by decide);have mp:opB .Mod (.int (v / 8)) (.int (1+v % 8)) h=.ok (.int (v / 8 % (1+v % 8))) h:=ZN (by lia);have d64:opB .FloorDiv (.int v) (.int 64) h=.ok (.int (v / 64)) h:=ZcI (by decide);obtain⟨r',b,k',hb,hb8,e1⟩:=Zo2 (U:=⟨P.G,P.GD,run P n,P.L⟩) (h:=h) (a:=Wn (.int v)) (l:=Wn (.int (1+v % 8))) (p:=Wn (.int (v / 8 % (1+v % 8)))) (f:=Wo) (sg:=Wo) (wd:=Wo) [0,1,2,3,4,5,6,7] (v / 64) (O "") 0 Wo ⟨by decide +kernel,by decide +kernel⟩ (by decide +kernel) (by decide);obtain⟨k2,sg',wd',e2⟩:=Zl8 (U:=⟨P.G,P.GD,run P n,P.L⟩) (h:=h) (a:=Wn (.int v)) (l:=1+v % 8) (p:=v / 8 % (1+v % 8)) (r:=r') hb [0,1,2,3,4] [] k' Wo Wo (by decide) (by decide);refine⟨[0,1,2,3,4].map (nm b (1+v % 8) (v / 8 % (1+v % 8)) r'),rfl,λx hx=>?_,ZoO hb8,?_⟩
 . obtain⟨c,_,rfl⟩:=List.mem_map.mp hx;exact Zv4 hb _ _ _ _
 generalize nm b (1+v % 8) (v / 8 % (1+v % 8)) r'=F at e2 ⊢;simp only[Oy,OB]at e2;have s8:Zas 8=Wp:=by decide
 have s5:Zas 5=Wp:=by decide
 unfold Zy at e1;unfold vn ZtZ ZtX Zt1 Zt0 ZtW Zwc ZtV Zwd ZtY Zy at e2;rw[<- u8]at e1;rw[<- u5]at e2
 try simp at e1
 try simp at e2
 simp[Zdo,Zf0,ZB,m8,d8,mp,d64,s8,s5,e1,e2,YB]
end Gn
end
namespace Gn
open PySem L2 IV
set_option tactic.hygienic false
noncomputable abbrev Scp:=List (Str×Str)
noncomputable def pairOf(p:Str×Str):D:=.tup [.str p.1,.str p.2]
def ZnC(h:Hd)(k:Nat)(sc:Scp):Prop:=h[k]? = Wn (.lst (sc.map pairOf))
structure KnOk(sc:Scp)(kn:List (Key×D)):Prop where
 key:∀p∈kn,∃x,p.1=YD x/\x∈sc.map (·.1)
 val:∀p∈kn,∃s,p.2=D.str s
def Zjp(h:p∈putD kn k v):p∈kn\/p=(k,v):=by
 unfold putD at h;split at h
 . obtain⟨q,hq,e⟩:=List.mem_map.mp h;split at e
   . rename_i ek;right;rw[<- e,ek]
   . left;rw[<- e];exact hq
 . rcases OD.mp h with z|z
   . exact .inl z
   . exact .inr (Ox.mp z)
def Zog:(putD kn k v).length<=kn.length+1:=by unfold putD;split<;>simp
def Zqx(hz:kn.length<1000):Zau (.ref h.length) (.str x) v (h++[.dic kn])=.ok () (h++[.dic (putD kn (.inr x) v)]):=by simp only[Zau,ZaH,keyOf];rw[if_pos (by rw[YB];lia)];simp
theorem Zl7(hs:ZnC h k sc0):∀(sc:Scp) (kn:List (Key×D)) (a b:Option D),(∀p∈sc,p∈sc0)->KnOk sc0 kn->kn.length+sc.length<=500->∃kn' a' b',KnOk sc0 kn'/\kn'.length<=kn.length+sc.length /\
 Z3 [(k,sc0.map pairOf)] (.two 3 4) (xs2 U (.cons (.put (.var 2) (.var 3) (.var 4)) .nil)) (sc.map pairOf) [Wn (.ref k),w,Wn (.ref h.length),a,b] (h++[.dic kn])
  = .ok (.nx,[Wn (.ref k),w,Wn (.ref h.length),a',b']) (h++[.dic kn'])
 |[],kn,a,b,h1,h2,h3=>by
  refine⟨kn,a,b,h2,by simp,?_⟩;have:(h++[DO.dic kn])[k]? = Wn (.lst (sc0.map pairOf)):=by rw[Oe (ZH hs)];exact hs
  simp[Z3,Wk.stays,this]
 |(x,s)::sc,kn,a,b,h1,h2,h3=>by
  simp only[Os]at h3;have st:(h++[DO.dic kn])[k]? = Wn (.lst (sc0.map pairOf)):=by rw[Oe (ZH hs)];exact hs
  have hk:KnOk sc0 (putD kn (.inr x) (.str s)):=by
   refine⟨λp hp=>?_,λp hp=>?_⟩
   . rcases Zjp hp with z|rfl
     . exact h2.key p z
     . exact⟨x,rfl,List.mem_map.mpr ⟨(x,s),h1 _ (by simp),rfl⟩⟩
   . rcases Zjp hp with z|rfl
     . exact h2.val p z
     . exact⟨s,rfl⟩
  have pl:=Zog (kn:=kn) (k:=.inr x) (v:=.str s);obtain⟨kn',a',b',q1,q2,e⟩:=Zl7 (U:=U) (w:=w) hs sc (putD kn (.inr x) (.str s)) (Wn (.str x)) (Wn (.str s)) (λp hp=>h1 p (by simp[hp])) hk (by lia);refine⟨kn',a',b',q1,by simp only[Os];lia,?_⟩;rw[Op,Z3];simp only[Wk.stays,st,decide_true,if_true];have e2:=Zqx (h:=h) (kn:=kn) (x:=x) (v:=.str s) (by lia);simp[pairOf,e2];simpa[pairOf]using e
def find_key(hx:YD x∈kn.map (·.1)):∃v,ZK kn (.inr x)=Wn v/\(YD x,v)∈kn:=by
 induction kn with
 |nil=>simp at hx
 |cons p r ih=>
  unfold ZK;by_cases e:p.1=YD x
  . refine⟨p.2,?_,?_⟩
    . simp[Wj,e]
    . rw[<- e];exact Oi
  . obtain⟨v,h1,h2⟩:=ih (by simpa[YK e]using hx);refine⟨v,?_,Oh _ h2⟩;simpa[Wj,e,ZK]using h1
theorem Zmc{sc:Scp}:∀{kn:List (Key×D)},(∀p∈kn,∃x,p.1=YD x/\x∈sc.map (·.1))->∃ss,Z7 kn=Wn ss/\ss.length=kn.length/\(∀x∈ss,x∈sc.map (·.1)/\YD x∈kn.map (·.1))
 |[],_=>⟨[],rfl,rfl,by simp⟩
 |(k,v)::r,h=>by
  obtain⟨x,e,hx⟩:=h (k,v) (by simp);cases e;obtain⟨ss,e1,e2,e3⟩:=Zmc (kn:=r) λp hp=>h p (by simp[hp]);refine⟨x::ss,by rw[Z7,e1];rfl,by simp[e2],λy hy=>?_⟩;rcases O2.mp hy with rfl|hy
  . exact⟨hx,by simp⟩
  . exact⟨(e3 y hy).1,by simp[(e3 y hy).2]⟩
theorem ZkY{U:Tb}{so:List Str}(hv:∀p∈kn,∃s,p.2=D.str s):∀(xs:List Str) (acc:List Str),(∀x∈xs,YD x∈kn.map (·.1))->acc.length+xs.length<=1000->∃ys,(∀y∈ys,y∈xs) /\
 Zz [(h.length+1,so.map D.str)] (.nm 0) (tsto U (Wn (.ex (.cmp .Eq (.ix (.var 2) (.var 0)) (.var 1))))) (ev U (.var 0)) (xs.map D.str) [Wo,Wn (.str w),Wn (.ref h.length)] (acc.map .str) (h++[.dic kn,.lst (so.map .str)])
  = .ok ((acc++ys).map .str) (h++[.dic kn,.lst (so.map .str)])
 |[],acc,h1,h2=>⟨[],by simp,by simp[Zz,Wk.stays]⟩
 |x::xs,acc,h1,h2=>by
  simp only[Os]at h2;obtain⟨v,e1,hm⟩:=find_key (h1 x (by simp));obtain⟨s,rfl⟩:∃s,v=D.str s:=hv _ hm;have ix:Za8 U.GD (.ref h.length) (.str x) (h++[.dic kn,.lst (so.map .str)])=.ok (.str s) (h++[.dic kn,.lst (so.map .str)]):=by simp[Za8,dicOf,e1]
  have hz:acc.length<sizeLine:=by rw[YB];lia
  by_cases hw:s=w
  . obtain⟨ys,q1,q2⟩:=ZkY (U:=U) (h:=h) (w:=w) (so:=so) hv xs (acc++[x]) (λy hy=>h1 y (by simp[hy])) (by simp;lia);refine⟨x::ys,λy hy=>?_,?_⟩
    . rcases O2.mp hy with rfl|hy
      . simp
      . simp[q1 y hy]
    . rw[Op,ZaP];simp at q2;simp[Wk.stays,hz,ix,hw,q2]
  . obtain⟨ys,q1,q2⟩:=ZkY (U:=U) (h:=h) (w:=w) (so:=so) hv xs acc (λy hy=>h1 y (by simp[hy])) (by lia);refine⟨ys,λy hy=>by simp[q1 y hy],?_⟩;rw[Op,ZaP];simp at q2;simp[Wk.stays,hz,ix,hw,q2]
def Zqm{P:Pg}(H:Mk0 P)(n:Nat){sc:Scp}(w:Str)(hs:ZnC h k sc)(hl:sc.length<=60)(hok:∀p∈sc,Yo p.1=Wp):∃(ys:List Str) (g:Hd),(∀y∈ys,y∈sc.map (·.1))/\g.length=2 /\
 run P (n+1) (O "_law_there") [.ref k,.str w] h=.ok (.ref (h.length+2)) (h++g++[.lst (ys.map .str)]):=by
 rw[Zd H.there rfl];obtain⟨kn,a',b',hk,hkl,e1⟩:=Zl7 (U:=⟨P.G,P.GD,run P n,P.L⟩) (w:=Wn (.str w)) hs sc [] Wo Wo (λ_ hp=>hp) ⟨by simp,by simp⟩ (by simp;lia);obtain⟨ss,e2,e3,e4⟩:=Zmc hk.key;have all:ss.all Yo=Wp:=by rw[OC];intro x hx;obtain⟨p,hp,rfl⟩:=List.mem_map.mp (e4 x hx).1;exact hok p hp
 have perm:=ZdR ss;obtain⟨ys,q1,q2⟩:=ZkY (U:=⟨P.G,P.GD,run P n,P.L⟩) (h:=h) (kn:=kn) (w:=w) (so:=Zcq ss) hk.val (Zcq ss) [] (λx hx=>(e4 x (perm.mem_iff.mp hx)).2) (by rw[perm.length_eq];simp at hkl ⊢;lia);refine⟨ys,[.dic kn,.lst ((Zcq ss).map .str)],λy hy=>(e4 y (perm.mem_iff.mp (q1 y hy))).1,rfl,?_⟩;have hsrt:Z0 P.GD .srt [.ref h.length] (h++[.dic kn])=.ok (.ref (h.length+1)) (h++[.dic kn,.lst ((Zcq ss).map .str)]):=by show Zfo P.GD [.ref h.length] (h++[.dic kn])=_;simp only[Zfo,dicOf,ZaH,Yy,e2];rw[if_pos ⟨by simp at hkl;lia,all⟩];simp
 have hw1:ZaN (.ref k) (h++[DO.dic []])=Wn ⟨[(k,sc.map pairOf)],sc.map pairOf⟩:=by
  have:(h++[DO.dic []])[k]? = Wn (.lst (sc.map pairOf)):=by rw[Oe (ZH hs)];exact hs
  simp[ZaN,this]
 have hw2:ZaN (.ref (h.length+1)) (h++[DO.dic kn,.lst ((Zcq ss).map .str)])=Wn ⟨[(h.length+1,(Zcq ss).map .str)],(Zcq ss).map .str⟩:=by simp[ZaN]
 simp at q2 e1;simp[Zdn,ZfZ,ZB,Zcj,ZcK,hw1,e1,hsrt,hw2,ZbI,q2]
set_option tactic.hygienic true
section
structure Ctx(cs:List Int)(ns:List Str)(h:Hd)(i j m k:Nat)(sc:Scp)(a b:Int):Prop where
 st:St3 h i j cs a b
 nm:h[m]? = Wn (.lst (ns.map .str))
 n5:ns.length=5
 nok:∀x∈ns,Wl 20 x
 nd:ns.Nodup
 sca:ZnC h k sc
 sco:∀p∈sc,Wl 20 p.1
 im:i≠m
 ik:i≠k
 ab:0<=a
variable {P:Pg}{cs:List Int}{ns:List Str}{h h':Hd}{i j m k:Nat}{sc:Scp}{a b a' b':Int}
def Ctx.up(c:Ctx cs ns h i j m k sc a b)(u:Up i h h')(st:St3 h' i j cs a' b')(ab:0<=a'):Ctx cs ns h' i j m k sc a' b':=⟨st,u.at c.nm (YK c.im),c.n5,c.nok,c.nd,u.at c.sca (YK c.ik),c.sco,c.im,c.ik,ab⟩
def St3.app(s:St3 h i j cs a b):St3 (h++g) i j cs a b:=⟨by rw[Oe (ZH s.1)];exact s.1,by rw[Oe (ZH s.2.1)];exact s.2.1,s.2.2⟩
theorem Ctx.app(c:Ctx cs ns h i j m k sc a b):Ctx cs ns (h++g) i j m k sc a b:=c.up Up.app c.st.app c.ab
def Ctx.name(c:Ctx cs ns h i j m k sc a b)(v:Int)(h0:0<=v)(h5:v<5):∃x,Za8 GD (.ref m) (.int v) h=.ok (.str x) h/\Wl 20 x/\ns[v.toNat]? = Wn x:=by
 obtain⟨q,rfl⟩:∃q:Nat,v=q:=⟨v.toNat,by lia⟩
 have hq:q<ns.length:=by have:=c.n5;lia
 refine⟨ns[q],?_,c.nok _ (List.getElem_mem hq),Og hq⟩;rw[ZP c.nm,IV.Zce,On,Og hq];rfl
noncomputable def A(r:Nat):Int:=4 ^ (r+1)
def Zkp(r:Nat):0<A r:=Int.pow_pos (by decide)
def ZuV(r:Nat):A (r+1)=4 * A r:=by unfold A;rw[Int.pow_succ];lia
noncomputable def pz(x:Int):Int:=max x 0
inductive Made(cs:List Int)(h:Hd)(i j:Nat)(sc:Scp)(a b ex mx:Int)(dm:Nat)(r:R D):Prop
 |mk (t:T) (h':Hd) (a' b':Int) (e:r=.ok (T.d t) h') (u:Up i h h') (s:St3 h' i j cs a' b') (l1:a<=a') (l2:a'<=a+mx) (c:Cl (sc.map (·.1)) t) (p:nb t<=dep t/\dep t<=dm) (z:fw t<=3 * (pz b - pz b')+ex)
def ZmH(P:Pg)(r n0:Nat):Prop:=∀(n:Nat) (cs:List Int) (ns:List Str) (h:Hd) (i j m k:Nat) (sc:Scp) (a b:Int) (w:Str) (room:Int),room<=r->Ctx cs ns h i j m k sc a b->sc.length+2 * r<=50->a+A r<2 ^ 50 ->
 Made cs h i j sc a b 0 (A r) (3 * r+3) (run P (n+n0) (O "_law_any") [.str w,.ref k,.ref i,.ref m,.int room] h)
def ZpU(H:Mk0 P)(n:Nat)(c:Ctx cs ns h i j m k sc a b)(w:Str)(room:Int)(hl:sc.length<=50)(ha:a<2 ^ 50)(T1 T2 T3:Option D):∃(v:Int) (w':Str) (ys:List Str) (h':Hd) (l:Nat),
 xs2 ⟨P.G,P.GD,run P (n+2),P.L⟩ (.cons Za7 (.cons Zcb (.cons Za6 (.cons Zca (.cons Za5 .nil))))) [Wn (.str w),Wn (.ref k),Wn (.ref i),Wn (.ref m),Wn (.int room),T1,T2,T3,Wo,Wo] h
  = .ok (.nx,[Wn (.str w'),Wn (.ref k),Wn (.ref i),Wn (.ref m),Wn (.int room),Wn (.int v),Wn (.int (v / 87)),Wn (.ref l),Wo,Wo]) h'/\Up i h h'/\Ctx cs ns h' i j m k sc (a+1) (b - 1)/\h'[l]? = Wn (.lst (ys.map .str))/\(∀y∈ys,y∈sc.map (·.1)):=by
 have i1:=c.st.1;have lt:=ZH i1;have p1:Zau (.ref i) (.int 2) (.int (b - 1)) h=.ok () (h.set i (.lst [.ref j,.int a,.int (b - 1)])):=by simp only[Zau,i1];rfl
 have s1:St3 (h.set i (.lst [.ref j,.int a,.int (b - 1)])) i j cs a (b - 1):=⟨by rw[Ol lt],by rw[Oc c.st.2.2];exact c.st.2.1,c.st.2.2⟩
 have c1:=c.up Up.set s1 c.ab;obtain⟨v,e2,_⟩:=Zgx H n s1 ⟨c.ab,ha⟩;have lt1:i<(h.set i (.lst [.ref j,.int a,.int (b - 1)])).length:=by simpa using lt
 have s2:St3 ((h.set i (.lst [.ref j,.int a,.int (b - 1)])).set i (.lst [.ref j,.int (a+1),.int (b - 1)])) i j cs (a+1) (b - 1):=⟨by rw[Ol lt1],by rw[Oc c.st.2.2];exact s1.2.1,c.st.2.2⟩
 have c2:=c1.up Up.set s2 (by have:=c.ab;lia);generalize hh2:(h.set i (.lst [.ref j,.int a,.int (b - 1)])).set i (.lst [.ref j,.int (a+1),.int (b - 1)])=h2 at e2 s2 c2;have u2:Up i h h2:=hh2 ▸ Up.set.trans Up.set;have m29:∀h,opB .Mod (.int v) (.int 29) h=.ok (.int (v % 29)) h:=λh=>ZN (by decide);have d29:∀h,opB .FloorDiv (.int v) (.int 29) h=.ok (.int (v / 29)) h:=λh=>ZcI (by decide);have m3:∀h,opB .Mod (.int (v / 29)) (.int 3) h=.ok (.int (v / 29 % 3)) h:=λh=>ZN (by decide);have d87:∀h,opB .FloorDiv (.int v) (.int 87) h=.ok (.int (v / 87)) h:=λh=>ZcI (by decide);have hix:Za8 P.GD (.ref i) (.int 2) h=.ok (.int b) h:=by rw[ZP i1];simp
 have step3:∃(w':Str) (h3:Hd),xs1 ⟨P.G,P.GD,run P (n+2),P.L⟩ Za6 [Wn (.str w),Wn (.ref k),Wn (.ref i),Wn (.ref m),Wn (.int room),Wn (.int v),T2,T3,Wo,Wo] h2
  = .ok (.nx,[Wn (.str w'),Wn (.ref k),Wn (.ref i),Wn (.ref m),Wn (.int room),Wn (.int v),T2,T3,Wo,Wo]) h3/\Up i h2 h3/\Ctx cs ns h3 i j m k sc (a+1) (b - 1):=by
  have tt:tst (P.tbl (n+2)) (.ex (.cmp .Eq (.bin .Mod (.var 5) (.ci 29)) (.ci 0))) [Wn (.str w),Wn (.ref k),Wn (.ref i),Wn (.ref m),Wn (.int room),Wn (.int v),T2,T3,Wo,Wo] h2=.ok (Wt (v % 29=0)) h2:=ZfC ((Zt rfl rfl).trans (m29 h2)) rfl;by_cases hv:v % 29=0
  . have go:∀w':Str,atI [D.str (O "n"),.str (O "f"),.str (O "g")] (v / 29 % 3)=Wn (D.str w')->xs1 (P.tbl (n+2)) Za6 [Wn (.str w),Wn (.ref k),Wn (.ref i),Wn (.ref m),Wn (.int room),Wn (.int v),T2,T3,Wo,Wo] h2
     = .ok (.nx,[Wn (.str w'),Wn (.ref k),Wn (.ref i),Wn (.ref m),Wn (.int room),Wn (.int v),T2,T3,Wo,Wo]) (h2++[.lst [.str (O "n"),.str (O "f"),.str (O "g")]]):=λw' e=>
     (Zu (Zq tt (decide_eq_true hv))).trans ((Za (Zl (Zkb e rfl ((Zt (x:=.int (v / 29)) ((Zt rfl rfl).trans (d29 _)) rfl).trans (m3 _)) (by decide)))).trans rfl)
    have q:v / 29 % 3=0\/v / 29 % 3=1\/v / 29 % 3=2:=by lia
    rcases q with q|q|q
    . exact⟨O "n",_,go _ (by rw[q];rfl),Up.app,c2.app⟩
    . exact⟨O "f",_,go _ (by rw[q];rfl),Up.app,c2.app⟩
    . exact⟨O "g",_,go _ (by rw[q];rfl),Up.app,c2.app⟩
  . exact⟨w,h2,(Zs (Zq tt (decide_eq_false hv))).trans rfl,Up.refl,c2⟩
 obtain⟨w',h3,e3,u3,c3⟩:=step3;obtain⟨ys,g,hy,hg,e5⟩:=Zqm H (n+1) w' c3.sca (by lia) (λp hp=>(c3.sco p hp).1);refine⟨v,w',ys,h3++g++[.lst (ys.map .str)],h3.length+2,?_,(u2.trans u3).trans (Up.app.trans Up.app),c3.app.app,?_,hy⟩
 . have x1:xs1 ⟨P.G,P.GD,run P (n+2),P.L⟩ Za7 [Wn (.str w),Wn (.ref k),Wn (.ref i),Wn (.ref m),Wn (.int room),T1,T2,T3,Wo,Wo] h=.ok (.nx,[Wn (.str w),Wn (.ref k),Wn (.ref i),Wn (.ref m),Wn (.int room),T1,T2,T3,Wo,Wo]) (h.set i (.lst [.ref j,.int a,.int (b - 1)])):=by have q:ev (P.tbl (n+2)) (.bin .Sub (.ix (.var 2) (.ci 2)) (.ci 1)) [Wn (.str w),Wn (.ref k),Wn (.ref i),Wn (.ref m),Wn (.int room),T1,T2,T3,Wo,Wo] h=.ok (.int (b - 1)) h:=(Zt (x:=.int b) ((ZD rfl rfl).trans hix) rfl).trans rfl;rw[Za7,Zid];show(ev (P.tbl (n+2)) (.bin .Sub (.ix (.var 2) (.ci 2)) (.ci 1)) _ h).bnd _=_;rw[q];show(Zau (.ref i) (.int 2) (.int (b - 1)) h).bnd _=_;rw[p1];rfl
   have x2:xs1 ⟨P.G,P.GD,run P (n+2),P.L⟩ Zcb [Wn (.str w),Wn (.ref k),Wn (.ref i),Wn (.ref m),Wn (.int room),T1,T2,T3,Wo,Wo] (h.set i (.lst [.ref j,.int a,.int (b - 1)]))=.ok (.nx,[Wn (.str w),Wn (.ref k),Wn (.ref i),Wn (.ref m),Wn (.int room),Wn (.int v),T2,T3,Wo,Wo]) h2:=by exact Zl (Zo e2 rfl)
   have x4:∀q,xs1 ⟨P.G,P.GD,run P (n+2),P.L⟩ Zca [Wn (.str w'),Wn (.ref k),Wn (.ref i),Wn (.ref m),Wn (.int room),Wn (.int v),q,T3,Wo,Wo] h3=.ok (.nx,[Wn (.str w'),Wn (.ref k),Wn (.ref i),Wn (.ref m),Wn (.int room),Wn (.int v),Wn (.int (v / 87)),T3,Wo,Wo]) h3:=by exact λq=>Zl ((Zt rfl rfl).trans (d87 _))
   have x5:xs1 ⟨P.G,P.GD,run P (n+2),P.L⟩ Za5 [Wn (.str w'),Wn (.ref k),Wn (.ref i),Wn (.ref m),Wn (.int room),Wn (.int v),Wn (.int (v / 87)),T3,Wo,Wo] h3=.ok (.nx,[Wn (.str w'),Wn (.ref k),Wn (.ref i),Wn (.ref m),Wn (.int room),Wn (.int v),Wn (.int (v / 87)),Wn (.ref (h3.length+2)),Wo,Wo]) (h3++g++[.lst (ys.map .str)]):=by simp only[Za5,Zgb,ZiJ,Zg4,Zmk,Zpn,O0,OJ,Option.join_some,ofO_some,Zg,bind_ok,e5];rfl
   exact(Za x1).trans ((Za x2).trans ((Za e3).trans ((Za (x4 _)).trans ((Za x5).trans rfl))))
 . have:h3.length+2=(h3++g).length:=by simp[hg]
   rw[this];simp
end
set_option tactic.hygienic false
section
variable {P:Pg}{cs:List Int}{ns:List Str}{h h':Hd}{i j m k:Nat}{sc:Scp}{a b a' b':Int}
theorem Cl.mono{sc sc':List Str}:∀ {t:T},(∀ x∈sc,x∈sc')->Cl sc t->Cl sc' t
 | .num n,_,c=>c
 | .name x,s,c=>s x c
 | .fn x e,s,c=>⟨Cl.mono (t:=e) (fun y hy=>by
     rcases O2.mp hy with z|z
     . rw [z];exact Oi
     . exact Oh _ (s y z)) c.1,c.2⟩
 | .rcc f x e,s,c=>⟨Cl.mono (t:=e) (fun y hy=>by
     rcases O2.mp hy with z|z
     . rw [z];exact Oi
     . rcases O2.mp z with q|q
       . rw [q];exact Oh _ Oi
       . exact Oh _ (Oh _ (s y q))) c.1,c.2⟩
 | .call f e,s,c=>⟨Cl.mono s c.1,Cl.mono s c.2⟩
 | .iff p q r,s,c=>⟨Cl.mono s c.1,Cl.mono s c.2.1,Cl.mono s c.2.2⟩
 | .op w p q,s,c=>⟨Cl.mono s c.1,Cl.mono s c.2⟩
noncomputable def Zp3(z:Int):Wd:=if z=0 then .add else if z=1 then .sub else if z=2 then .mul else .lt
def wd4(z:Int)(h0:0<=z)(h4:z<4):atI [D.str (O "+"),.str (O "-"),.str (O "*"),.str (O "<")] z=Wn (.str (Zp3 z).s):=by
 have:z=0\/z=1\/z=2\/z=3:=by lia
 rcases this with rfl|rfl|rfl|rfl<;>simp[Zp3,Wd.s]
noncomputable def me(rest:Int)(k i m:Nat)(room:Int)(a b c d:Option D):Ev:=[Wn (.int rest),Wn (.ref k),Wn (.ref i),Wn (.ref m),Wn (.int room),a,b,c,d]
def ZtK(H:Mk0 P)(ih:ZmH P r n0)(hn:1<=n0)(n:Nat)(c:Ctx cs ns h i j m k sc a b)(rest:Int)(room:Int)(hr:room<=r)(hl:sc.length+2 * r<=50)(ha:a+2 * A r<2 ^ 50):
 Made cs h i j sc a b 0 (2 * A r) (3 * r+4) (run P (n+n0+1) (O "_law_number") [.int rest,.ref k,.ref i,.ref m,.int room] h):=by
 have Ap:=Zkp r;rw[Zge H.number rfl];show Made cs h i j sc a b 0 (2 * A r) (3 * r+4) (Ze (xs2 (P.tbl (n+n0)) ZcP (me rest k i m room Wo Wo Wo Wo) h));have x1:∀h,xs1 (P.tbl (n+n0)) ZdD (me rest k i m room Wo Wo Wo Wo) h=.ok (.nx,me rest k i m room (Wn (.int (rest % 6))) Wo Wo Wo) h:=λh=>rfl;rw[ZcP,Za (x1 h)];obtain⟨n1,e1⟩:∃n1,n+n0=n1+1:=⟨n+n0 - 1,by lia⟩
 by_cases h0:rest % 6=0
 . obtain⟨t,g,e2,ct,pt⟩:=Zil H n1 (O "n") (rest / 6) h (sc.map (·.1));refine⟨t,h++g,a,b,?_,Up.app,c.st.app,by lia,by lia,ct,by lia,by lia⟩;rw[<- e1]at e2;have x2:xs1 (P.tbl (n+n0)) ZbM (me rest k i m room (Wn (.int (rest % 6))) Wo Wo Wo) h=.ok (.rt t.d,me rest k i m room (Wn (.int (rest % 6))) Wo Wo Wo) (h++g):=(Zu (Zq (ZfC rfl rfl) (decide_eq_true h0))).trans (Zb (ZaC e2 rfl rfl));rw[Zb x2];rfl
 . have x2:xs1 (P.tbl (n+n0)) ZbM (me rest k i m room (Wn (.int (rest % 6))) Wo Wo Wo) h=.ok (.nx,me rest k i m room (Wn (.int (rest % 6))) Wo Wo Wo) h:=(Zs (Zq (ZfC rfl rfl) (decide_eq_false h0))).trans rfl;rw[Za x2];have lt:tst (P.tbl (n+n0)) (.ex (.cmp .Lt (.var 5) (.ci 3))) (me rest k i m room (Wn (.int (rest % 6))) Wo Wo Wo) h=.ok (Wt (rest % 6<3)) h:=rfl;by_cases h3:rest % 6<3
   . obtain⟨t1,g1,a1,b1,e2,u1,s1,l1,l2,c1,p1,z1⟩:=ih n cs ns h i j m k sc a b (O "n") room hr c hl (by lia);have cc:=c.up u1 s1 (by have:=c.ab;lia);obtain⟨t2,g2,a2,b2,e3,u2,s2,l3,l4,c2,p2,z2⟩:=ih n cs ns (g1++[.lst [.str (O "+"),.str (O "-"),.str (O "*"),.str (O "<")]]) i j m k sc a1 b1 (O "n") room hr cc.app hl (by lia);refine⟨.op (Zp3 (rest / 6 % 4)) t1 t2,g2,a2,b2,?_,u1.trans (Up.app.trans u2),s2,by lia,by lia,⟨c1,c2⟩,by simp only[dep,nb];lia,by simp only[fw];clear ih hl ha;lia⟩;have w4:=wd4 (rest / 6 % 4) (by lia) (by lia);have x3:xs1 (P.tbl (n+n0)) ZbL (me rest k i m room (Wn (.int (rest % 6))) Wo Wo Wo) h=.ok (.rt (T.op (Zp3 (rest / 6 % 4)) t1 t2).d,me rest k i m room (Wn (.int (rest % 6))) (Wn t1.d) Wo Wo) g2:=by refine(Zu (Zq lt (decide_eq_true h3))).trans ?_;refine(Za (ρ1:=me rest k i m room (Wn (.int (rest % 6))) (Wn t1.d) Wo Wo) (h1:=g1) (ZaC e2 rfl rfl)).trans ?_;exact Zb (Zm (ZaA (Zc (Zkb w4 rfl rfl (by simp)) (Zc rfl (Zc (Zo e3 rfl) rfl))) (by simp)))
     rw[Zb x3];rfl
   . have w3:∃ws,(ws=O "f" \/ ws=O "g")/\atI [D.str (O "f"),.str (O "f"),.str (O "g")] (rest % 6 - 3)=Wn (.str ws):=by
      have:rest % 6 - 3=0\/rest % 6 - 3=1\/rest % 6 - 3=2:=by lia
      rcases this with q|q|q<;>rw[q]<;>simp
     obtain⟨ws,hws,w3⟩:=w3;obtain⟨t1,g1,a1,b1,e2,u1,s1,l1,l2,c1,p1,z1⟩:=ih n cs ns (h++[.lst [.str (O "f"),.str (O "f"),.str (O "g")]]) i j m k sc a b ws room hr c.app hl (by lia);have cc:=c.app.up u1 s1 (by have:=c.ab;lia);have dd:∃ws',Za8 P.GD (.ref g1.length) (.str ws) (g1++[.dic [(.inr (O "f"),.str (O "n")),(.inr (O "g"),.str (O "f"))]])=.ok (.str ws') (g1++[.dic [(.inr (O "f"),.str (O "n")),(.inr (O "g"),.str (O "f"))]]):=by
      rcases hws with rfl|rfl
      . exact⟨O "n",by simp[Za8,dicOf,ZK]⟩
      . exact⟨O "f",by simp[Za8,dicOf,ZK]⟩
     obtain⟨ws',dd⟩:=dd;obtain⟨t2,g2,a2,b2,e3,u2,s2,l3,l4,c2,p2,z2⟩:=ih n cs ns (g1++[.dic [(.inr (O "f"),.str (O "n")),(.inr (O "g"),.str (O "f"))]]) i j m k sc a1 b1 ws' room hr cc.app hl (by lia);refine⟨.call t1 t2,g2,a2,b2,?_,Up.app.trans (u1.trans (Up.app.trans u2)),s2,by lia,by lia,⟨c1,c2⟩,by simp only[dep,nb];lia,by simp only[fw];clear ih hl ha;lia⟩;have x3:xs1 (P.tbl (n+n0)) ZbL (me rest k i m room (Wn (.int (rest % 6))) Wo Wo Wo) h=.ok (.nx,me rest k i m room (Wn (.int (rest % 6))) Wo Wo Wo) h:=(Zs (Zq lt (decide_eq_false h3))).trans rfl;have x4:xs1 (P.tbl (n+n0)) ZdC (me rest k i m room (Wn (.int (rest % 6))) Wo Wo Wo) h=.ok (.nx,me rest k i m room (Wn (.int (rest % 6))) Wo (Wn (.str ws)) Wo) (h++[.lst [.str (O "f"),.str (O "f"),.str (O "g")]]):=Zl (i:=7) (Zkb w3 rfl rfl (by simp));have x5:xs1 (P.tbl (n+n0)) ZdB (me rest k i m room (Wn (.int (rest % 6))) Wo (Wn (.str ws)) Wo) (h++[.lst [.str (O "f"),.str (O "f"),.str (O "g")]])=.ok (.nx,me rest k i m room (Wn (.int (rest % 6))) Wo (Wn (.str ws)) (Wn t1.d)) g1:=ZaC e2 rfl rfl;have p6:ev (P.tbl (n+n0)) (.ix (.dictl (.cons (.Ci_ "f") (.cons (.Ci_ "n") (.cons (.Ci_ "g") (.cons (.Ci_ "f") .nil))))) (.var 7)) (me rest k i m room (Wn (.int (rest % 6))) Wo (Wn (.str ws)) (Wn t1.d)) g1=.ok (.str ws') (g1++[.dic [(.inr (O "f"),.str (O "n")),(.inr (O "g"),.str (O "f"))]]):=dd;have x6:xs1 (P.tbl (n+n0)) ZdA (me rest k i m room (Wn (.int (rest % 6))) Wo (Wn (.str ws)) (Wn t1.d)) g1=.ok (.rt (T.call t1 t2).d,me rest k i m room (Wn (.int (rest % 6))) Wo (Wn (.str ws)) (Wn t1.d)) g2:=Zm (ZaA (Zc rfl (Zc rfl (Zc ((Zuy (Zc p6 rfl)).trans e3) rfl))) (by simp));rw[Za x3,Za x4,Za x5,Zb x6];rfl
def Ctx.wider(c:Ctx cs ns h i j m k sc a b)(more:Scp)(hm:∀p∈more,Wl 20 p.1):Ctx cs ns (h++[.lst (more.map pairOf),.lst ((sc++more).map pairOf)]) i j m (h.length+1) (sc++more) a b:=by
 have c1:=c.app (g:=[.lst (more.map pairOf),.lst ((sc++more).map pairOf)]);refine⟨c1.st,c1.nm,c1.n5,c1.nok,c1.nd,by unfold ZnC;simp,λp hp=>?_,c1.im,?_,c1.ab⟩
 . rcases OD.mp hp with z|z
   . exact c.sco p z
   . exact hm p z
 . have:=ZH c.st.1
   lia
def ZiM(c:Ctx cs ns h i j m k sc a b)(more:Scp)(hz:sc.length+more.length<=100):opB .Add (.ref k) (.ref h.length) (h++[.lst (more.map pairOf)])=.ok (.ref (h.length+1)) (h++[.lst (more.map pairOf),.lst ((sc++more).map pairOf)]):=by
 have hk:(h++[DO.lst (more.map pairOf)])[k]? = Wn (.lst (sc.map pairOf)):=by rw[Oe (ZH c.sca)];exact c.sca
 simp only[opB,ZrX,hk,ZaH];rw[if_pos (by simp;rw[YB];lia)];simp
def Zvs{sc:Scp}{x s:Str}:∀y∈(sc++[(x,s)]).map (·.1),y∈x::sc.map (·.1):=λy hy=>by
 rw[List.map_append]at hy;rcases OD.mp hy with z|z
 . exact Oh _ z
 . have:y=x:=by simpa using z
   rw[this];exact Oi
def unlike{ns:List Str}(n5:ns.length=5)(nd:ns.Nodup){x f:Str}{rest:Int}(ax:ns[(rest % 5).toNat]? = Wn x)(af:ns[((rest % 5+1+rest / 15 % 4) % 5).toNat]? = Wn f):f≠x:=λe=>by
 have q:=(List.getElem?_inj (i:=(rest % 5).toNat) (j:=((rest % 5+1+rest / 15 % 4) % 5).toNat) (by rw[n5];lia) nd).mp (by rw[ax,af,e])
 lia
noncomputable def fe(w:Str)(rest:Int)(k i m:Nat)(room:Int)(a b c d:Option D):Ev:=[Wn (.str w),Wn (.int rest),Wn (.ref k),Wn (.ref i),Wn (.ref m),Wn (.int room),a,b,c,d]
def ZwE{N:Nat}{s:Str}{w:Str}{rest:Int}{room:Int}{x:Str}{t1:T}{g1 h1:Hd}(hc:opB .Add (.ref k) (.ref h.length) (h++[.lst ([(x,s)].map pairOf)])=.ok (.ref (h.length+1)) h1)(e1:run P N (O "_law_any") [.str (O "n"),.ref (h.length+1),.ref i,.ref m,.int room] h1=.ok t1.d g1):ev (P.tbl N) (.tupl (.cons (.Ci_ "fn") (.cons (.var 6) (.cons (.call (O "_law_any") (.cons (.Ci_ "n") (.cons (.bin .Add (.var 2) (.lstl (.cons (.tupl (.cons (.var 6) (.cons (.cst (.str s)) .nil))) .nil))) (.cons (.var 3) (.cons (.var 4) (.cons (.var 5) .nil)))))) .nil)))) (fe w rest k i m room (Wn (.str x)) Wo Wo Wo) h=.ok (T.fn x t1).d g1:=by have b:ev (P.tbl N) (.bin .Add (.var 2) (.lstl (.cons (.tupl (.cons (.var 6) (.cons (.cst (.str s)) .nil))) .nil))) (fe w rest k i m room (Wn (.str x)) Wo Wo Wo) h=.ok (.ref (h.length+1)) h1:=(Zt (x:=.ref k) (y:=.ref h.length) (h1:=h) (h2:=h++[.lst ([(x,s)].map pairOf)]) rfl rfl).trans hc;exact ZaA (Zc rfl (Zc rfl (Zc ((Zuy (Zc rfl (Zc b rfl))).trans e1) rfl))) (by simp)
def Zul(H:Mk0 P){r n0:Nat}(ih:ZmH P r n0)(n:Nat)(c:Ctx cs ns h i j m k sc a b)(w:Str)(rest:Int)(room:Int)(hr:room<=r)(hl:sc.length+2+2 * r<=50)(ha:a+2 * A r<2 ^ 50):
 Made cs h i j sc a b 3 (2 * A r) (3 * r+6) (run P (n+n0+1) (O "_law_function") [.str w,.int rest,.ref k,.ref i,.ref m,.int room] h):=by
 have Ap:=Zkp r;have hab:=c.ab;rw[Zge H.function rfl];obtain⟨x,ex,wx,ax⟩:=c.name (GD:=P.GD) (rest % 5) (by clear ih ha hab hl hr;lia) (by clear ih ha hab hl hr;lia);show Made cs h i j sc a b 3 (2 * A r) (3 * r+6) (Ze (xs2 (P.tbl (n+n0)) (.cons ZaU (.cons Zac (.cons Zab (.cons ZaT (.cons ZaS (.cons ZaR (.cons Zaa (.cons Z9 .nil)))))))) (fe w rest k i m room Wo Wo Wo Wo) h));have x1:xs1 (P.tbl (n+n0)) ZaU (fe w rest k i m room Wo Wo Wo Wo) h=.ok (.nx,fe w rest k i m room (Wn (.str x)) Wo Wo Wo) h:=by exact Zl (i:=6) ex
 rw[Za x1];by_cases hg:w=O "g"
 . have hc:=ZiM c [(x,O "f")] (by simp;lia);obtain⟨t1,g1,a1,b1,e1,u1,s1,l1,l2,c1,p1,z1⟩:=ih n cs ns _ i j m (h.length+1) (sc++[(x,O "f")]) a b (O "n") room hr (c.wider [(x,O "f")] (by simp[wx])) (by simp;lia) (by lia);refine⟨.fn x t1,g1,a1,b1,?_,Up.app.trans u1,s1,l1,by lia,⟨Cl.mono (t:=t1) Zvs c1,wx⟩,by simp only[dep,nb];lia,by simp only[fw];clear ih hl ha;lia⟩;have e:xs1 (P.tbl (n+n0)) Zac (fe w rest k i m room (Wn (.str x)) Wo Wo Wo) h=.ok (.rt (T.fn x t1).d,fe w rest k i m room (Wn (.str x)) Wo Wo Wo) g1:=by subst hg;exact(Zu rfl).trans (Zb (Zm (ZwE hc e1)))
   rw[Zb e];rfl
 have x2:xs1 (P.tbl (n+n0)) Zac (fe w rest k i m room (Wn (.str x)) Wo Wo Wo) h=.ok (.nx,fe w rest k i m room (Wn (.str x)) Wo Wo Wo) h:=by exact(Zs (Zq (Zcu rfl rfl) (decide_eq_false hg))).trans rfl
 rw[Za x2];by_cases h3:rest / 5 % 3=0
 . have hc:=ZiM c [(x,O "n")] (by simp;lia);obtain⟨t1,g1,a1,b1,e1,u1,s1,l1,l2,c1,p1,z1⟩:=ih n cs ns _ i j m (h.length+1) (sc++[(x,O "n")]) a b (O "n") room hr (c.wider [(x,O "n")] (by simp[wx])) (by simp;lia) (by lia);refine⟨.fn x t1,g1,a1,b1,?_,Up.app.trans u1,s1,l1,by lia,⟨Cl.mono (t:=t1) Zvs c1,wx⟩,by simp only[dep,nb];lia,by simp only[fw];clear ih hl ha;lia⟩;have e:xs1 (P.tbl (n+n0)) Zab (fe w rest k i m room (Wn (.str x)) Wo Wo Wo) h=.ok (.rt (T.fn x t1).d,fe w rest k i m room (Wn (.str x)) Wo Wo Wo) g1:=(Zu (Zq (ZfC (x:=rest / 5 % 3) rfl rfl) (decide_eq_true h3))).trans (Zb (Zm (ZwE hc e1)));rw[Zb e];rfl
 have x3:xs1 (P.tbl (n+n0)) Zab (fe w rest k i m room (Wn (.str x)) Wo Wo Wo) h=.ok (.nx,fe w rest k i m room (Wn (.str x)) Wo Wo Wo) h:=by exact(Zs (Zq (ZfC (x:=rest / 5 % 3) rfl rfl) (decide_eq_false h3))).trans rfl
 obtain⟨f,ef,wf,af⟩:=c.name (GD:=P.GD) ((rest % 5+1+rest / 15 % 4) % 5) (by clear ih ha hab hl hr;lia) (by clear ih ha hab hl hr;lia);have nfx:f≠x:=unlike c.n5 c.nd ax af;have x4:xs1 (P.tbl (n+n0)) ZaT (fe w rest k i m room (Wn (.str x)) Wo Wo Wo) h=.ok (.nx,fe w rest k i m room (Wn (.str x)) (Wn (.str f)) Wo Wo) h:=by exact Zl (i:=7) ef
 have hc:=ZiM c [(f,O "f"),(x,O "n")] (by simp;lia);have cw:=c.wider [(f,O "f"),(x,O "n")] (by simp[wx,wf]);have sub:∀y∈(sc++[(f,O "f"),(x,O "n")]).map (·.1),y∈x::f::sc.map (·.1):=λy hy=>by simp at hy ⊢;rcases hy with z|z|z<;>simp[z]
 generalize hh1:(h++[DO.lst ([(f,O "f"),(x,O "n")].map pairOf),.lst ((sc++[(f,O "f"),(x,O "n")]).map pairOf)])=h1 at hc cw;have ug:Up i h h1:=by rw[<- hh1];exact Up.app
 have hl1:h1.length=h.length+2:=by rw[<- hh1];simp
 have x5:xs1 (P.tbl (n+n0)) ZaS (fe w rest k i m room (Wn (.str x)) (Wn (.str f)) Wo Wo) h=.ok (.nx,fe w rest k i m room (Wn (.str x)) (Wn (.str f)) (Wn (.ref (h.length+1))) Wo) h1:=by exact Zl (i:=8) ((Zt (x:=.ref k) (y:=.ref h.length) (h1:=h) (h2:=h++[.lst ([(f,O "f"),(x,O "n")].map pairOf)]) rfl rfl).trans hc)
 have x6:xs1 (P.tbl (n+n0)) ZaR (fe w rest k i m room (Wn (.str x)) (Wn (.str f)) (Wn (.ref (h.length+1))) Wo) h1=.ok (.nx,fe w rest k i m room (Wn (.str x)) (Wn (.str f)) (Wn (.ref (h.length+1))) (Wn (T.call (.name f) (.op .sub (.name x) (.num 1))).d)) h1:=by exact rfl
 rw[Za x3,Za x4,Za x5,Za x6];generalize hsc:sc++[(f,O "f"),(x,O "n")]=sc1 at cw sub hh1;have hsl:sc1.length=sc.length+2:=by rw[<- hsc];simp
 clear x1 x2 x3 x4 x5 x6 hc hh1 hsc ex ef;have last:∀(t1:T) (g1:Hd) (a1 b1:Int),Up i h1 g1->St3 g1 i j cs a1 b1->a<=a1->a1<=a+A r->Cl (x::f::sc.map (·.1)) t1->nb t1<=dep t1/\dep t1<=3 * r+4->fw t1<=3 * (pz b - pz b1) ->
  xs1 (P.tbl (n+n0)) Zaa (fe w rest k i m room (Wn (.str x)) (Wn (.str f)) (Wn (.ref (h.length+1))) (Wn (T.call (.name f) (.op .sub (.name x) (.num 1))).d)) h1=.ok (.nx,fe w rest k i m room (Wn (.str x)) (Wn (.str f)) (Wn (.ref (h.length+1))) (Wn t1.d)) g1 ->
  Made cs h i j sc a b 3 (2 * A r) (3 * r+6) (Ze (xs2 (P.tbl (n+n0)) (.cons Zaa (.cons Z9 .nil)) (fe w rest k i m room (Wn (.str x)) (Wn (.str f)) (Wn (.ref (h.length+1))) (Wn (T.call (.name f) (.op .sub (.name x) (.num 1))).d)) h1)):=by
  intro t1 g1 a1 b1 u1 s1 l1 l2 c1 p1 z1 x7;rw[Za x7];obtain⟨t2,g2,a2,b2,e2,u2,s2,l3,l4,c2,p2,z2⟩:=ih n cs ns g1 i j m (h.length+1) sc1 a1 b1 (O "n") (room - 1) (by clear ha;lia) (cw.up u1 s1 (by clear hl ha hr;lia)) (by clear ha hr;lia) (by clear hl hr;lia);refine⟨.rcc f x (.iff (.name x) t1 t2),g2,a2,b2,?_,ug.trans (u1.trans u2),s2,Int.le_trans l1 l3,by clear hl hr ha;lia,⟨⟨Oi,c1,Cl.mono sub c2⟩,nfx,wf,wx⟩,by simp only[dep,nb];clear hl hr ha;lia,by simp only[fw];clear hl hr ha ih;lia⟩;have e:xs1 (P.tbl (n+n0)) Z9 (fe w rest k i m room (Wn (.str x)) (Wn (.str f)) (Wn (.ref (h.length+1))) (Wn t1.d)) g1=.ok (.rt (T.rcc f x (.iff (.name x) t1 t2)).d,fe w rest k i m room (Wn (.str x)) (Wn (.str f)) (Wn (.ref (h.length+1))) (Wn t1.d)) g2:=by exact Zm (ZaA (Zc rfl (Zc rfl (Zc rfl (Zc (ZaA (Zc rfl (Zc rfl (Zc rfl (Zc (Zo e2 rfl) rfl)))) (by simp)) rfl)))) (by simp))
  rw[Zb e];rfl
 by_cases q0:rest / 60 % 3=0
 . obtain⟨t1,g1,a1,b1,e1,u1,s1,l1,l2,c1,p1,z1⟩:=ih n cs ns h1 i j m (h.length+1) sc1 a b (O "n") room hr cw (by clear ha hr;lia) (by clear hl hr;lia);refine last t1 g1 a1 b1 u1 s1 l1 l2 (Cl.mono sub c1) (by lia) (by lia) ?_;exact(Zu (Zq (ZfC (x:=rest / 60 % 3) rfl rfl) (decide_eq_true q0))).trans (Za (ZaC e1 rfl rfl))
 . by_cases q1:rest / 60 % 3=1
   . have w2:∃wd:Wd,atI [D.str (O "+"),.str (O "*")] (rest / 180 % 2)=Wn (.str wd.s):=by
      have:rest / 180 % 2=0\/rest / 180 % 2=1:=by clear ih ha hl hr q0 q1;lia
      rcases this with z|z<;>rw[z]
      . exact⟨.add,by simp[Wd.s]⟩
      . exact⟨.mul,by simp[Wd.s]⟩
     obtain⟨wd,w2⟩:=w2;obtain⟨t1,g1,a1,b1,e1,u1,s1,l1,l2,c1,p1,z1⟩:=ih n cs ns _ i j m (h.length+1) sc1 a b (O "n") (room - 1) (by clear ha;lia) (cw.app (g:=[.lst [.str (O "+"),.str (O "*")]])) (by clear ha hr;lia) (by clear hl hr;lia);refine last (.op wd t1 (.call (.name f) (.op .sub (.name x) (.num 1)))) g1 a1 b1 (Up.app.trans u1) s1 l1 l2 ⟨Cl.mono sub c1,Oh _ Oi,Oi,by show(0:Int)<=1/\(1:Int)<1000000;decide⟩ (by simp only[dep,nb];clear hl hr ha;lia) (by simp only[fw];clear hl hr ha ih;lia) ?_;exact(Zs (Zq (ZfC (x:=rest / 60 % 3) rfl rfl) (decide_eq_false q0))).trans (Za ((Zu (Zq (ZfC (x:=rest / 60 % 3) rfl rfl) (decide_eq_true q1))).trans (Za (Zl (i:=9) (ZaA (Zc (Zkb w2 rfl rfl (by simp)) (Zc (Zo e1 rfl) rfl)) (by simp))))))
   . refine last (.call (.name f) (.op .sub (.name x) (.num 1))) h1 a b Up.refl cw.st (Int.le_refl _) (by lia) ⟨Oh _ Oi,Oi,by show(0:Int)<=1/\(1:Int)<1000000;decide⟩ (by simp only[dep,nb];lia) (by simp only[fw];lia) ?_;exact(Zs (Zq (ZfC (x:=rest / 60 % 3) rfl rfl) (decide_eq_false q0))).trans (Za ((Zs (Zq (ZfC (x:=rest / 60 % 3) rfl rfl) (decide_eq_false q1))).trans rfl))
theorem ZlN(rd:Nat->Option PyData):∀ys:List Str,D.pys rd (ys.map D.str)=Wn (ys.map PyData.str)
 |[]=>rfl
 |y::ys=>by rw[Op,D.pys,ZlN rd ys];rfl
def ZtP{l:Nat}{ys:List Str}(e:h[l]? = Wn (.lst (ys.map .str))):Zav Wp (.ref l) (.ref h.length) (h++[.lst []])=.ok (.bl (!ys.isEmpty)) (h++[.lst []]):=by
 have e1:(h++[DO.lst []])[l]? = Wn (.lst (ys.map .str)):=by rw[Oe (ZH e)];exact e
 have p1:Zdd (h++[.lst []]) (.ref l)=Wn (.list (ys.map .str)):=by show Zdc (h++[.lst []]) 4 l=_;rw[Zdc,e1];simp[ZlN]
 have p2:Zdd (h++[DO.lst []]) (.ref h.length)=Wn (.list []):=by show Zdc (h++[.lst []]) 4 h.length=_;rw[Zdc,ZaH];rfl
 unfold IV.Zav;rw[p1,p2];simp only;have d0:min (PyData.list (ys.map .str)).depth (PyData.list []).depth<=1100:=by
  have:(PyData.list []).depth<=1:=by decide +kernel
  lia
 rw[if_pos d0];cases ys with
 |nil=>rfl
 |cons y r=>rfl
def ZeG{U:Tb}{R:Sxs}{ρ':Ev}{h':Hd}{s:Sx}{A B_:Sxs}{S:Ev}{h:Hd}(e:xs2 U (.cons s A) S h=.ok (.nx,ρ') h')(q:∀ρ1 h1,xs2 U A ρ1 h1=.ok (.nx,ρ') h'->xs2 U B_ ρ1 h1=xs2 U R ρ' h'):xs2 U (.cons s B_) S h=xs2 U R ρ' h':=by
 rw[Zgl]at e ⊢;cases r1:xs1 U s S h with
 |bad=>rw[r1]at e;cases e
 |exc c h1=>rw[r1]at e;cases e
 |ok p h1=>
  rw[r1]at e;obtain⟨fl,ρ1⟩:=p;cases fl with
  |nx=>exact q ρ1 h1 e
  |bk=>cases e
  |ct=>cases e
  |rt d=>cases e
def ZuZ(R:Sxs)(e:xs2 U (.cons s1 (.cons s2 (.cons s3 (.cons s4 (.cons s5 .nil))))) S h=.ok (.nx,ρ') h'):xs2 U (.cons s1 (.cons s2 (.cons s3 (.cons s4 (.cons s5 R))))) S h=xs2 U R ρ' h':=ZeG e λ_ _ e=>ZeG e λ_ _ e=>ZeG e λ_ _ e=>ZeG e λ_ _ e=>ZeG e λ_ _ e=>by cases e;rfl
noncomputable def ae(w:Str)(k i m:Nat)(room v q:Int)(l:Nat)(a b:Option D):Ev:=[Wn (.str w),Wn (.ref k),Wn (.ref i),Wn (.ref m),Wn (.int room),Wn (.int v),Wn (.int q),Wn (.ref l),a,b]
def any_gen(H:Mk0 P)(n1:Nat)(c:Ctx cs ns h i j m k sc a b)(w:Str)(room:Int)(mx:Int)(dm:Nat)(hdm:2<=dm)(hl:sc.length<=50)(ha:a<2 ^ 50)(hmx:1<=mx)
 (rc:1<=room->∃r n0 n',room - 1<=(r:Nat)/\ZmH P r n0/\n1+2=n'+n0+1/\1<=n0/\sc.length+2+2 * r<=50/\1+3 * A r<=mx/\a+mx<2 ^ 50/\3 * r+6<=dm) :
 Made cs h i j sc a b 0 mx dm (run P (n1+3) (O "_law_any") [.str w,.ref k,.ref i,.ref m,.int room] h):=by
 have hab:=c.ab;rw[Zge H.any rfl];obtain⟨v,w',ys,h5,l,e5,u5,c5,hy,hys⟩:=ZpU H n1 c w room hl ha Wo Wo Wo;have st:ZB ZdY.N [.str w,.ref k,.ref i,.ref m,.int room]=[Wn (.str w),Wn (.ref k),Wn (.ref i),Wn (.ref m),Wn (.int room),Wo,Wo,Wo,Wo,Wo]:=rfl;rw[st,show ZdY.body=.cons Za7 (.cons Zcb (.cons Za6 (.cons Zca (.cons Za5 (.cons Za4 (.cons Zar (.cons Zb9 (.cons Za3 (.cons ZaD (.cons Zbw .nil))))))))))from rfl,ZuZ _ e5];show Made cs h i j sc a b 0 mx dm (Ze (xs2 (P.tbl (n1+2)) (.cons Za4 (.cons Zar (.cons Zb9 (.cons Za3 (.cons ZaD (.cons Zbw .nil)))))) (ae w' k i m room v (v / 87) l Wo Wo) h5));have nn:=ZtP hy;have t1:tst (P.tbl (n1+2)) (.ex (.cmp .NotEq (.var 7) (.lstl .nil))) (ae w' k i m room v (v / 87) l Wo Wo) h5=.ok (!ys.isEmpty) (h5++[.lst []]):=Zaz ((Zn (x:=.ref l) (y:=.ref h5.length) (h1:=h5) (h2:=h5++[DO.lst []]) rfl rfl).trans nn);have t2:∀h,tst (P.tbl (n1+2)) (.ex (.cmp .Eq (.bin .Mod (.var 6) (.ci 3)) (.ci 0))) (ae w' k i m room v (v / 87) l Wo Wo) h=.ok (Wt (v / 87 % 3=0)) h:=λh=>ZfC rfl rfl;have t8:∀h,tst (P.tbl (n1+2)) (.ex (.cmp .Eq (.bin .Mod (.var 6) (.ci 8)) (.ci 0))) (ae w' k i m room v (v / 87 / 30) l Wo Wo) h=.ok (Wt (v / 87 / 30 % 8=0)) h:=λh=>ZfC rfl rfl;by_cases hn:ys.isEmpty=Wq/\v / 87 % 3=0
 ·
  have hp:0<ys.length:=by
   cases ys with
   |nil=>simp at hn
   |cons y r=>simp
  have ix:opB .Mod (.int (v / 87 / 3)) (.int ys.length) (h5++[.lst []])=.ok (.int (v / 87 / 3 % ys.length)) (h5++[.lst []]):=ZN (by lia);have hb:(0:Int)<=v / 87 / 3 % ys.length/\v / 87 / 3 % ys.length<ys.length:=⟨Int.emod_nonneg _ (by lia),Int.emod_lt_of_pos _ (by lia)⟩
  obtain⟨q,hq⟩:∃q:Nat,v / 87 / 3 % ys.length=q:=⟨(v / 87 / 3 % ys.length).toNat,by lia⟩
  have hql:q<ys.length:=by lia
  have hl5:(h5++[DO.lst []])[l]? = Wn (.lst (ys.map .str)):=by rw[Oe (ZH hy)];exact hy
  have len:Z0 P.GD .len [.ref l] (h5++[.lst []])=.ok (.int ys.length) (h5++[.lst []]):=by simp only[Z0,ZhC,seqOf,lstOf,hl5];simp
  have at5:Za8 P.GD (.ref l) (.int (q:Int)) (h5++[.lst []])=.ok (.str ys[q]) (h5++[.lst []]):=by rw[ZP hl5,IV.Zce,On,Og hql];rfl
  refine⟨.name ys[q],h5++[.lst []],a+1,b - 1,?_,u5.trans Up.app,c5.st.app,by lia,by lia,hys _ (List.getElem_mem hql),⟨Oq _,Yw _⟩,by simp only[fw,pz];lia⟩;have x6:xs1 (P.tbl (n1+2)) Za4 (ae w' k i m room v (v / 87) l Wo Wo) h5=.ok (.rt (T.name ys[q]).d,(ae w' k i m room v (v / 87) l Wo Wo)) (h5++[.lst []]):=by have el:ev (P.tbl (n1+2)) (.blt .len (.cons (.var 7) .nil)) (ae w' k i m room v (v / 87) l Wo Wo) (h5++[.lst []])=.ok (.int ys.length) (h5++[.lst []]):=len;have ei:ev (P.tbl (n1+2)) (.bin .Mod (.bin .FloorDiv (.var 6) (.ci 3)) (.blt .len (.cons (.var 7) .nil))) (ae w' k i m room v (v / 87) l Wo Wo) (h5++[.lst []])=.ok (.int (q:Int)) (h5++[.lst []]):=(Zt (x:=.int (v / 87 / 3)) rfl el).trans (ix.trans (by rw[hq]));rw[hn.1]at t1;exact(Zu (ZpW t1 (Zq (t2 _) (decide_eq_true hn.2)))).trans (Zb (Zm (ZaA (Zc rfl (Zc ((ZD (x:=.ref l) rfl ei).trans at5) rfl)) (by simp))))
  rw[Zb x6];rfl
 . have x6:xs1 (P.tbl (n1+2)) Za4 (ae w' k i m room v (v / 87) l Wo Wo) h5
    = .ok (.nx,(ae w' k i m room v (v / 87) l Wo Wo)) (h5++[.lst []]):=by
    cases q:ys.isEmpty with
    |true=>rw[q]at t1;exact(Zs (ZsB t1)).trans rfl
    |false=>rw[q]at t1;have h3:¬ v / 87 % 3=0:=λz=>hn ⟨q,z⟩;exact(Zs (ZpW t1 (Zq (t2 _) (decide_eq_false h3)))).trans rfl
   have c6:=c5.app (g:=[.lst []]);have u6:=u5.trans (Up.app (i:=i) (g:=[.lst []]));clear t1 nn;generalize hh6:h5++[.lst []]=h6 at x6 c6 u6;rw[Za x6];have ix2:Za8 P.GD (.ref i) (.int 2) h6=.ok (.int (b - 1)) h6:=by rw[ZP c6.st.1];simp
   have r1:tst (P.tbl (n1+2)) (.ex (.cmp .Lt (.var 4) (.ci 1))) (ae w' k i m room v (v / 87) l Wo Wo) h6=.ok (Wt (room<1)) h6:=rfl;have r2:tst (P.tbl (n1+2)) (.ex (.cmp .Lt (.ix (.var 2) (.ci 2)) (.ci 0))) (ae w' k i m room v (v / 87) l Wo Wo) h6=.ok (Wt (b - 1<0)) h6:=Zaz ((Zn (y:=.int 0) (h2:=h6) ((ZD (x:=.ref i) (y:=.int 2) rfl rfl).trans ix2) rfl).trans rfl);obtain⟨t,g,ep,ct,pt⟩:=Zil H (n1+1) w' (v / 87 / 3) h6 (sc.map (·.1));by_cases hr:room<1
   . refine⟨t,h6++g,a+1,b - 1,?_,u6.trans Up.app,c6.st.app,by lia,by lia,ct,by lia,by simp only[pz];lia⟩;have x7:xs1 (P.tbl (n1+2)) Zar (ae w' k i m room v (v / 87) l Wo Wo) h6=.ok (.rt t.d,(ae w' k i m room v (v / 87) l Wo Wo)) (h6++g):=(Zu (Zty (Zq r1 (decide_eq_true hr)))).trans (Zb (ZaC ep rfl rfl));rw[Zb x7];rfl
   . by_cases hb:b - 1<0
     . refine⟨t,h6++g,a+1,b - 1,?_,u6.trans Up.app,c6.st.app,by lia,by lia,ct,by lia,by simp only[pz];lia⟩;have x7:xs1 (P.tbl (n1+2)) Zar (ae w' k i m room v (v / 87) l Wo Wo) h6=.ok (.rt t.d,(ae w' k i m room v (v / 87) l Wo Wo)) (h6++g):=(Zu (ZkH (Zq r1 (decide_eq_false hr)) (Zq r2 (decide_eq_true hb)))).trans (Zb (ZaC ep rfl rfl));rw[Zb x7];rfl
     . obtain⟨r,n0,n',q1,ih,q2,q3,q4,q5,q6,q7⟩:=rc (by lia);have Ap:=Zkp r;have x7:xs1 (P.tbl (n1+2)) Zar (ae w' k i m room v (v / 87) l Wo Wo) h6
        = .ok (.nx,(ae w' k i m room v (v / 87) l Wo Wo)) h6:=by
        exact(Zs (ZkH (Zq r1 (decide_eq_false hr)) (Zq r2 (decide_eq_false hb)))).trans rfl
       have x8:xs1 (P.tbl (n1+2)) Zb9 (ae w' k i m room v (v / 87) l Wo Wo) h6
        = .ok (.nx,(ae w' k i m room v (v / 87 / 30) l Wo Wo)) h6:=by
        exact rfl
       rw[Za x7,Za x8];have pb:pz b=pz (b - 1)+1:=by simp only[pz];lia
       by_cases h8:v / 87 / 30 % 8=0
       . obtain⟨t1,g1,a1,b1,e1,u1,s1,l1,l2,c1,p1,z1⟩:=ih (n'+1) cs ns h6 i j m k sc (a+1) (b - 1) (O "n") (room - 1) q1 c6 (by lia) (by lia);have cc1:=c6.up u1 s1 (by lia);obtain⟨t2,g2,a2,b2,e2,u2,s2,l3,l4,c2,p2,z2⟩:=ih (n'+1) cs ns g1 i j m k sc a1 b1 w' (room - 1) q1 cc1 (by lia) (by lia);have cc2:=cc1.up u2 s2 (by lia);obtain⟨t3,g3,a3,b3,e3,u3,s3,l5,l6,c3,p3,z3⟩:=ih (n'+1) cs ns g2 i j m k sc a2 b2 w' (room - 1) q1 cc2 (by lia) (by lia);rw[show n'+1+n0=n1+2 by lia]at e1 e2 e3;refine⟨.iff t1 t2 t3,g3,a3,b3,?_,u6.trans (u1.trans (u2.trans u3)),s3,by lia,by lia,⟨c1,c2,c3⟩,by simp only[dep,nb];lia,by simp only[fw];rw[pb];clear ih rc;lia⟩;have x9:xs1 (P.tbl (n1+2)) Za3 (ae w' k i m room v (v / 87 / 30) l Wo Wo) h6=.ok (.rt (T.iff t1 t2 t3).d,(ae w' k i m room v (v / 87 / 30) l (Wn t1.d) (Wn t2.d))) g3:=by refine(Zu (Zq (t8 _) (decide_eq_true h8))).trans ?_;refine(Za (ρ1:=ae w' k i m room v (v / 87 / 30) l (Wn t1.d) Wo) (h1:=g1) (ZaC e1 rfl rfl)).trans ?_;refine(Za (ρ1:=ae w' k i m room v (v / 87 / 30) l (Wn t1.d) (Wn t2.d)) (h1:=g2) (ZaC e2 rfl rfl)).trans ?_;exact Zb (ZaC e3 rfl rfl)
         rw[Zb x9];rfl
       . have x9:xs1 (P.tbl (n1+2)) Za3 (ae w' k i m room v (v / 87 / 30) l Wo Wo) h6=.ok (.nx,(ae w' k i m room v (v / 87 / 30) l Wo Wo)) h6:=(Zs (Zq (t8 _) (decide_eq_false h8))).trans rfl;rw[Za x9];by_cases hw:w'=O "n"
         . obtain⟨t1,g1,a1,b1,e1,u1,s1,l1,l2,c1,p1,z1⟩:=ZtK H ih q3 n' c6 (v / 87 / 30 / 8) (room - 1) q1 (by lia) (by lia);rw[<- q2]at e1;refine⟨t1,g1,a1,b1,?_,u6.trans u1,s1,by lia,by lia,c1,by lia,by rw[pb];clear ih rc;lia⟩;have x10:xs1 (P.tbl (n1+2)) ZaD (ae w' k i m room v (v / 87 / 30) l Wo Wo) h6=.ok (.rt t1.d,(ae w' k i m room v (v / 87 / 30) l Wo Wo)) g1:=(Zu (Zq (Zcu rfl rfl) (decide_eq_true hw))).trans (Zb (ZaC e1 rfl rfl));rw[Zb x10];rfl
         . obtain⟨t1,g1,a1,b1,e1,u1,s1,l1,l2,c1,p1,z1⟩:=Zul H ih n' c6 w' (v / 87 / 30 / 8) (room - 1) q1 (by lia) (by lia);rw[<- q2]at e1;refine⟨t1,g1,a1,b1,?_,u6.trans u1,s1,by lia,by lia,c1,by lia,by rw[pb];clear ih rc;lia⟩;have x10:xs1 (P.tbl (n1+2)) ZaD (ae w' k i m room v (v / 87 / 30) l Wo Wo) h6=.ok (.nx,(ae w' k i m room v (v / 87 / 30) l Wo Wo)) h6:=(Zs (Zq (Zcu rfl rfl) (decide_eq_false hw))).trans rfl;have x11:xs1 (P.tbl (n1+2)) Zbw (ae w' k i m room v (v / 87 / 30) l Wo Wo) h6=.ok (.rt t1.d,(ae w' k i m room v (v / 87 / 30) l Wo Wo)) g1:=ZaC e1 rfl rfl;rw[Za x10,Zb x11];rfl
theorem ZpT(H:Mk0 P):∀r:Nat,ZmH P r (2 * r+3)
 |0=>λn cs ns h i j m k sc a b w room hr c hl ha=>by have:=any_gen H n c w room (A 0) 3 (by decide) (by lia) (by have:=Zkp 0;lia) (by decide) (λz=>by lia);exact this
 |r+1=>λn cs ns h i j m k sc a b w room hr c hl ha=>by have Ap:=Zkp r;have As:=ZuV r;have:=any_gen H (n+2 * r+2) c w room (A (r+1)) (3 * (r+1)+3) (by lia) (by lia) (by lia) (by lia) (λ_=>⟨r,2 * r+3,n,by lia,ZpT H r,by lia,by lia,by lia,by lia,by lia,by lia⟩);rw[show n+(2 * (r+1)+3)=n+2 * r+2+3 by lia];exact this
end
set_option tactic.hygienic true
section
noncomputable def front:T->List D
 |.num n=>[.str (O "num"),.int n]
 |.name x=>[.str (O "name"),.str x]
 |.fn x _=>[.str (O "fn"),.str x]
 |.rcc f x _=>[.str (O "rec"),.str f,.str x]
 |.call _ _=>[.str (O "call")]
 |.iff _ _ _=>[.str (O "if")]
 |.op w _ _=>[.str w.s]
def Zpw(t:T):t.d=.tup (front t++t.parts.map T.d):=by cases t<;>rfl
noncomputable def Ziy:D->Bool
 |.str _|.int _=>Wp
 |_=>Wq
def Zk3(t:T):∀d∈front t,Ziy d=Wp:=by cases t<;>simp[front,Ziy]
def Zo8(hf:Ziy d=Wp):Z0 GD .isi [d,.ty "tuple"] h=.ok (.bl Wq) h:=by
 cases d with
 |str x=>rfl
 |int x=>rfl
 |_=>cases hf
def Zro:Z0 GD .isi [.tup xs,.ty "tuple"] h=.ok (.bl Wp) h:=rfl
abbrev isT:Tx:=.ex (.blt .isi (.c (.v 0) (.c (.cst (.ty "tuple")) .n)))
theorem Zha{U:Tb}{acc rest:List D}:∀ds:List D,(∀d∈ds,Ziy d=Wp)->acc.length<sizeLine->Zz [] (.nm 0) (tsto U (Wn isT)) (ev U e) (ds++rest) [Wo] acc h=Zz [] (.nm 0) (tsto U (Wn isT)) (ev U e) rest [Wo] acc h
 |[],_,_=>rfl
 |d::ds,hd,hz=>by have:=Zo8 (GD:=U.GD) (h:=h) (hd d (by simp));rw[List.cons_append,ZaP];simp[Wk.stays,hz,this];exact Zha ds (λx hx=>hd x (by simp[hx])) hz
theorem Zg8{U:Tb}{f:T->Int}:∀(ts:List T) (acc:List D) (h:Hd),(∀t∈ts,∀h,∃g,ev U e [Wn t.d] h=.ok (.int (f t)) (h++g))->acc.length+ts.length<=1000->∃g,Zz [] (.nm 0) (tsto U (Wn isT)) (ev U e) (ts.map T.d) [Wo] acc h=.ok (acc++ts.map λt=>.int (f t)) (h++g)
 |[],acc,h,_,_=>⟨[],by simp[Zz,Wk.stays]⟩
 |t::ts,acc,h,ht,hz=>by
  simp only[Os]at hz;obtain⟨g1,e1⟩:=ht t (by simp) h;obtain⟨g2,e2⟩:=Zg8 (U:=U) (e:=e) (f:=f) ts (acc++[.int (f t)]) (h++g1) (λx hx=>ht x (by simp[hx])) (by simp;lia);refine⟨g1++g2,?_⟩;have hz2:acc.length<sizeLine:=by rw[YB];lia
  have it:Z0 U.GD .isi [t.d,.ty "tuple"] h=.ok (.bl Wp) h:=by rw[Zpw];exact Zro
  rw[Op,ZaP];simp[Wk.stays,hz2,it,e1,e2]
def Zfd{U:Tb}{f:T->Int}(t:T)(h:Hd)(ht:∀s∈t.parts,∀h,∃g,ev U e [Wn s.d] h=.ok (.int (f s)) (h++g)):∃g,Zz [] (.nm 0) (tsto U (Wn isT)) (ev U e) (front t++t.parts.map T.d) [Wo] [] h=.ok (t.parts.map λs=>.int (f s)) (h++g):=by obtain⟨g,e1⟩:=Zg8 (f:=f) t.parts [] h ht (by cases t<;>simp[T.parts]);refine⟨g,?_⟩;rw[Zha _ (Zk3 t) (by rw[YB];simp),e1];simp
theorem ints_map(f:T->Int):∀ts:List T,intsOf (ts.map λs=>D.int (f s))=Wn (ts.map f)
 |[]=>rfl
 |t::ts=>by rw[Op,intsOf,ints_map f ts];rfl
variable {P:Pg}
def ZlG(t:T):(t.size:Int)=1+(t.parts.map λs=>(s.size:Int)).sum:=by
 unfold T.size;rw[T.places_parts];have:∀ts:List T,((ts.flatMap T.places).length:Int)=(ts.map λs=>(s.places.length:Int)).sum:=by
  intro ts;induction ts with
  |nil=>rfl
  |cons t ts ih=>rw[List.flatMap_cons,OA,Op,OI,<- ih];lia
 rw[Os,<- this]
 lia
def Zfc{t s:T}(hs:s∈t.parts):dep s<dep t:=by
 cases t<;>simp[T.parts]at hs<;>simp only[dep]
 . subst hs;lia
 . subst hs;lia
 . rcases hs with rfl|rfl<;>lia
 . rcases hs with rfl|rfl|rfl<;>lia
 . rcases hs with rfl|rfl<;>lia
theorem Zn5 (H:Mk0 P):∀ (d n:Nat) (t:T) (h:Hd),dep t<=d->∃ g,run P (n+d+1) (O "_law_width") [t.d] h=.ok (.int t.size) (h++g):=by
 intro d;induction d with
 | zero =>
   intro n t h hd;rw [Zd H.width rfl];obtain ⟨g,e⟩:=Zfd (U:=⟨P.G,P.GD,run P (n+0),P.L⟩) (e:=.call (O "_law_width") (.cons (.var 0) .nil)) (f:=fun s=>(s.size:Int)) t h (fun s hs=>by have:=Zfc hs;lia);refine ⟨g++[.lst (t.parts.map fun s=>.int s.size)],?_⟩;rw [ZlG,Zpw];have sm:Z0 P.GD .sum [.ref (h++g).length] (h++g++[.lst (t.parts.map fun s=>D.int s.size)])=.ok (.int (t.parts.map fun s=>(s.size:Int)).sum) (h++g++[.lst (t.parts.map fun s=>D.int s.size)]):=by
     simp only [Z0,ZpM,lstOf,ZaH,Yy,ints_map];rfl
   simp at sm e;simp [ZbX,Zdx,ZB,ZaN,ZbI,e,sm]
 | succ d ih =>
   intro n t h hd;rw [Zd H.width rfl];obtain ⟨g,e⟩:=Zfd (U:=⟨P.G,P.GD,run P (n+(d+1)),P.L⟩) (e:=.call (O "_law_width") (.cons (.var 0) .nil)) (f:=fun s=>(s.size:Int)) t h (fun s hs h1=>by
     have:=Zfc hs;obtain ⟨g,e⟩:=ih n s h1 (by lia);refine ⟨g,?_⟩;have e':run P (n+(d+1)) (O "_law_width") [s.d] h1=.ok (.int s.size) (h1++g):=e;simp [e'])
   refine ⟨g++[.lst (t.parts.map fun s=>.int s.size)],?_⟩;rw [ZlG,Zpw];have sm:Z0 P.GD .sum [.ref (h++g).length] (h++g++[.lst (t.parts.map fun s=>D.int s.size)])=.ok (.int (t.parts.map fun s=>(s.size:Int)).sum) (h++g++[.lst (t.parts.map fun s=>D.int s.size)]):=by
     simp only [Z0,ZpM,lstOf,ZaH,Yy,ints_map];rfl
   simp at sm e;simp [ZbX,Zdx,ZB,ZaN,ZbI,e,sm]
def Zql(H:Mkr P)(d n:Nat)(t:T)(h:Hd)(hd:dep t<=d):∃g,run P (n+d+1) (O "_law_width") [t.d] h=.ok (.int t.size) (h++g):=Zn5 H.toMk0 d n t h hd
end
section
variable {P:Pg}
def max2(x y:Nat):(if (1+(y:Int)) > 1+x then 1+(y:Int)else 1+x)=((max x y+1:Nat):Int):=by split<;>lia
def ZuD(t:T):Zdg (t.parts.map λs=>1+(dep s:Int)) 0=dep t:=by
 cases t with
 |num n=>rfl
 |name x=>rfl
 |fn x e=>simp[T.parts,Zdg,dep];lia
 |rcc f x e=>simp[T.parts,Zdg,dep];lia
 |call f a=>simp only[T.parts,Zdg,dep,Op,Oy,Wi,List.foldl_nil];rw[max2]
 |op w f a=>simp only[T.parts,Zdg,dep,Op,Oy,Wi,List.foldl_nil];rw[max2]
 |iff c t e=>simp only[T.parts,Zdg,dep,Op,Oy,Wi,List.foldl_nil];rw[max2];split<;>lia
theorem Zta (H:Mkr P):∀ (d n:Nat) (t:T) (h:Hd),dep t<=d->∃ g,run P (n+d+1) (O "_law_deep") [t.d] h=.ok (.int (dep t)) (h++g):=by
 have fin:∀ (t:T) (h g:Hd),ZmF (.ref (h++g).length) (.int 0) (h++g++[.lst (t.parts.map fun s=>D.int (1+(dep s:Int)))])=.ok (.int (dep t)) (h++g++[.lst (t.parts.map fun s=>D.int (1+(dep s:Int)))]):=by
   intro t h g;have q:intsOf (t.parts.map fun s=>D.int (1+(dep s:Int)))=Wn (t.parts.map fun s=>1+(dep s:Int)):=ints_map (fun s=>1+(dep s:Int)) t.parts;simp only [ZmF,lstOf,ZaH,Yy,q,Yu,ZuD,ofO_some]
 intro d;induction d with
 | zero =>
   intro n t h hd;rw [Zd H.deep rfl];obtain ⟨g,e⟩:=Zfd (U:=⟨P.G,P.GD,run P (n+0),P.L⟩) (e:=.bin .Add (.ci 1) (.call (O "_law_deep") (.cons (.var 0) .nil))) (f:=fun s=>1+(dep s:Int)) t h (fun s hs=>by have:=Zfc hs;lia);refine ⟨g++[.lst (t.parts.map fun s=>.int (1+(dep s:Int)))],?_⟩;have sm:=fin t h g;rw [Zpw];simp at sm e;simp [ZcO,ZeA,ZB,ZaN,ZbI,e,sm]
 | succ d ih =>
   intro n t h hd;rw [Zd H.deep rfl];obtain ⟨g,e⟩:=Zfd (U:=⟨P.G,P.GD,run P (n+(d+1)),P.L⟩) (e:=.bin .Add (.ci 1) (.call (O "_law_deep") (.cons (.var 0) .nil))) (f:=fun s=>1+(dep s:Int)) t h (fun s hs h1=>by
     have:=Zfc hs;obtain ⟨g,e⟩:=ih n s h1 (by lia);refine ⟨g,?_⟩;have e':run P (n+(d+1)) (O "_law_deep") [s.d] h1=.ok (.int (dep s)) (h1++g):=e;simp [e'])
   refine ⟨g++[.lst (t.parts.map fun s=>.int (1+(dep s:Int)))],?_⟩;have sm:=fin t h g;rw [Zpw];simp at sm e;simp [ZcO,ZeA,ZB,ZaN,ZbI,e,sm]
theorem Zg9(H:Mk0 P)(hk:h[k]? = Wn (.lst xs0)):∀(xs:List Int) (j:Nat) (acc:List Int),acc.length+xs.length<=1000->j+xs.length<=1000->∃cs:List Int,cs.length=acc.length+xs.length /\
 Zz [(k,xs0)] (.two 0 1) (tsto ⟨P.G,P.GD,run P (n+1),P.L⟩ Wo) (ev ⟨P.G,P.GD,run P (n+1),P.L⟩ (.call (O "_law_mixed") (.cons (.var 1) (.cons (.bin .Add (.var 0) (.ci 2)) .nil)))) (xs.mapIdx λq x=>D.tup [.int ((q+j:Nat):Int),.int x]) [Wo,Wo] (acc.map .int) h
  = .ok (cs.map .int) h
 |[],j,acc,_,_=>⟨acc,by simp,by simp[Zz,Wk.stays,hk]⟩
 |x::xs,j,acc,h1,h2=>by
  simp only[Os]at h1 h2;obtain⟨cs,q1,q2⟩:=Zg9 H hk xs (j+1) (acc++[mixed x ((j:Int)+2)]) (by simp;lia) (by lia);refine⟨cs,by simp at q1;simp;lia,?_⟩;have e1:=Zgy H n x ((j:Int)+2) h ⟨by lia,by lia⟩;have hz:acc.length<sizeLine:=by rw[YB];lia
  have ei:(λ(q:Nat) (x:Int)=>D.tup [.int ((q+1+j:Nat):Int),.int x])=λq x=>D.tup [.int ((q+(j+1):Nat):Int),.int x]:=by funext q x;rw[show q+1+j=q+(j+1) by lia]
  rw[List.mapIdx_cons,ZaP];simp only[Wk.stays,hk,decide_true,true_and,Yt,hz,if_true,ZpI,List.set_cons_zero,List.set_cons_succ,ZmN,Zm1,Zg,bind_ok,ZiJ,Zg4,Zmk,Zpn,O0,OJ,Option.join_some,ofO_some,Zpq,Zuw,Zq4,Nat.zero_add,e1];rw[ei];have:=q2;rw[List.map_append]at this;exact this
end
set_option tactic.hygienic false
section
variable {P:Pg}{cs:List Int}{ns:List Str}{h h':Hd}{i j m:Nat}{a b:Int}
def ZpV(H:Mk0 P)(r N:Nat)(hN:2 * r+3<=N)(c:Ctx cs ns h i j m k sc a b)(w:Str)(room:Int)(hr:room<=r)(hl:sc.length+2 * r<=50)(ha:a+A r<2 ^ 50):
 Made cs h i j sc a b 0 (A r) (3 * r+3) (run P N (O "_law_any") [.str w,.ref k,.ref i,.ref m,.int room] h):=by
 have:=ZpT H r (N - (2 * r+3)) cs ns h i j m k sc a b w room hr c hl ha;rw[show N - (2 * r+3)+(2 * r+3)=N by lia]at this;exact this
def Zi6(H:Mkr P)(N:Nat)(t:T)(h:Hd)(hd:dep t<N):∃g,run P N (O "_law_width") [t.d] h=.ok (.int t.size) (h++g):=by obtain⟨g,e⟩:=Zql H (dep t) (N - dep t - 1) t h (Oq _);rw[show N - dep t - 1+dep t+1=N by lia]at e;exact⟨g,e⟩
def ZrD(H:Mkr P)(N:Nat)(t:T)(h:Hd)(hd:dep t<N):∃g,run P N (O "_law_deep") [t.d] h=.ok (.int (dep t)) (h++g):=by obtain⟨g,e⟩:=Zta H (dep t) (N - dep t - 1) t h (Oq _);rw[show N - dep t - 1+dep t+1=N by lia]at e;exact⟨g,e⟩
def Ctx.bare(c:Ctx cs ns h i j m k sc a b):Ctx cs ns (h++[.lst []]) i j m h.length [] a b:=by
 have c1:=c.app (g:=[.lst []]);refine⟨c1.st,c1.nm,c1.n5,c1.nok,c1.nd,by unfold ZnC;simp,by simp,c1.im,?_,c1.ab⟩;have:=ZH c.st.1
 lia
noncomputable def vp(ro:D)(st:Int)(o2 o3 o4 o5 o6:Option D):Ev:=[Wn ro,Wn (.int st),o2,o3,o4,o5,o6]
def Zri:Sxs:=(.c (.iff (.ex (.cmp .Lt (.call (O "_law_width") (.c (.v 5) .n)) (.ci 50))) (.c (.put (.v 3) (.ci 2) (.ci 12)) (.c (.set (.nm 5) (.tupl (.c (.Ci_ "+") (.c (.v 5) (.c (.call (O "_law_any") (.c (.Ci_ "n") (.c (.lstl .n) (.c (.v 3) (.c (.v 4) (.c (.ci 6) .n)))))) .n))))) .n)) .n) .n)
inductive Turned(cs:List Int)(ns:List Str)(h:Hd)(i j m k:Nat)(sc:Scp)(a:Int)(dm:Nat)(S:Option D->Ev)(r:R (Fl×Ev))(z0:Int):Prop
 |mk (t:T) (h':Hd) (a' b':Int) (e:r=.ok (.nx,S (Wn t.d)) h') (c:Cl [] t) (d:nb t<=dep t/\dep t<=dm) (u:Up i h h') (x:Ctx cs ns h' i j m k sc a' b') (l:a'<=a+65536) (z:fw t<=z0+36)
def turn(H:Mkr P)(hN:40<=N)(c:Ctx cs ns h i j m k sc a b)(ct:Cl [] t)(hd:nb t<=dep t/\dep t<=30)(ha:a<2 ^ 45)(ro:D)(st:Int)(o2 o6:Option D):Turned cs ns h i j m k sc a (max (dep t) 21+1) (λo=>vp ro st o2 (Wn (.ref i)) (Wn (.ref m)) o o6)
 (xs2 (P.tbl N) Zri (vp ro st o2 (Wn (.ref i)) (Wn (.ref m)) (Wn t.d) o6) h) (fw t):=by
 have A6:A 6=16384:=by decide
 obtain⟨g,ew⟩:=Zi6 H N t h (by lia);have c1:=c.app (g:=g);have te:tst (P.tbl N) (.ex (.cmp .Lt (.call (O "_law_width") (.cons (.var 5) .nil)) (.ci 50))) (vp ro st o2 (Wn (.ref i)) (Wn (.ref m)) (Wn t.d) o6) h=.ok (Wt ((t.size:Int)<50)) (h++g):=Zwb (Zo ew rfl) rfl;by_cases hw:(t.size:Int)<50
 . have p1:Zau (.ref i) (.int 2) (.int 12) (h++g)=.ok () ((h++g).set i (.lst [.ref j,.int a,.int 12])):=by simp only[Zau,c1.st.1];rfl
   have s1:St3 ((h++g).set i (.lst [.ref j,.int a,.int 12])) i j cs a 12:=⟨by rw[Ol (ZH c1.st.1)],by rw[Oc c1.st.2.2];exact c1.st.2.1,c1.st.2.2⟩
   obtain⟨h2,p1,u1,c2⟩:∃h2,Zau (.ref i) (.int 2) (.int 12) (h++g)=.ok () h2/\Up i h h2/\Ctx cs ns h2 i j m k sc a 12:=⟨_,p1,Up.app.trans Up.set,c1.up Up.set s1 c.ab⟩
   obtain⟨t1,h3,a1,b1,e1,u3,s3,l1,l2,c3,p3,z3⟩:=ZpV H.toMk0 6 N (by lia) c2.bare (O "n") 6 (by decide) (by simp) (by rw[A6];lia);have u4:=u1.trans ((Up.app (i:=i) (g:=[.lst []])).trans u3);have x1:xs1 (P.tbl N) (.put (.var 3) (.ci 2) (.ci 12)) (vp ro st o2 (Wn (.ref i)) (Wn (.ref m)) (Wn t.d) o6) (h++g)=.ok (.nx,vp ro st o2 (Wn (.ref i)) (Wn (.ref m)) (Wn t.d) o6) h2:=by show R.bnd (Zau (.ref i) (.int 2) (.int 12) (h++g)) _=_;rw[p1];rfl
   refine⟨.op .add t t1,h3,a1,b1,?_,⟨ct,c3⟩,by simp only[dep,nb];lia,u4,c.up u4 s3 (by have:=c.ab;lia),by rw[A6]at l2;lia,by simp only[fw,pz]at *;lia⟩;refine(Za ((Zu (Zq te (decide_eq_true hw))).trans ((Za x1).trans ((Za (Zl (ZaA (Zc rfl (Zc rfl (Zc (Zo e1 (Zc rfl (Zc (Znr rfl (by simp)) rfl))) rfl))) (by simp)))).trans rfl)))).trans rfl
 . exact⟨t,h++g,a,b,(Za ((Zs (Zq te (decide_eq_false hw))).trans rfl)).trans rfl,ct,by lia,Up.app,c1,by lia,by lia⟩
def ZvD(zs:List Int)(st:Int)(hz:zs.length<=100):∃ys:List Int,ys.length<=100/\∀h:Hd,Zjt (.ro (zs.map D.int)) (Wn st) Wo h=.ok (.ref h.length) (h++[.lst (ys.map .int)]):=by
 refine⟨(zs.drop (HT.sIx zs.length 0 (Wn st))).take (HT.sIx zs.length zs.length Wo - HT.sIx zs.length 0 (Wn st)),?_,λh=>?_⟩
 . rw[List.length_take,List.length_drop]
   lia
 . show Zba (.lst (cutD (zs.map D.int) (Wn st) Wo)) h=_;simp[cutD,List.map_drop,List.map_take]
inductive Begun(h:Hd)(S:Option D->Option D->Option D->Ev)(r:Sxs->R (Fl×Ev))(U:Tb):Prop
 |mk (cs:List Int) (ns:List Str) (h':Hd) (i j m:Nat) (e:∀s,r s=xs2 U s (S (Wn (.ref j)) (Wn (.ref i)) (Wn (.ref m))) h') (c:Ctx cs ns (h'++[.lst []]) i j m h'.length [] 1 26) (l:h.length<=i) (u:Up i h h')
def Ztm(H:Mkr P)(hN:40<=N)(zs:List Int)(st:Int)(h:Hd)(hz:zs.length<=100):Begun h (λo2 o3 o4=>vp (.ro (zs.map .int)) st o2 o3 o4 Wo Wo) (λs=>xs2 (P.tbl N) (.cons Zai (.cons Zc6 (.cons Zc5 s))) (vp (.ro (zs.map .int)) st Wo Wo Wo Wo Wo) h) (P.tbl N):=by
 obtain⟨N,rfl⟩:∃N3,N=N3+2:=⟨N - 2,by lia⟩
 obtain⟨ys,hyl,osl⟩:=ZvD zs st hz;obtain⟨cs,hcl,ec⟩:=Zg9 H.toMk0 (n:=N+1) (h:=h++[.lst (ys.map .int)]) (k:=h.length) (xs0:=ys.map .int) (by simp) ys 0 [] (by simp;lia) (by lia);have en:Zds (ys.map D.int)=ys.mapIdx λq x=>D.tup [.int ((q+0:Nat):Int),.int x]:=by unfold Zds;apply List.ext_getElem?;intro q;simp[List.getElem?_mapIdx];cases ys[q]?<;>rfl
 have ei:evi (P.tbl (N+2)) (.enu (.sl (.var 0) (Wn (.var 1)) Wo)) (vp (.ro (zs.map .int)) st Wo Wo Wo Wo Wo) h=.ok ⟨[(h.length,ys.map .int)],Zds (ys.map D.int)⟩ (h++[.lst (ys.map .int)]):=by rw[Zry,show ev (P.tbl (N+2)) (.sl (.var 0) (Wn (.var 1)) Wo) (vp (.ro (zs.map .int)) st Wo Wo Wo Wo Wo) h=.ok (.ref h.length) (h++[.lst (ys.map .int)])from osl h,Zg];simp[ZhF]
 rw[<- en]at ec;have x1:xs1 (P.tbl (N+2)) Zai (vp (.ro (zs.map .int)) st Wo Wo Wo Wo Wo) h=.ok (.nx,vp (.ro (zs.map .int)) st (Wn (.ref (h++[DO.lst (ys.map .int)]).length)) Wo Wo Wo Wo) (h++[.lst (ys.map .int)]++[.lst (cs.map .int)]):=Zl (Zfb ei ec);generalize D.ro (zs.map .int)=ro at *;obtain⟨h1,j,u1,k1,lj,x1⟩:∃(h1:Hd) (j:Nat),Up h1.length h h1/\h1[j]? = Wn (.lst (cs.map .int))/\j<h1.length/\xs1 (P.tbl (N+2)) Zai (vp ro st Wo Wo Wo Wo Wo) h=.ok (.nx,vp ro st (Wn (.ref j)) Wo Wo Wo Wo) h1:=⟨_,_,Up.app.trans Up.app,ZaH,by simp,x1⟩
 have s2:St3 (h1++[.lst [.ref j,.int 0,.int 26]]) h1.length j cs 0 26:=⟨ZaH,by rw[Oe lj];exact k1,by lia⟩
 obtain⟨v,e3,_⟩:=Zgx H.toMk0 N s2 (by decide);rw[ZvM]at e3;obtain⟨ns,n5,nok,nnd,e4⟩:=Zqn H.toMk0 (N+1) v (h1++[.lst [.ref j,.int 1,.int 26]]);have hle:=u1.1;refine⟨cs,ns,h1++[.lst [.ref j,.int 1,.int 26]]++[.lst (ns.map .str)],h1.length,j,(h1++[DO.lst [.ref j,.int 1,.int 26]]).length,λs=>?_,⟨⟨by simp,by simp[Oe lj,k1],by lia⟩,by simp,n5,nok,nnd,by unfold ZnC;simp,by simp,by simp,by simp,by decide⟩,hle,?_⟩
 . exact(Za x1).trans ((Za (Zl (Znr (Zc rfl (Zc rfl (Zc rfl rfl))) (by simp)))).trans ((Za (Zl (Zo e4 (Zc (Zo e3 rfl) rfl)))).trans rfl))
 . rw[Oz];exact⟨by simp;lia,λm a n=>by rw[Oe (by lia)];exact u1.2 m a n⟩
inductive Sixth(h:Hd)(i:Nat)(S:Option D->Ev)(r:R (Fl×Ev)):Prop
 |mk (t:T) (h':Hd) (e:r=.ok (.nx,S (Wn t.d)) h') (c:Cl [] t) (s:t.size<=100) (d:dep t<=20) (u:Up i h h') (z:fw t<=150/\nb t<=dep t)
def Ztl(H:Mkr P)(hN:40<=N)(c:Ctx cs ns h i j m k sc a b)(ct:Cl [] t)(hd:nb t<=dep t/\dep t<=26)(hf:fw t<=150)(ha:a<2 ^ 50)(ro:D)(st:Int)(o2 o4 o6:Option D):Sixth h i (λo=>vp ro st o2 (Wn (.ref i)) o4 o o6) (xs1 (P.tbl N) Zbb (vp ro st o2 (Wn (.ref i)) o4 (Wn t.d) o6) h):=by
 obtain⟨g1,ew⟩:=Zi6 H N t h (by lia);obtain⟨g2,ed⟩:=ZrD H N t (h++g1) (by lia);have tw:tst (P.tbl N) (.ex (.cmp .Gt (.call (O "_law_width") (.cons (.var 5) .nil)) (.ci 100))) (vp ro st o2 (Wn (.ref i)) o4 (Wn t.d) o6) h=.ok (Wt ((100:Int)<t.size)) (h++g1):=Zwz (Zo ew rfl) rfl;have td:tst (P.tbl N) (.ex (.cmp .Gt (.call (O "_law_deep") (.cons (.var 5) .nil)) (.ci 20))) (vp ro st o2 (Wn (.ref i)) o4 (Wn t.d) o6) (h++g1)=.ok (Wt ((20:Int)<dep t)) (h++g1++g2):=Zwz (Zo ed rfl) rfl;have plain:∀{q:Sxs} (g:Hd),∃t' h',xs2 (P.tbl N) (.cons (.set (.nm 5) (.call (O "_law_plain") (.cons (.Ci_ "n") (.cons (.call (O "_law_next") (.cons (.var 3) .nil)) .nil)))) .nil) (vp ro st o2 (Wn (.ref i)) o4 (Wn t.d) o6) (h++g)=.ok (.nx,vp ro st o2 (Wn (.ref i)) o4 (Wn (T.d t')) o6) h'/\Cl [] t'/\(nb t'<=dep t'/\dep t'<=2)/\(t'.size<=4/\fw t'<=0)/\Up i h h':=λg=>by
  obtain⟨N,rfl⟩:∃N3,N=N3+2:=⟨N - 2,by lia⟩
  obtain⟨v,e8,_⟩:=Zgx H.toMk0 N (c.app (g:=g)).st ⟨c.ab,ha⟩;obtain⟨tp,gp,e9,q1,q2,q3⟩:=Zil H.toMk0 (N+1) (O "n") v ((h++g).set i (.lst [.ref j,.int (a+1),.int b])) [];exact⟨tp,_,(Za (Zl (Zo e9 (Zc rfl (Zc (Zo e8 rfl) rfl))))).trans rfl,q1,q2,q3,(Up.app.trans Up.set).trans Up.app⟩
 by_cases hw:(100:Int)<t.size
 . obtain⟨t',h',e,q1,q2,q3,u⟩:=plain (q:=.nil) g1;exact⟨t',h',(Zu (Zty (Zq tw (decide_eq_true hw)))).trans e,q1,by lia,by lia,u,by lia⟩
 . have tw':=Zq tw (decide_eq_false hw);by_cases hq:(20:Int)<dep t
   . obtain⟨t',h',e,q1,q2,q3,u⟩:=plain (q:=.nil) (g1++g2);rw[<- Oz]at e;exact⟨t',h',(Zu (ZkH tw' (Zq td (decide_eq_true hq)))).trans e,q1,by lia,by lia,u,by lia⟩
   . exact⟨t,_,(Zs (ZkH tw' (Zq td (decide_eq_false hq)))).trans rfl,ct,by lia,by lia,Up.app.trans Up.app,hf,hd.1⟩
def ZmW(H:Mkr P)(hN:40<=N)(zs:List Int)(st:Int)(h:Hd)(hz:zs.length<=100):∃t h',run P (N+1) (O "_law_program") [.ro (zs.map .int),.int st] h=.ok (T.d t) h'/\Cl [] t/\t.size<=100/\dep t<=20/\h.length<=h'.length/\(∀q,q<h.length->h'[q]? = h[q]?)/\fw t<=150/\nb t<=dep t:=by
 rw[Zge H.program rfl];have A7:A 7=65536:=by decide
 cases Ztm H hN zs st h hz with
 |mk cs ns h3 i j m e3 c4 li u3=>
 cases ZpV H.toMk0 7 N (by lia) c4 (O "n") 7 (by decide) (by decide) (by rw[A7];decide)with
 |mk t4 h4 a4 b4 e5 u4 s4 l1 l2 ct4 d4 z4=>
 have z4:fw t4<=78:=by simp only[pz]at z4;lia
 rw[A7]at l2;cases turn H hN (c4.up u4 s4 (by lia)) ct4 (by lia) (by lia) (.ro (zs.map .int)) st (Wn (.ref j)) (Wn (.int 0))with
 |mk t5 h5 a5 b5 e6 ct5 d5 u5 c6 l4 z5=>
 cases turn H hN c6 ct5 (by lia) (by lia) (.ro (zs.map .int)) st (Wn (.ref j)) (Wn (.int 1))with
 |mk t6 h6 a6 b6 e7 ct6 d6 u6 c7 l6 z6=>
 cases Ztl H hN c7 ct6 (by lia) (by lia) (by lia) (.ro (zs.map .int)) st (Wn (.ref j)) (Wn (.ref m)) (Wn (.int 1))with
 |mk t hh x6 ct sz dt u z=>
 have u8:=(u3.trans ((Up.app (i:=i) (g:=[.lst []])).trans ((u4.trans u5).trans u6))).trans u;refine⟨t,hh,?_,ct,sz,dt,u8.1,λq hq=>u8.2 q hq (by lia),z⟩;have x5:xs1 (P.tbl N) Zbc (vp (.ro (zs.map .int)) st (Wn (.ref j)) (Wn (.ref i)) (Wn (.ref m)) (Wn t4.d) Wo) h4=.ok (.nx,vp (.ro (zs.map .int)) st (Wn (.ref j)) (Wn (.ref i)) (Wn (.ref m)) (Wn t6.d) (Wn (.int 1))) h6:=(ZgS (w:=⟨[],[.int 0,.int 1]⟩) rfl).trans ((ZgT rfl e6).trans ((ZgT rfl e7).trans rfl));exact(congrArg Ze ((e3 (.cons Zc4 (.cons Zbc (.cons Zbb (.cons Zc3 .nil))))).trans ((Za (Zl (Zo e5 (Zc rfl (Zc (Znr rfl (by simp)) rfl))))).trans ((Za x5).trans ((Za x6).trans rfl))))).trans rfl
end
end Gn
namespace Rw
open PySem L2 IV Gn
section
def ZA:Sxs:=(.c (.iff (.ors (.c (.ex (.cmp .NotEq (.ix (.v 1) (.ci 0)) (.Ci_ "num"))) (.one (.ex (.cmp .NotEq (.ix (.v 2) (.ci 0)) (.Ci_ "num")))))) (.c (.ret (.cst .non)) .n) .n) (.c (.iff (.ex (.cmp .Eq (.v 0) (.Ci_ "<"))) (.c (.ret (.tupl (.c (.Ci_ "num") (.c (.ite (.ex (.cmp .Lt (.ix (.v 1) (.ci 1)) (.ix (.v 2) (.ci 1)))) (.ci 1) (.ci 0)) .n)))) .n) .n) (.c (.iff (.ex (.cmp .Eq (.v 0) (.Ci_ "+"))) (.c (.ret (.tupl (.c (.Ci_ "num") (.c (.bin .Mod (.bin .Add (.ix (.v 1) (.ci 1)) (.ix (.v 2) (.ci 1))) (.glo (O "BEYOND"))) .n)))) .n) .n) (.c (.iff (.ex (.cmp .Eq (.v 0) (.Ci_ "-"))) (.c (.ret (.tupl (.c (.Ci_ "num") (.c (.bin .Mod (.bin .Sub (.ix (.v 1) (.ci 1)) (.ix (.v 2) (.ci 1))) (.glo (O "BEYOND"))) .n)))) .n) .n) (.c (.ret (.tupl (.c (.Ci_ "num") (.c (.bin .Mod (.bin .Mult (.ix (.v 1) (.ci 1)) (.ix (.v 2) (.ci 1))) (.glo (O "BEYOND"))) .n)))) .n)))))
def Ze4:Fd:=⟨[(O "word"),(O "first"),(O "second")],[(O "word"),(O "first"),(O "second")],ZA⟩
variable {P:Pg}{h:Hd}
noncomputable def wk(w:Wd)(a b:Int):Int:=match w with
 |.lt=>if a<b then 1 else 0
 |.add=>(a+b) % 1000000
 |.sub=>(a - b) % 1000000
 |.mul=>a * b % 1000000
def worked_nn(hw:P.tb.lookup (O "worked")=Wn Ze4)(hb:P.G (O "BEYOND")=Wn (.int 1000000))(n:Nat)(w:Wd)(hx:0<=x/\x<1000000)(hy:0<=y/\y<1000000):run P (n+1) (O "worked") [.str w.s,(T.num x).d,(T.num y).d] h=.ok (T.num (wk w x y)).d h:=by
 rw[Zd hw (by rfl)];have gb:∀S,ev (P.tbl n) (.glo (O "BEYOND")) S h=.ok (.int 1000000) h:=λS=>by show R.ofO (P.G (O "BEYOND")) h=_;rw[hb];rfl
 have m2:opB .Mult (.int x) (.int y) h=.ok (.int (x * y)) h:=ZeR ⟨ZV (by lia) (by lia),ZV (by lia) (by lia)⟩;have fin:∀(S:Ev) (e:Ex) (z:Int),ev (P.tbl n) e S h=.ok (.int z) h->xs1 (P.tbl n) (.ret (.tupl (.cons (.Ci_ "num") (.cons (.bin .Mod e (.glo (O "BEYOND"))) .nil)))) S h=.ok (.rt (T.num (z % 1000000)).d,S) h:=λS e z q=>Zm (ZaA (Zc rfl (Zc ((Zt q (gb S)).trans (ZN (by decide))) rfl)) (by simp))
 show Ze (xs2 (P.tbl n) ZA [Wn (.str w.s),Wn (T.num x).d,Wn (T.num y).d] h)=_;rw[nx1 (U:=P.tbl n) (ss:=ZA) (ρ1:=[Wn (.str w.s),Wn (T.num x).d,Wn (T.num y).d]) (h2:=h) rfl rfl];cases w with
 |lt=>by_cases e:x<y<;>simp[ZA,tlS,T.d,Wd.s,wk,e,YB]
 |add=>rw[nx1 (U:=P.tbl n) (ss:=tlS ZA) (ρ1:=[Wn (.str Wd.add.s),Wn (T.num x).d,Wn (T.num y).d]) (h2:=h) rfl rfl];exact rt1 (U:=P.tbl n) (ss:=tlS (tlS ZA)) ((Zu rfl).trans (Zb (fin _ _ (x+y) rfl))) rfl
 |sub=>rw[nx1 (U:=P.tbl n) (ss:=tlS ZA) (ρ1:=[Wn (.str Wd.sub.s),Wn (T.num x).d,Wn (T.num y).d]) (h2:=h) rfl rfl,nx1 (U:=P.tbl n) (ss:=tlS (tlS ZA)) (ρ1:=[Wn (.str Wd.sub.s),Wn (T.num x).d,Wn (T.num y).d]) (h2:=h) rfl rfl];exact rt1 (U:=P.tbl n) (ss:=tlS (tlS (tlS ZA))) ((Zu rfl).trans (Zb (fin _ _ (x - y) rfl))) rfl
 |mul=>rw[nx1 (U:=P.tbl n) (ss:=tlS ZA) (ρ1:=[Wn (.str Wd.mul.s),Wn (T.num x).d,Wn (T.num y).d]) (h2:=h) rfl rfl,nx1 (U:=P.tbl n) (ss:=tlS (tlS ZA)) (ρ1:=[Wn (.str Wd.mul.s),Wn (T.num x).d,Wn (T.num y).d]) (h2:=h) rfl rfl,nx1 (U:=P.tbl n) (ss:=tlS (tlS (tlS ZA))) (ρ1:=[Wn (.str Wd.mul.s),Wn (T.num x).d,Wn (T.num y).d]) (h2:=h) rfl rfl];exact rt1 (U:=P.tbl n) (ss:=tlS (tlS (tlS (tlS ZA)))) (fin _ _ (x * y) m2) rfl
end
end Rw
namespace IV
open PySem L2
mutual
def D.pure:D->Bool
 |.non|.bl _|.int _|.str _=>Wp
 |.tup xs=>D.pures xs
 |_=>Wq
def D.pures:List D->Bool
 |[]=>Wp
 |x::xs=>D.pure x&&D.pures xs
end
mutual
def D.dp:D->Nat
 |.tup xs=>D.dps xs+1
 |_=>0
def D.dps:List D->Nat
 |[]=>0
 |x::xs=>max (D.dp x) (D.dps xs)
end
mutual
theorem Zgg:∀d:D,d.pure=Wp->∃p,D.py rd d=Wn p/\p.depth<=d.dp/\YO p p=Wp
 |.non,_=>⟨.none,rfl,Oq _,rfl⟩
 |.bl b,_=>⟨.bool b,rfl,Oq _,by simp[YO]⟩
 |.int b,_=>⟨.int b,rfl,Oq _,by simp[YO]⟩
 |.str b,_=>⟨.str b,rfl,Oq _,by simp[YO]⟩
 |.tup xs,h=>by
  obtain⟨ps,e1,e2,e3⟩:=pys_same (rd:=rd) xs (by simpa[D.pure]using h);refine⟨.tuple ps,by simp[D.py,e1],?_,?_⟩
  . simp only[PyData.depth,D.dp];lia
  . simpa[YO]using e3
 |.ref _,h=>by cases h
 |.ty _,h=>by cases h
 |.ro _,h=>by cases h
 |.kd _,h=>by cases h
theorem pys_same:∀ds:List D,D.pures ds=Wp->∃ps,D.pys rd ds=Wn ps/\PyData.depthAll ps<=D.dps ds/\PyData.eqvAll ps ps=Wp
 |[],_=>⟨[],rfl,Oq _,by simp[PyData.eqvAll]⟩
 |x::xs,h=>by
  rw[D.pures,Oa]at h;obtain⟨p,a1,a2,a3⟩:=Zgg (rd:=rd) x h.1;obtain⟨ps,b1,b2,b3⟩:=pys_same (rd:=rd) xs h.2;refine⟨p::ps,by simp[D.pys,a1,b1],?_,?_⟩
  . simp only[PyData.depthAll,D.dps];lia
  . simp[PyData.eqvAll,a3,b3]
end
def Zna(hp:d.pure=Wp)(hd:d.dp<=1100):Zav n d d h=.ok (.bl (!n)) h:=by obtain⟨p,e1,e2,e3⟩:=Zgg (rd:=Zdc h 4) d hp;unfold Zav;rw[show Zdd h d=Wn p from e1];simp only;rw[if_pos (by lia),e3];cases n<;>rfl
end IV
namespace Rw
open PySem L2 IV Gn
def wk_ok(w:Wd)(a b:Int):0<=wk w a b/\wk w a b<1000000:=by
 cases w<;>simp only[wk]
 . lia
 . lia
 . exact⟨Int.emod_nonneg _ (by decide),Int.emod_lt_of_pos _ (by decide)⟩
 . split<;>lia
end Rw
namespace Tm
open PySem L2 IV
def Zag:Sxs:=(.c (.iff (.ex (.cmp .NotIn (.ix (.v 0) (.ci 0)) (.glo (O "FORMS")))) (.c (.ret (.tupl .n)) .n) .n) (.c (.ret (.sl (.v 0) (Wn (.ci 1)) (Wn (.bin .Add (.ci 1) (.ix (.ix (.glo (O "FORMS")) (.ix (.v 0) (.ci 0))) (.ci 0)))))) .n))
def Zek:Fd:=⟨[(O "E")],[(O "E")],Zag⟩
def ZbP:Sxs:=(.c (.iff (.ex (.cmp .NotIn (.ix (.v 0) (.ci 0)) (.glo (O "FORMS")))) (.c (.ret (.v 0)) .n) .n) (.c (.ret (.sl (.v 0) Wo (Wn (.bin .Add (.ci 1) (.ix (.ix (.glo (O "FORMS")) (.ix (.v 0) (.ci 0))) (.ci 0)))))) .n))
def Zg1:Fd:=⟨[(O "E")],[(O "E")],ZbP⟩
def Zaf:Sxs:=(.c (.iff (.ex (.cmp .NotIn (.ix (.v 0) (.ci 0)) (.glo (O "FORMS")))) (.c (.ret (.ci 0)) .n) .n) (.c (.ret (.ix (.ix (.glo (O "FORMS")) (.ix (.v 0) (.ci 0))) (.ci 1))) .n))
def Zej:Fd:=⟨[(O "front")],[(O "front")],Zaf⟩
def ZmE:Sxs:=(.c (.set (.nm 1) (.lstl .n)) (.c (.forr (.nm 2) (.rev (.v 0)) (.c (.set (.nm 3) (.comp [(O "k"),(O "done")] [Wo,Wn 1] (.rng (.call (O "count_parts") (.c (.v 2) .n))) (.nm 0) Wo (.meth .pop (.v 1) .n))) (.c (.drp (.meth .app (.v 1) (.c (.bin .Add (.v 2) (.blt .tup (.c (.v 3) .n))) .n))) .n))) (.c (.ret (.ix (.v 1) (.ci 0))) .n)))
def ZiD:Fd:=⟨[(O "fronts")],[(O "fronts"),(O "done"),(O "front"),(O "parts")],ZmE⟩
def Zlo:Sxs:=(.c (.forr (.two 2 3) (.pl (.v 1)) (.c (.iff (.ex (.cmp .Eq (.v 2) (.v 0))) (.c (.ret (.v 3)) .n) .n) .n)) (.c (.ret (.cst .non)) .n))
def Zg3:Fd:=⟨[(O "name"),(O "around")],[(O "name"),(O "around"),(O "known"),(O "thing")],Zlo⟩
def ZpK:Sxs:=(.c (.iff (.ex (.cmp .Eq (.ix (.v 0) (.ci 0)) (.Ci_ "clo"))) (.c (.ret (.sl (.v 0) (Wn (.ci 1)) Wo)) .n) .n) (.c (.ret (.tupl (.c (.v 0) (.c (.tupl .n) .n)))) .n))
def ZjT:Fd:=⟨[(O "thing")],[(O "thing")],ZpK⟩
def Zln:Sxs:=(.c (.iff (.ex (.cmp .NotEq (.ix (.v 0) (.ci 0)) (.Ci_ "name"))) (.c (.ret (.cst .non)) .n) .n) (.c (.ret (.call (O "bound_to") (.c (.ix (.v 0) (.ci 1)) (.c (.v 1) .n)))) .n))
def ZgX:Fd:=⟨[(O "place"),(O "around")],[(O "place"),(O "around")],Zln⟩
def ZpJ:Sxs:=(.c (.ret (.bin .Add (.blt .tup (.c (.comp [(O "name")] [Wo] (.pl (.call (O "bound_names") (.c (.v 0) .n))) (.nm 0) Wo (.tupl (.c (.v 0) (.c (.cst .non) .n)))) .n)) (.v 1))) .n)
def ZjS:Fd:=⟨[(O "place"),(O "around")],[(O "place"),(O "around")],ZpJ⟩
def Zhi:Sxs:=(.c (.ret (.cmp .In (.ix (.v 0) (.ci 0)) (.glo (O "VALUES")))) .n)
def ZgZ:Fd:=⟨[(O "E")],[(O "E")],Zhi⟩
def Za0:Sxs:=(.c (.iff (.ex (.cmp .Eq (.ix (.v 0) (.ci 0)) (.Ci_ "if"))) (.c (.ret (.sl (.v 0) (Wn (.ci 1)) (Wn (.ci 2)))) .n) .n) (.c (.ret (.call (O "parts_of") (.c (.v 0) .n))) .n))
def Zef:Fd:=⟨[(O "E")],[(O "E")],Za0⟩
def Zkg:Sxs:=(.c (.iff (.ex (.cmp .NotEq (.ix (.v 0) (.ci 0)) (.Ci_ "num"))) (.c (.ret (.cst .non)) .n) .n) (.c (.ret (.ite (.ex (.cmp .Eq (.ix (.v 0) (.ci 1)) (.ci 0))) (.v 2) (.v 1))) .n))
def Zg2:Fd:=⟨[(O "C"),(O "T"),(O "E")],[(O "C"),(O "T"),(O "E")],Zkg⟩
def Zhg:Sx:=(.iff (.ors (.c (.ex (.cmp .NotEq (.ix (.v 1) (.ci 0)) (.Ci_ "num"))) (.one (.ex (.cmp .NotEq (.ix (.v 2) (.ci 0)) (.Ci_ "num")))))) (.c (.ret (.cst .non)) .n) .n)
def Zll:Sx:=(.iff (.ex (.cmp .Eq (.v 0) (.Ci_ "<"))) (.c (.ret (.tupl (.c (.Ci_ "num") (.c (.ite (.ex (.cmp .Lt (.ix (.v 1) (.ci 1)) (.ix (.v 2) (.ci 1)))) (.ci 1) (.ci 0)) .n)))) .n) .n)
def Zlk:Sx:=(.iff (.ex (.cmp .Eq (.v 0) (.Ci_ "+"))) (.c (.ret (.tupl (.c (.Ci_ "num") (.c (.bin .Mod (.bin .Add (.ix (.v 1) (.ci 1)) (.ix (.v 2) (.ci 1))) (.glo (O "BEYOND"))) .n)))) .n) .n)
def Zlj:Sx:=(.iff (.ex (.cmp .Eq (.v 0) (.Ci_ "-"))) (.c (.ret (.tupl (.c (.Ci_ "num") (.c (.bin .Mod (.bin .Sub (.ix (.v 1) (.ci 1)) (.ix (.v 2) (.ci 1))) (.glo (O "BEYOND"))) .n)))) .n) .n)
def Zli:Sx:=(.ret (.tupl (.c (.Ci_ "num") (.c (.bin .Mod (.bin .Mult (.ix (.v 1) (.ci 1)) (.ix (.v 2) (.ci 1))) (.glo (O "BEYOND"))) .n))))
def ZA:Sxs:=(.c Zhg (.c Zll (.c Zlk (.c Zlj (.c Zli .n)))))
def Ze4:Fd:=⟨[(O "word"),(O "first"),(O "second")],[(O "word"),(O "first"),(O "second")],ZA⟩
def ZdN:Sxs:=(.c (.seta [(O "Pen")] (.v 0) (O "most") (.v 1)) (.c (.seta [(O "Pen")] (.v 0) (O "used") (.ci 0)) .n))
def Zax:Fd:=⟨[(O "self"),(O "most")],[(O "self"),(O "most")],ZdN⟩
noncomputable def Zlm(x:Sx):Sxs:=(.cons (.iff (.ex (.cmp .Eq (.att [(O "Pen")] (.var 0) (O "used")) (.att [(O "Pen")] (.var 0) (O "most")))) (.cons x .nil) .nil) (.cons (.auga [(O "Pen")] (.var 0) (O "used") (.ci 1)) .nil))
def Zk6(x:Sx):Fd:=⟨[(O "self")],[(O "self")],Zlm x⟩
def Zi1:Sxs:=(.c (.set (.nm 3) (.lstl .n)) (.c (.set (.nm 4) (.lstl (.c (.tupl (.c (.v 1) (.c (.v 2) .n))) .n))) (.c (.whl (.ex (.v 4)) (.c (.set (.nm 5) (.meth .pop (.v 4) .n)) (.c (.set (.nm 6) (.call (O "meant_by") (.c (.ix (.v 5) (.ci 0)) (.c (.ix (.v 5) (.ci 1)) .n)))) (.c (.iff (.ex (.cmp .Is (.v 6) (.cst .non))) (.c (.drp (.mcl (O "Pen") (O "take_place") (.v 0) .n)) (.c (.drp (.meth .app (.v 3) (.c (.call (O "front_of") (.c (.ix (.v 5) (.ci 0)) .n)) .n))) (.c (.set (.nm 7) (.call (O "within") (.c (.ix (.v 5) (.ci 0)) (.c (.ix (.v 5) (.ci 1)) .n)))) (.c (.drp (.meth .ext (.v 4) (.c (.comp [(O "part"),(O "inner")] [Wo,Wn 7] (.rev (.call (O "parts_of") (.c (.ix (.v 5) (.ci 0)) .n))) (.nm 0) Wo (.tupl (.c (.v 0) (.c (.v 1) .n)))) .n))) .n)))) (.c (.drp (.meth .app (.v 4) (.c (.call (O "opened") (.c (.v 6) .n)) .n))) .n)) .n)))) (.c (.ret (.call (O "built") (.c (.v 3) .n))) .n))))
def Zfa:Fd:=⟨[(O "self"),(O "E"),(O "around")],[(O "self"),(O "E"),(O "around"),(O "fronts"),(O "waiting"),(O "pair"),(O "thing"),(O "inner")],Zi1⟩
structure Trb(P:Pg):Prop extends Gn.Tre P where
 bound_names:P.tb.lookup (O "bound_names")=Wn Zek
 front_of:P.tb.lookup (O "front_of")=Wn Zg1
 count_parts:P.tb.lookup (O "count_parts")=Wn Zej
 built:P.tb.lookup (O "built")=Wn ZiD
 bound_to:P.tb.lookup (O "bound_to")=Wn Zg3
 opened:P.tb.lookup (O "opened")=Wn ZjT
 meant_by:P.tb.lookup (O "meant_by")=Wn ZgX
 within:P.tb.lookup (O "within")=Wn ZjS
 n_Pen___init__:P.tb.lookup (mnm (O "Pen") (O "__init__"))=Wo
 Pen___init__:P.ms.lookup (mnm (O "Pen") (O "__init__"))=Wn Zax
 n_Pen_take_place:P.tb.lookup (mnm (O "Pen") (O "take_place"))=Wo
 tk:∃x,P.ms.lookup (mnm (O "Pen") (O "take_place"))=Wn (Zk6 x)
 n_Pen_filled:P.tb.lookup (mnm (O "Pen") (O "filled"))=Wo
 Pen_filled:P.ms.lookup (mnm (O "Pen") (O "filled"))=Wn Zfa
section
variable {P:Pg}{h:Hd}
section
variable {w:Wd}
@[simp] theorem Zyv:(w.s=O "if")↔False:=by cases w<;>simp[Wd.s]
@[simp] theorem Zda:ZK Gn.Zct (.inr w.s)=Wn (.tup [.int 0,.int 2]):=by cases w<;>rfl
end
noncomputable def bnd:T->List Str
 |.fn x _=>[x]
 |.rcc f x _=>[f,x]
 |_=>[]
noncomputable def fr:T->List D
 |.num n=>[.str (O "num"),.int n]
 |.name x=>[.str (O "name"),.str x]
 |.fn x _=>[.str (O "fn"),.str x]
 |.rcc f x _=>[.str (O "rec"),.str f,.str x]
 |.call _ _=>[.str (O "call")]
 |.iff _ _ _=>[.str (O "if")]
 |.op w _ _=>[.str w.s]
def Zya(t:T):t.d=.tup (fr t++t.parts.map T.d):=by cases t<;>rfl
def Ze3(H:Trb P)(n:Nat)(h:Hd)(w:Str)(ds:List D)(e:ZK Gn.Zct (.inr w)=Wo):run P (n+1) (O "front_of") [.tup (.str w::ds)] h=.ok (.tup (.str w::ds)) h:=by rw[Zd H.front_of rfl];show Ze (xs2 (P.tbl n) ZbP [Wn (.tup (.str w::ds))] h)=_;rw[ZbP,Zb ((Zu (Gn.ZbV H.toTre ⟨rfl,rfl⟩ Gn.Zed e)).trans (Zb (Zm (d:=.tup (.str w::ds)) rfl)))];rfl
def ZX(H:Trb P)(n:Nat)(h:Hd)(w:Str)(ds:List D)(a b:Int)(e:ZK Gn.Zct (.inr w)=Wn (.tup [.int a,.int b])):run P (n+1) (O "front_of") [.tup (.str w::ds)] h=.ok (.tup (cutD (.str w::ds) Wo (Wn (1+a)))) h:=by rw[Zd H.front_of rfl];show Ze (xs2 (P.tbl n) ZbP [Wn (.tup (.str w::ds))] h)=_;have q:=Gn.Zk4 H.toTre (U:=P.tbl n) ⟨rfl,rfl⟩ (ds:=ds) (h:=h) e;have r:ev (P.tbl n) (.sl (.var 0) Wo (Wn (.bin .Add (.ci 1) (.ix (.ix (.glo (O "FORMS")) (.ix (.var 0) (.ci 0))) (.ci 0))))) [Wn (.tup (.str w::ds))] h=.ok (.tup (cutD (.str w::ds) Wo (Wn (1+a)))) h:=(Gn.ZnW (a:=.var 0) (x:=.tup (.str w::ds)) rfl rfl (Gn.ZiG q)).trans rfl;rw[ZbP,Za ((Zs (Gn.ZbV H.toTre ⟨rfl,rfl⟩ Gn.Zed e)).trans rfl),Zb (Zm r)];rfl
def Zqp(H:Trb P)(n:Nat)(t:T)(h:Hd):run P (n+1) (O "front_of") [t.d] h=.ok (.tup (fr t)) h:=by
 cases t with
 |num z=>exact Ze3 H n h (O "num") _ rfl
 |name x=>exact Ze3 H n h (O "name") _ rfl
 |fn x e=>exact ZX H n h (O "fn") _ 1 1 rfl
 |rcc f x e=>exact ZX H n h (O "rec") _ 2 1 rfl
 |call f a=>exact ZX H n h (O "call") _ 0 2 rfl
 |iff c a b=>exact ZX H n h (O "if") _ 0 3 rfl
 |op w a b=>exact ZX H n h w.s _ 0 2 Zda
def Zqq(H:Trb P)(n:Nat)(t:T)(h:Hd):run P (n+1) (O "count_parts") [.tup (fr t)] h=.ok (.int t.parts.length) h:=by
 have no:∀(w:Str) (ds:List D),ZK Gn.Zct (.inr w)=Wo->run P (n+1) (O "count_parts") [.tup (.str w::ds)] h=.ok (.int 0) h:=λw ds e=>by rw[Zd H.count_parts rfl];show Ze (xs2 (P.tbl n) Zaf [Wn (.tup (.str w::ds))] h)=_;rw[Zaf,Zb ((Zu (Gn.ZbV H.toTre ⟨rfl,rfl⟩ Gn.Zed e)).trans (Zb (Zm (d:=.int 0) rfl)))];rfl
 have yes:∀(w:Str) (ds:List D) (a b:Int),ZK Gn.Zct (.inr w)=Wn (.tup [.int a,.int b])->run P (n+1) (O "count_parts") [.tup (.str w::ds)] h=.ok (.int b) h:=λw ds a b e=>by
  rw[Zd H.count_parts rfl];show Ze (xs2 (P.tbl n) Zaf [Wn (.tup (.str w::ds))] h)=_;have r:ev (P.tbl n) (.ix (.ix (.glo (O "FORMS")) (.ix (.var 0) (.ci 0))) (.ci 1)) [Wn (.tup (.str w::ds))] h=.ok (.int b) h:=by rw[ZjX,Gn.Zmj H.toTre ⟨rfl,rfl⟩ Gn.Zed e];rfl
  rw[Zaf,Za ((Zs (Gn.ZbV H.toTre ⟨rfl,rfl⟩ Gn.Zed e)).trans rfl),Zb (Zm r)];rfl
 cases t with
 |num z=>exact no (O "num") _ rfl
 |name x=>exact no (O "name") _ rfl
 |fn x e=>exact yes (O "fn") _ 1 1 rfl
 |rcc f x e=>exact yes (O "rec") _ 2 1 rfl
 |call f a=>exact yes (O "call") _ 0 2 rfl
 |iff c a b=>exact yes (O "if") _ 0 3 rfl
 |op w a b=>exact yes w.s _ 0 2 Zda
noncomputable abbrev Ar:=List (Str×Option T)
noncomputable def get:Ar->Str->Option T
 |[],_=>Wo
 |(y,v)::r,x=>if y=x then v else get r x
def ZtR(ar:Ar):T->Option T
 |.name x=>get ar x
 |_=>Wo
def inn(t:T)(ar:Ar):Ar:=(bnd t).map (λx=>(x,Wo))++ar
end
section
variable {P:Pg}
def sub:Ar->T->T
 |_,.num n=>.num n
 |ar,.name x=>(get ar x).getD (.name x)
 |ar,.fn x e=>.fn x (sub ((x,Wo)::ar) e)
 |ar,.rcc f x e=>.rcc f x (sub ((f,Wo)::(x,Wo)::ar) e)
 |ar,.call f a=>.call (sub ar f) (sub ar a)
 |ar,.iff c t e=>.iff (sub ar c) (sub ar t) (sub ar e)
 |ar,.op w a b=>.op w (sub ar a) (sub ar b)
def Zi(t:T):t.size=1+(t.parts.map T.size).sum:=by
 unfold T.size;rw[T.places_parts];simp only[Os,List.length_flatMap]
 lia
def ZG(t:T):1<=t.size:=by rw[Zi];lia
def ZmP(t:T)(ar:Ar)(h:ZtR ar t=Wo):(sub ar t).parts=t.parts.map (sub (inn t ar))/\fr (sub ar t)=fr t:=by
 cases t with
 |name x=>rw[sub,show get ar x=Wo from h];exact⟨rfl,rfl⟩
 |_=>exact⟨rfl,rfl⟩
def tf(t:T):D:=.tup (fr t)
def Zx{h:Hd}(e:h[i]? = Wn o):i<h.length:=(Ob.mp e).1
def keep{h:Hd}{i:Nat}{g:Hd}(e:h[i]? = Wn o):(h++g)[i]? = Wn o:=by rw[Oe (Zx e)];exact e
structure B_(h0 h:Hd)(fk dk:Nat)(fs ds:List D):Prop where
 f:h[fk]? = Wn (.lst fs)
 d:h[dk]? = Wn (.lst ds)
 ne:dk≠fk
 o1:h0.length<=dk
 ol:h0.length<=h.length
 old:∀i,i<h0.length->h[i]? = h0[i]?
theorem B_.set{h0 h:Hd}(b:B_ h0 h fk dk fs ds)(es:List D):B_ h0 (h.set dk (.lst es)) fk dk fs es:=⟨by rw[Oc b.ne];exact b.f,by rw[Ol (Zx b.d)],b.ne,b.o1,by simpa using b.ol,λi hi=>by rw[Oc (by have:=b.o1;lia)];exact b.old i hi⟩
def B_.app{h0 h g:Hd}{fk dk:Nat}{fs ds:List D}(b:B_ h0 h fk dk fs ds):B_ h0 (h++g) fk dk fs ds:=⟨keep b.f,keep b.d,b.ne,b.o1,by have:=b.ol;simp;lia,λi hi=>by rw[Oe (by have:=b.ol;lia)];exact b.old i hi⟩
theorem ZpF:∀(ks xs D0 acc:List D) (h:Hd),ks.length=xs.length->acc.length+xs.length<=1000->B_ h0 h fk dk fs (D0++xs.reverse)->∃h',
 Zz [] (.nm 0) (tsto U Wo) (ev U (.meth .pop (.var 1) .nil)) ks [Wo,Wn (.ref dk)] acc h=.ok (acc++xs) h'/\B_ h0 h' fk dk fs D0
 |[],[],D0,acc,h,_,_,b=>⟨h,by simp[Zz,Wk.stays],by simpa using b⟩
 |[],_::_,_,_,_,e,_,_=>by cases e
 |_::_,[],_,_,_,e,_,_=>by cases e
 |k::ks,x::xs,D0,acc,h,e,hz,b=>by
  have b1:B_ h0 h fk dk fs ((D0++xs.reverse)++[x]):=by simpa using b
  obtain⟨h',q,b2⟩:=ZpF (U:=U) ks xs D0 (acc++[x]) _ (by simpa using e) (by simp at hz ⊢;lia) (b1.set (D0++xs.reverse));refine⟨h',?_,b2⟩;have pp:=ZeS b1.d;have il:=Zby b1.d;have hl:acc.length<16777216:=by simp at hz;lia
  rw[ZaP];simp[Wk.stays,hl,YB,il,pp];simpa using q
def ZeT:Sxs:=(.c (.set (.nm 3) (.comp [(O "k"),(O "done")] [Wo,Wn 1] (.rng (.call (O "count_parts") (.c (.v 2) .n))) (.nm 0) Wo (.meth .pop (.v 1) .n))) (.c (.drp (.meth .app (.v 1) (.c (.bin .Add (.v 2) (.blt .tup (.c (.v 3) .n))) .n))) .n))
def Zqc(H:Trb P)(n:Nat){h0 h:Hd}{fk dk:Nat}{fs D0:List D}(t:T)(b:B_ h0 h fk dk fs (D0++(t.parts.map T.d).reverse))(hz:D0.length<=1000000)(o0 o3:Option D):∃h' o3',
 xs2 (P.tbl (n+1)) ZeT [o0,Wn (.ref dk),Wn (tf t),o3] h=.ok (.nx,[o0,Wn (.ref dk),Wn (tf t),o3']) h'/\B_ h0 h' fk dk fs (D0++[t.d]):=by
 have hp:t.parts.length<=3:=by cases t<;>simp[T.parts]
 have hf:(fr t).length<=3:=by cases t<;>simp[fr]
 have ec:=Zqq H n t h;obtain⟨h1,q1,b1⟩:=ZpF (U:=P.tbl (n+1)) (ZY 0 t.parts.length) (t.parts.map T.d) D0 [] h (by simp[ZY]) (by simp;lia) b;have s62:Zas (t.parts.length:Int)=Wp:=by simp[Zas];lia
 have b2:=(b1.app (g:=[.lst (t.parts.map T.d)])).set (D0++[t.d]);refine⟨_,Wn (.ref h1.length),?_,b2⟩;have k1:(h1++[DO.lst (t.parts.map T.d)])[dk]? = Wn (.lst D0):=keep b1.d;have x1:xs1 (P.tbl (n+1)) (.set (.nm 3) (.comp [(O "k"),(O "done")] [Wo,Wn 1] (.rng (.call (O "count_parts") (.cons (.var 2) .nil))) (.nm 0) Wo (.meth .pop (.var 1) .nil))) [o0,Wn (.ref dk),Wn (tf t),o3] h=.ok (.nx,[o0,Wn (.ref dk),Wn (tf t),Wn (.ref h1.length)]) (h1++[.lst (t.parts.map T.d)]):=by
  have ei:evi (P.tbl (n+1)) (.rng (.call (O "count_parts") (.cons (.var 2) .nil))) [o0,Wn (.ref dk),Wn (tf t),o3] h=.ok ⟨[],ZY 0 t.parts.length⟩ h:=by have e1:ev (P.tbl (n+1)) (.call (O "count_parts") (.cons (.var 2) .nil)) [o0,Wn (.ref dk),Wn (tf t),o3] h=.ok (.int t.parts.length) h:=ec;rw[Zml,e1,Zg];exact(if_pos s62).trans (by rw[Int.toNat_natCast])
  rw[Zgb,ZiI,ei,Zg];simp only[ZbI,Op,Oy,Option.bind_none,Yy];rw[show([o0,Wn (D.ref dk),Wn (tf t),o3][1]?).join=Wn (.ref dk)from rfl,q1];rfl
 have x2:xs1 (P.tbl (n+1)) (.drp (.meth .app (.var 1) (.cons (.bin .Add (.var 2) (.blt .tup (.cons (.var 3) .nil))) .nil))) [o0,Wn (.ref dk),Wn (tf t),Wn (.ref h1.length)] (h1++[.lst (t.parts.map T.d)])=.ok (.nx,[o0,Wn (.ref dk),Wn (tf t),Wn (.ref h1.length)]) (List.set (h1++[.lst (t.parts.map T.d)]) dk (.lst (D0++[t.d]))):=by
  have ap:=ZbE (d:=t.d) k1 (by rw[YB];lia);have il:=Zby k1;have ad:∀h',opB .Add (tf t) (.tup (t.parts.map T.d)) h'=.ok t.d h':=λh'=>by rw[Zya];exact Zir (by rw[YB];simp;lia)
  simp[il,Z0,Znz,lstOf,ad,ap]
 rw[ZeT,Za x1,Za x2];rfl
def ZjO(e:h[j]? = Wn (.lst L))(b:ZbJ g d S=Wn ρ1)(q:body ρ1 h=.ok (.nx,ρ2) h2):Z3 [(j,L)] g body (d::ds) S h=Z3 [(j,L)] g body ds ρ2 h2:=by
 have:Wk.stays [(j,L)] h=Wp:=by simp[Wk.stays,e]
 rw[Z3,if_pos this,b];simp only;rw[q];rfl
def ZjP(e:h[j]? = Wn (.lst L)):Z3 [(j,L)] g body [] S h=.ok (.nx,S) h:=by
 have:Wk.stays [(j,L)] h=Wp:=by simp[Wk.stays,e]
 rw[Z3,if_pos this]
def wb(P:Pg)(n fk dk:Nat)(fs:List D)(o0:Option D)(rest:List D)(o2 o3:Option D)(h:Hd):R (Fl×Ev):=Z3 [(fk,fs)] (.nm 2) (xs2 (P.tbl (n+1)) ZeT) rest [o0,Wn (.ref dk),o2,o3] h
def Bt(P:Pg)(n:Nat)(h0:Hd)(fk dk:Nat)(fs:List D)(o0:Option D)(xs D0 D1:List D):Prop:=∀(rest:List D) (h:Hd) (o2 o3:Option D),B_ h0 h fk dk fs D0->∃h' o2' o3',wb P n fk dk fs o0 (xs++rest) o2 o3 h=wb P n fk dk fs o0 rest o2' o3' h'/\B_ h0 h' fk dk fs D1
section
variable {n:Nat}{h0:Hd}{fk dk:Nat}{fs:List D}{o0:Option D}{xs ys D0 D1 D2:List D}
def Bt.trans(a:Bt P n h0 fk dk fs o0 xs D0 D1)(b:Bt P n h0 fk dk fs o0 ys D1 D2):Bt P n h0 fk dk fs o0 (xs++ys) D0 D2:=λrest h o2 o3 q=>by obtain⟨h1,o21,o31,e1,q1⟩:=a (ys++rest) h o2 o3 q;obtain⟨h2,o22,o32,e2,q2⟩:=b rest h1 o21 o31 q1;exact⟨h2,o22,o32,by rw[Oz,e1,e2],q2⟩
def Bt.front(H:Trb P)(t:T)(hz:D0.length<=1000000):Bt P n h0 fk dk fs o0 [tf t] (D0++(t.parts.map T.d).reverse) (D0++[t.d]):=λrest h o2 o3 b=>by obtain⟨h',o3',e,b'⟩:=Zqc H n t b hz o0 o3;exact⟨h',Wn (tf t),o3',ZjO b.f rfl e,b'⟩
end
theorem Zcl(H:Trb P):∀(t:T) (D0:List D),D0.length+t.size<=1000000->Bt P n h0 fk dk fs o0 (t.places.map tf).reverse D0 (D0++[t.d])
 |.num m,D0,hz=>by simpa[T.places,T.parts]using Bt.front (P:=P) (n:=n) (h0:=h0) (fk:=fk) (dk:=dk) (fs:=fs) (o0:=o0) (D0:=D0) H (.num m) (by lia)
 |.name m,D0,hz=>by simpa[T.places,T.parts]using Bt.front (P:=P) (n:=n) (h0:=h0) (fk:=fk) (dk:=dk) (fs:=fs) (o0:=o0) (D0:=D0) H (.name m) (by lia)
 |.fn x e,D0,hz=>by rw[Zi]at hz;simp only[T.parts,Op,Oy,OI,List.sum_nil]at hz;have a:=(Zcl H (n:=n) (h0:=h0) (fk:=fk) (dk:=dk) (fs:=fs) (o0:=o0) e D0 (by lia)).trans (Bt.front H (.fn x e) (by lia));simpa[T.places,T.parts]using a
 |.rcc f x e,D0,hz=>by rw[Zi]at hz;simp only[T.parts,Op,Oy,OI,List.sum_nil]at hz;have a:=(Zcl H (n:=n) (h0:=h0) (fk:=fk) (dk:=dk) (fs:=fs) (o0:=o0) e D0 (by lia)).trans (Bt.front H (.rcc f x e) (by lia));simpa[T.places,T.parts]using a
 |.call f a,D0,hz=>by rw[Zi]at hz;simp only[T.parts,Op,Oy,OI,List.sum_nil]at hz;have s1:=ZG f;have q:=(Zcl H (n:=n) (h0:=h0) (fk:=fk) (dk:=dk) (fs:=fs) (o0:=o0) a D0 (by lia)).trans (Zcl H f (D0++[a.d]) (by simp;lia));have r:=Bt.front (P:=P) (n:=n) (h0:=h0) (fk:=fk) (dk:=dk) (fs:=fs) (o0:=o0) (D0:=D0) H (.call f a) (by lia);simp only[T.parts,Op,Oy,List.reverse_cons,List.reverse_nil,OB]at r;rw[<- Oz]at r;simpa[T.places]using q.trans r
 |.op w f a,D0,hz=>by rw[Zi]at hz;simp only[T.parts,Op,Oy,OI,List.sum_nil]at hz;have s1:=ZG f;have q:=(Zcl H (n:=n) (h0:=h0) (fk:=fk) (dk:=dk) (fs:=fs) (o0:=o0) a D0 (by lia)).trans (Zcl H f (D0++[a.d]) (by simp;lia));have r:=Bt.front (P:=P) (n:=n) (h0:=h0) (fk:=fk) (dk:=dk) (fs:=fs) (o0:=o0) (D0:=D0) H (.op w f a) (by lia);simp only[T.parts,Op,Oy,List.reverse_cons,List.reverse_nil,OB]at r;rw[<- Oz]at r;simpa[T.places]using q.trans r
 |.iff c t e,D0,hz=>by rw[Zi]at hz;simp only[T.parts,Op,Oy,OI,List.sum_nil]at hz;have s1:=ZG c;have s2:=ZG t;have q:=((Zcl H (n:=n) (h0:=h0) (fk:=fk) (dk:=dk) (fs:=fs) (o0:=o0) e D0 (by lia)).trans (Zcl H t (D0++[e.d]) (by simp;lia))).trans (Zcl H c (D0++[e.d]++[t.d]) (by simp;lia));have r:=Bt.front (P:=P) (n:=n) (h0:=h0) (fk:=fk) (dk:=dk) (fs:=fs) (o0:=o0) (D0:=D0) H (.iff c t e) (by lia);simp only[T.parts,Op,Oy,List.reverse_cons,List.reverse_nil,OB]at r;rw[<- Oz,<- Oz]at r;simpa[T.places]using q.trans r
theorem Zqr (H:Trb P) (n:Nat) (t:T) (hf:h[fk]? = Wn (.lst (t.places.map tf))) (hz:t.size<=500000):∃ g,run P (n+2) (O "built") [.ref fk] h=.ok t.d (h++g):=by
 rw [Zd H.built (by rfl)];have b0:B_ h (h++[.lst []]) fk h.length (t.places.map tf) []:=⟨keep hf,by simp,by have:=Zx hf;lia,Oq _,by simp,fun i hi=>Oe hi⟩
 obtain ⟨h1,o2,o3,e1,b1⟩:=Zcl H (n:=n) (o0:=Wn (.ref fk)) t [] (by simp;lia) [] _ Wo Wo b0;have e2:wb P n fk h.length (t.places.map tf) (Wn (.ref fk)) [] o2 o3 h1=.ok (.nx,[Wn (.ref fk),Wn (.ref h.length),o2,o3]) h1:=ZjP b1.f;rw [e2,Ys] at e1;have ex:∃ g,h1=h++g:=⟨h1.drop h.length,by
   apply List.ext_getElem?;intro i;rcases Nat.lt_or_ge i h.length with q|q
   . rw [b1.old i q,Oe q]
   . rw [Om q,List.getElem?_drop];congr 1
     lia⟩
 obtain ⟨g,rfl⟩:=ex;refine ⟨g,?_⟩;have x0:=ZP (GD:=P.GD) (k:=0) b1.d;have hw:ZhE (.ref fk) (h++[.lst []])=Wn ⟨[(fk,t.places.map tf)],t.places.map tf⟩:=by simp [ZhE,b0.f]
 unfold wb ZeT at e1;simp only [Pg.tbl] at e1;simp only [OB] at x0;simp [ZiD,ZmE,ZB,YB,hw,e1,x0]
end
section
variable {P:Pg}
noncomputable def ZbC(mo:D)(u:Int):DO:=.ins (O "Pen") [(O "most",mo),(O "used",.int u)]
def Lim(mo:D)(z:Int):Prop:=mo=.non\/∃m:Int,mo=.int m/\z<=m
def Zvz(H:Trb P)(n:Nat)(mo:D)(h:Hd):ZkP (run P (n+1)) (O "Pen") [mo] h=.ok (.ref h.length) (h++[ZbC mo 0]):=by unfold ZkP;rw[Zep H.n_Pen___init__ H.Pen___init__ (by rfl)];simp[Zax,ZdN,ZB,Zhq,ZgA,YB,ZbC]
def Zrp:IV.Zav Wq (D.int u) D.non h=.ok (D.bl Wq) h:=by
 have e:YO (.int u) .none=Wq:=by simp[YO]
 show(if min (PyData.int u).depth PyData.none.depth<=1100 then R.ok (D.bl (if Wq then !YO (.int u) .none else YO (.int u) .none)) h else .bad)=_;rw[if_pos (by simp[PyData.depth]),e];rfl
def Zs5(H:Trb P)(n:Nat)(lm:Lim mo (u+1))(hp:h[pk]? = Wn (ZbC mo u)):run P (n+1) (mnm (O "Pen") (O "take_place")) [.ref pk] h=.ok .non (h.set pk (ZbC mo (u+1))):=by
 obtain⟨x,ht⟩:=H.tk;rw[Zep H.n_Pen_take_place ht (by rfl)];have ne:IV.Zav Wq (D.int u) mo h=.ok (D.bl Wq) h:=by
  rcases lm with rfl|⟨m,rfl,q⟩
  . exact Zrp
  . have:¬ u=m:=by lia
    simp[this]
 unfold ZbC at hp ⊢;simp[Zk6,Zlm,ZB,Zeu,ZR,hp,We,ne,Zhq,ZgA]
def Wid(P:Pg):Prop:=∃m,P.ms.lookup (mnm (O "Pen") (O "take_place"))=Wn (Zk6 (.rai (O "Wide") (.cst m)))
def Zn6(H:Trb P)(w:Wid P)(n:Nat)(hp:h[pk]? = Wn (ZbC (.int u) u)):run P (n+1) (mnm (O "Pen") (O "take_place")) [.ref pk] h=.exc (O "Wide") h:=by
 obtain⟨m,ht⟩:=w;rw[Zep H.n_Pen_take_place ht (by rfl)];have t1:tst (P.tbl n) (.ex (.cmp .Eq (.att [(O "Pen")] (.var 0) (O "used")) (.att [(O "Pen")] (.var 0) (O "most")))) [Wn (.ref pk)] h=.ok Wp h:=by unfold ZbC at hp;simp[Zeu,ZR,hp,We]
 exact congrArg Ze (Zlu (r:=tlS (Zlm (.rai (O "Wide") (.cst m)))) ((Zu t1).trans (Zlu (Zvy rfl))))
theorem ZcN:∀(xs:List Str) (ar:Ar) {x:Str}{V:T},get (xs.map (λy=>(y,Wo))++ar) x=Wn V->get ar x=Wn V
 |[],ar,x,V,e=>e
 |y::xs,ar,x,V,e=>by
  rw[Op,List.cons_append,get]at e;split at e
  . cases e
  . exact ZcN xs ar e
noncomputable abbrev Fil:=List (Str×T)
noncomputable def Fil.ar(f:Fil):Ar:=f.map λp=>(p.1,Wn p.2)
end
section
variable {P:Pg}{h:Hd}
noncomputable def isV:T->Bool
 |.num _|.fn _ _|.rcc _ _ _=>Wp
 |_=>Wq
def Zrq:opC GD .In (.str x) (.tup [.str (O "num"),.str (O "fn"),.str (O "rec")]) h=.ok (.bl (Wt (x=O "num" \/ x=O "fn" \/ x=O "rec"))) h:=by have:=@ZcH GD h [O "num",O "fn",O "rec"] x;simpa using this
def ZrF(c:Gn.Cl [] t)(nv:isV t=Wq)(hs:s∈t.parts):Gn.Cl [] s:=by
 cases t with
 |num _=>cases nv
 |fn _ _=>cases nv
 |rcc _ _ _=>cases nv
 |name _=>cases hs
 |call f a=>simp[T.parts]at hs;rcases hs with rfl|rfl;exact c.1;exact c.2
 |op w f a=>simp[T.parts]at hs;rcases hs with rfl|rfl;exact c.1;exact c.2
 |iff f a b=>simp[T.parts]at hs;rcases hs with rfl|rfl|rfl;exact c.1;exact c.2.1;exact c.2.2
def ZhR(f:Str)(F:T)(x:Str)(A:T):Fil:=if f=x then [(x,A)]else [(f,F),(x,A)]
def bec:T->Option T
 |.call F A=>match F with
  |.fn x e=>Wn (sub (Fil.ar [(x,A)]) e)
  |.rcc f x e=>Wn (sub (Fil.ar (ZhR f (.rcc f x e) x A)) e)
  |_=>Wo
 |.iff c t e=>match c with
  |.num z=>Wn (if z=0 then e else t)
  |_=>Wo
 |.op w a b=>match a,b with
  |.num a,.num b=>Wn (.num (_root_.Rw.wk w a b))
  |_,_=>Wo
 |_=>Wo
theorem Zcf(hM:1<=M):∀(t:T) (ar:Ar),(∀x V,get ar x=Wn V->V.size<=M)->(sub ar t).size<=t.size * M
 |.num _,_,_=>by simp[sub,T.size,T.places];lia
 |.name x,ar,hv=>by
  cases e:get ar x with
  |none=>simp[sub,e,T.size,T.places];lia
  |some V=>have:=hv x V e;simp[sub,e];simp[T.size,T.places]at *;lia
 |.fn x e,ar,hv=>by
  have ih:=Zcf hM e ((x,Wo)::ar) (λy V q=>hv y V (ZcN [x] ar q));rw[sub,Zi,Zi (.fn x e)];simp[T.parts,Nat.add_mul]at ih ⊢
  lia
 |.rcc f x e,ar,hv=>by
  have ih:=Zcf hM e ((f,Wo)::(x,Wo)::ar) (λy V q=>hv y V (ZcN [f,x] ar q));rw[sub,Zi,Zi (.rcc f x e)];simp[T.parts,Nat.add_mul]at ih ⊢
  lia
 |.call f a,ar,hv=>by
  have i1:=Zcf hM f ar hv;have i2:=Zcf hM a ar hv;rw[sub,Zi,Zi (.call f a)];simp[T.parts,Nat.add_mul]at i1 i2 ⊢
  lia
 |.op w f a,ar,hv=>by
  have i1:=Zcf hM f ar hv;have i2:=Zcf hM a ar hv;rw[sub,Zi,Zi (.op w f a)];simp[T.parts,Nat.add_mul]at i1 i2 ⊢
  lia
 |.iff c t e,ar,hv=>by
  have i1:=Zcf hM c ar hv;have i2:=Zcf hM t ar hv;have i3:=Zcf hM e ar hv;rw[sub,Zi,Zi (.iff c t e)];simp[T.parts,Nat.add_mul]at i1 i2 i3 ⊢
  lia
theorem Zpc:∀(f:Fil) {x:Str}{V:T},get f.ar x=Wn V->(x,V)∈f
 |[],x,V,e=>by cases e
 |(y,W)::r,x,V,e=>by
  rw[Fil.ar,Op,get]at e;split at e
  . rename_i q;cases e;rw[<- q];exact Oi
  . exact Oh _ (Zpc r e)
def Zpj{t:T}{f:Fil}(hs:∀p∈f,p.2.size<=300):(sub f.ar t).size<=t.size * 300:=Zcf (M:=300) (by lia) t f.ar λx V e=>hs (x,V) (Zpc f e)
def Red:T->Prop
 |.call f a=>isV f=Wp/\isV a=Wp
 |.op _ f a=>isV f=Wp/\isV a=Wp
 |.iff c _ _=>isV c=Wp
 |_=>False
def Kp(ar:Ar)(sc sc':List Str):Prop:=∀x∈sc,(∃V,get ar x=Wn V/\Gn.Cl [] V)\/(get ar x=Wo/\x∈sc')
def Kp.bind(k:Kp ar sc sc')(y:Str):Kp ((y,Wo)::ar) (y::sc) (y::sc'):=λx hx=>by
 unfold get;by_cases e:y=x
 . rw[if_pos e];exact .inr ⟨rfl,by rw[e];exact Oi⟩
 . rw[if_neg e];rcases O2.mp hx with z|z
   . exact absurd z.symm e
   . rcases k x z with q|q
     . exact .inl q
     . exact .inr ⟨q.1,Oh _ q.2⟩
def Kp.two(k:Kp ar sc sc')(f x:Str):Kp ((f,Wo)::(x,Wo)::ar) (x::f::sc) (x::f::sc'):=λz hz=>by
 have q:=(k.bind x).bind f z (by simp at hz ⊢;rcases hz with h|h|h<;>simp[h]);rcases q with q|q
 . exact .inl q
 . exact .inr ⟨q.1,by have:=q.2;simp at this ⊢;rcases this with h|h|h<;>simp[h]⟩
theorem ZbH:∀(t:T) {ar:Ar}{sc sc':List Str},Kp ar sc sc'->Gn.Cl sc t->Gn.Cl sc' (sub ar t)
 |.num _,_,_,_,_,c=>c
 |.name x,ar,sc,sc',k,c=>by
  rcases k x c with ⟨V,e,cv⟩|⟨e,m⟩
  . rw[sub,e];exact Gn.Cl.mono (λy hy=>by cases hy) cv
  . rw[sub,e];exact m
 |.fn x e,_,_,_,k,c=>⟨ZbH e (k.bind x) c.1,c.2⟩
 |.rcc f x e,_,_,_,k,c=>⟨ZbH e (k.two f x) c.1,c.2⟩
 |.call f a,_,_,_,k,c=>⟨ZbH f k c.1,ZbH a k c.2⟩
 |.iff f a b,_,_,_,k,c=>⟨ZbH f k c.1,ZbH a k c.2.1,ZbH b k c.2.2⟩
 |.op _ f a,_,_,_,k,c=>⟨ZbH f k c.1,ZbH a k c.2⟩
def zc(f a:T):(T.call f a).size=1+(f.size+a.size):=by rw[Zi];simp[T.parts]
def zi(f a b:T):(T.iff f a b).size=1+(f.size+(a.size+b.size)):=by rw[Zi];simp[T.parts]
def zf(x:Str)(e:T):(T.fn x e).size=1+e.size:=by rw[Zi];simp[T.parts]
def zr(f x:Str)(e:T):(T.rcc f x e).size=1+e.size:=by rw[Zi];simp[T.parts]
def Zpk{f:Fil}(hc:∀p∈f,Gn.Cl [] p.2)(sc:List Str)(hk:∀x∈sc,x∈f.map (·.1)):Kp f.ar sc []:=λx hx=>by
 have:∀(f:Fil),(∀p∈f,Gn.Cl [] p.2)->x∈f.map (·.1)->∃V,get f.ar x=Wn V/\Gn.Cl [] V:=by
  intro f;induction f with
  |nil=>intro _ z;cases z
  |cons p r ih=>
   intro hc z;rw[Fil.ar,Op,get];by_cases e:p.1=x
   . rw[if_pos e];exact⟨p.2,rfl,hc p Oi⟩
   . rw[if_neg e];rw[Op]at z;rcases O2.mp z with q|q
     . exact absurd q.symm e
     . exact ih (λp hp=>hc p (Oh _ hp)) q
 exact .inl (this f hc (hk x hx))
def ZiU(t u:T)(r:Red t)(c:Gn.Cl [] t)(hz:t.size<=300)(e:bec t=Wn u):Gn.Cl [] u/\u.size<=t.size * 300:=by
 cases t with
 |call F A=>
  have z:=zc F A;cases F with
  |fn x b=>cases e;have zb:=zf x b;have fo:=Zpj (t:=b) (f:=[(x,A)]) (by simp;lia);refine⟨ZbH b (Zpk (by simp;exact c.2) [x] (by simp)) c.1.1,OE fo (Nat.mul_le_mul_right _ (by rw[z,zb];lia))⟩
  |rcc f x b=>
   cases e;have zb:=zr f x b;have mem:∀p∈ZhR f (.rcc f x b) x A,p.2=.rcc f x b\/p.2=A:=by
    intro p hp;unfold ZhR at hp;split at hp
    . simp at hp;rw[hp];exact .inr rfl
    . simp at hp;rcases hp with rfl|rfl
      . exact .inl rfl
      . exact .inr rfl
   have fo:=Zpj (t:=b) (f:=ZhR f (.rcc f x b) x A) (λp hp=>by rcases mem p hp with q|q<;>rw[q]<;>lia);refine⟨ZbH b (Zpk (λp hp=>by rcases mem p hp with q|q<;>rw[q];exact c.1;exact c.2) [x,f] (by unfold ZhR;split<;>simp_all)) c.1.1,OE fo (Nat.mul_le_mul_right _ (by rw[z,zb];lia))⟩
  |_=>cases e
 |iff a b d=>
  have z:=zi a b d;cases a with
  |num m=>
   simp only[bec,Option.some.injEq]at e;subst e;split
   . exact⟨c.2.2,by lia⟩
   . exact⟨c.2.1,by lia⟩
  |_=>cases e
 |op w a b=>
  cases a with
  |num x=>
   cases b with
   |num y=>cases e;have:=_root_.Rw.wk_ok w x y;exact⟨this,by simp[T.size,T.places]⟩
   |_=>cases e
  |_=>cases e
 |_=>cases r
end
end Tm
namespace Grf
open PySem L2 IV
def Zbe:Sx:=(.set (.nm 1) (.call (O "places") (.c (.v 0) .n)))
def Zam:Sx:=(.set (.nm 2) (.lstl .n))
def Zal:Sx:=(.set (.nm 3) (.lstl .n))
def Zf7:Ix:=(.rev (.v 1))
def Zfk:Sx:=(.set (.nm 5) (.comp [(O "part"),(O "numbers")] [Wo,Wn 3] (.pl (.call (O "parts_of") (.c (.v 4) .n))) (.nm 0) Wo (.meth .pop (.v 1) .n)))
def Zfj:Sx:=(.drp (.meth .app (.v 2) (.c (.bin .Add (.call (O "front_of") (.c (.v 4) .n)) (.blt .tup (.c (.v 5) .n))) .n)))
def Zfi:Sx:=(.drp (.meth .app (.v 3) (.c (.bin .Sub (.blt .len (.c (.v 1) .n)) (.blt .len (.c (.v 2) .n))) .n)))
def Zf5:Sxs:=(.c Zfk (.c Zfj (.c Zfi .n)))
def Zak:Sx:=.forr (.nm 4) Zf7 Zf5
def Zaj:Sx:=(.drp (.meth .rev (.v 2) .n))
def Zc7:Sx:=(.ret (.tupl (.c (.v 2) (.c (.ci 0) .n))))
def Zhy:Sxs:=(.c Zbe (.c Zam (.c Zal (.c Zak (.c Zaj (.c Zc7 .n))))))
def Zei:Fd:=⟨[(O "E")],[(O "E"),(O "told"),(O "cells"),(O "numbers"),(O "place"),(O "parts")],Zhy⟩
def Zdk:Ix:=(.pl (.call (O "parts_first") (.c (.v 1) .n)))
def Zcv:Tx:=(.nt (.ex (.call (O "is_value") (.c (.ix (.v 0) (.v 2)) .n))))
def Zd1:Sx:=(.ret (.v 2))
def Zfw:Sxs:=(.c Zd1 .n)
def ZfK:Sx:=.iff Zcv Zfw .n
def Zaw:Sxs:=(.c ZfK .n)
def Zhn:Sx:=.forr (.nm 2) Zdk Zaw
def Zhm:Sx:=(.ret (.cst .non))
def ZcS:Sxs:=(.c Zhn (.c Zhm .n))
def Ze9:Fd:=⟨[(O "cells"),(O "cell")],[(O "cells"),(O "cell"),(O "number")],ZcS⟩
def Zhw:Sx:=(.set (.nm 2) (.v 1))
def Zhv:Sx:=(.set (.nm 3) (.call (O "first_open") (.c (.v 0) (.c (.ix (.v 0) (.v 1)) .n))))
def Zcn:Tx:=(.ex (.cmp .IsNot (.v 3) (.cst .non)))
def Zf9:Sx:=(.set (.nm 2) (.v 3))
def Zf8:Sx:=(.set (.nm 3) (.call (O "first_open") (.c (.v 0) (.c (.ix (.v 0) (.v 2)) .n))))
def Zec:Sxs:=(.c Zf9 (.c Zf8 .n))
def Zem:Sx:=.whl Zcn Zec
def Zhu:Sx:=(.ret (.v 2))
def ZfY:Sxs:=(.c Zhw (.c Zhv (.c Zem (.c Zhu .n))))
def ZfR:Fd:=⟨[(O "cells"),(O "root")],[(O "cells"),(O "root"),(O "found"),(O "inner")],ZfY⟩
def Zkk:Sx:=(.set (.nm 3) (.ix (.v 0) (.v 1)))
def Zkj:Sx:=(.set (.nm 4) (.call (O "bound_names") (.c (.v 3) .n)))
def Zki:Sx:=(.set (.nm 5) (.blt .tup (.c (.comp [(O "name"),(O "bound")] [Wo,Wn 4] (.pl (.v 2)) (.nm 0) (Wn (.ex (.cmp .NotIn (.v 0) (.v 1)))) (.v 0)) .n)))
def Zkh:Sx:=(.ret (.comp [(O "part"),(O "inner")] [Wo,Wn 5] (.pl (.call (O "parts_of") (.c (.v 3) .n))) (.nm 0) Wo (.tupl (.c (.v 0) (.c (.v 1) .n)))))
def Zia:Sxs:=(.c Zkk (.c Zkj (.c Zki (.c Zkh .n))))
def ZhU:Fd:=⟨[(O "cells"),(O "number"),(O "names")],[(O "cells"),(O "number"),(O "names"),(O "cell"),(O "bound"),(O "inner")],Zia⟩
def ZiZ:Sx:=(.ret (.ands (.c (.cmp .Eq (.ix (.v 0) (.ci 0)) (.Ci_ "name")) (.c (.cmp .In (.ix (.v 0) (.ci 1)) (.v 1)) .n))))
def ZcQ:Sxs:=(.c ZiZ .n)
def Zg0:Fd:=⟨[(O "cell"),(O "names")],[(O "cell"),(O "names")],ZcQ⟩
def ZcC:Sx:=(.set (.nm 3) .ndl)
def ZcB:Sx:=(.set (.nm 4) (.lstl (.c (.tupl (.c (.v 1) (.c (.v 2) .n))) .n)))
def ZC:Tx:=(.ex (.v 4))
def ZbR:Sx:=(.set (.nm 5) (.comp [(O "pair")] [Wo] (.pl (.call (O "beneath") (.c (.v 0) (.c (.ix (.ix (.v 4) (.neg (.ci 1))) (.ci 0)) (.c (.ix (.ix (.v 4) (.neg (.ci 1))) (.ci 1)) .n))))) (.nm 0) (Wn (.ex (.ix (.v 0) (.ci 1)))) (.v 0)))
def ZbQ:Sx:=(.set (.nm 6) (.comp [(O "pair"),(O "free")] [Wo,Wn 3] (.pl (.v 5)) (.nm 0) (Wn (.ex (.nin Wp (.v 0) (.v 1)))) (.v 0)))
def Zao:Tx:=(.ex (.v 6))
def ZaI:Sx:=(.drp (.meth .ext (.v 4) (.c (.v 6) .n)))
def ZaJ:Sx:=(.set (.nm 7) (.meth .pop (.v 4) .n))
def Zc9:Sx:=(.npt (.v 3) (.v 7) (.ors (.c (.call (O "is_meant") (.c (.ix (.v 0) (.ix (.v 7) (.ci 0))) (.c (.ix (.v 7) (.ci 1)) .n))) (.c (.blt .anb (.c (.comp [(O "part"),(O "free")] [Wo,Wn 3] (.pl (.v 5)) (.nm 0) Wo (.nix (.v 1) (.v 0))) .n)) .n))))
def Zet:Sxs:=(.c ZaI .n)
def Zew:Sxs:=(.c ZaJ (.c Zc9 .n))
def ZeB:Sx:=.iff Zao Zet Zew
def Z6:Sxs:=(.c ZbR (.c ZbQ (.c ZeB .n)))
def ZcA:Sx:=.whl ZC Z6
def ZfJ:Sx:=(.ret (.v 3))
def ZdM:Sxs:=(.c ZcC (.c ZcB (.c ZcA (.c ZfJ .n))))
def Zdr:Fd:=⟨[(O "cells"),(O "start"),(O "names")],[(O "cells"),(O "start"),(O "names"),(O "free"),(O "waiting"),(O "inner"),(O "unknown"),(O "pair")],ZdM⟩
def Zbt:Sx:=(.seta [(O "Copier")] (.v 0) (O "cells") (.v 1))
def Zbs:Sx:=(.seta [(O "Copier")] (.v 0) (O "meant") (.v 3))
def Zbr:Sx:=(.seta [(O "Copier")] (.v 0) (O "free") (.call (O "free_beneath") (.c (.v 1) (.c (.v 2) (.c (.blt .tdk (.c (.v 3) .n)) .n)))))
def Zbq:Sx:=(.seta [(O "Copier")] (.v 0) (O "known") .ndl)
def Zbp:Sx:=(.seta [(O "Copier")] (.v 0) (O "waiting") (.lstl .n))
def Zcd:Sxs:=(.c Zbt (.c Zbs (.c Zbr (.c Zbq (.c Zbp .n)))))
def Zay:Fd:=⟨[(O "self"),(O "cells"),(O "start"),(O "meant")],[(O "self"),(O "cells"),(O "start"),(O "meant")],Zcd⟩
def Zbn:Sx:=(.set (.nm 3) (.ix (.att [(O "Copier")] (.v 0) (O "cells")) (.v 1)))
def Zbl:Tx:=(.ands (.c (.ex (.call (O "is_value") (.c (.v 3) .n))) (.one (.nt (.ex (.nix (.att [(O "Copier")] (.v 0) (O "free")) (.tupl (.c (.v 1) (.c (.v 2) .n)))))))))
def ZcV:Sx:=(.ret (.v 1))
def Zbh:Sxs:=(.c ZcV .n)
def Zd5:Sx:=.iff Zbl Zbh .n
def Zbk:Tx:=(.ex (.call (O "is_meant") (.c (.v 3) (.c (.v 2) .n))))
def ZcU:Sx:=(.ret (.ix (.att [(O "Copier")] (.v 0) (O "meant")) (.ix (.v 3) (.ci 1))))
def Zbg:Sxs:=(.c ZcU .n)
def Zd4:Sx:=.iff Zbk Zbg .n
def Zbj:Tx:=(.ex (.nin Wp (.tupl (.c (.v 1) (.c (.v 2) .n))) (.att [(O "Copier")] (.v 0) (O "known"))))
def ZcT:Sx:=(.npt (.att [(O "Copier")] (.v 0) (O "known")) (.tupl (.c (.v 1) (.c (.v 2) .n))) (.blt .len (.c (.att [(O "Copier")] (.v 0) (O "cells")) .n)))
def ZaF:Sx:=(.drp (.meth .app (.att [(O "Copier")] (.v 0) (O "cells")) (.c (.v 3) .n)))
def ZaE:Sx:=(.drp (.meth .app (.att [(O "Copier")] (.v 0) (O "waiting")) (.c (.tupl (.c (.v 1) (.c (.v 2) .n))) .n)))
def Zbf:Sxs:=(.c ZcT (.c ZaF (.c ZaE .n)))
def Zd3:Sx:=.iff Zbj Zbf .n
def Zd2:Sx:=(.ret (.nix (.att [(O "Copier")] (.v 0) (O "known")) (.tupl (.c (.v 1) (.c (.v 2) .n)))))
def ZJ:Sxs:=(.c Zbn (.c Zd5 (.c Zd4 (.c Zd3 (.c Zd2 .n)))))
def ZbY:Fd:=⟨[(O "self"),(O "number"),(O "names")],[(O "self"),(O "number"),(O "names"),(O "cell")],ZJ⟩
def ZaM:Sx:=(.set (.nm 1) (.meth .pop (.att [(O "Copier")] (.v 0) (O "waiting")) .n))
def ZaL:Sx:=(.set (.nm 2) (.comp [(O "part"),(O "names"),(O "self")] [Wo,Wo,Wn 0] (.pl (.call (O "beneath") (.c (.att [(O "Copier")] (.v 0) (O "cells")) (.c (.ix (.v 1) (.ci 0)) (.c (.ix (.v 1) (.ci 1)) .n))))) (.two 0 1) Wo (.mcl (O "Copier") (O "stand_in") (.v 2) (.c (.v 0) (.c (.v 1) .n)))))
def ZaK:Sx:=(.put (.att [(O "Copier")] (.v 0) (O "cells")) (.nix (.att [(O "Copier")] (.v 0) (O "known")) (.v 1)) (.bin .Add (.call (O "front_of") (.c (.ix (.att [(O "Copier")] (.v 0) (O "cells")) (.ix (.v 1) (.ci 0))) .n)) (.blt .tup (.c (.v 2) .n))))
def Zbm:Sxs:=(.c ZaM (.c ZaL (.c ZaK .n)))
def Zbi:Fd:=⟨[(O "self")],[(O "self"),(O "pair"),(O "parts")],Zbm⟩
def Zfn:Sx:=(.set (.nm 2) (.mcl (O "Copier") (O "stand_in") (.v 0) (.c (.v 1) (.c (.blt .tdk (.c (.att [(O "Copier")] (.v 0) (O "meant")) .n)) .n))))
def Z2:Tx:=(.ex (.att [(O "Copier")] (.v 0) (O "waiting")))
def Zbo:Sx:=(.drp (.mcl (O "Copier") (O "write_next") (.v 0) .n))
def ZbW:Sxs:=(.c Zbo .n)
def Zcc:Sx:=.whl Z2 ZbW
def Zfm:Sx:=(.ret (.v 2))
def Zc8:Sxs:=(.c Zfn (.c Zcc (.c Zfm .n)))
def Zc1:Fd:=⟨[(O "self"),(O "start")],[(O "self"),(O "start"),(O "number")],Zc8⟩
def Zho:Sx:=(.set (.nm 3) (.ix (.v 0) (.v 1)))
def Zlh:Tx:=(.ex (.cmp .Eq (.ix (.v 3) (.ci 0)) (.Ci_ "num")))
def ZhB:Sx:=(.ret (.cst .non))
def Zk0:Sxs:=(.c ZhB .n)
def ZeF:Sx:=.iff Zlh Zk0 .n
def Zlg:Tx:=(.ex (.cmp .Eq (.ix (.v 3) (.ci 0)) (.Ci_ "fn")))
def Zhz:Sx:=(.set (.nm 4) (.dictl (.c (.ix (.v 3) (.ci 1)) (.c (.v 2) .n))))
def ZhA:Sx:=(.set (.nm 4) (.dictl (.c (.ix (.v 3) (.ci 1)) (.c (.v 1) (.c (.ix (.v 3) (.ci 2)) (.c (.v 2) .n))))))
def ZkZ:Sxs:=(.c Zhz .n)
def Zld:Sxs:=(.c ZhA .n)
def ZeE:Sx:=.iff Zlg ZkZ Zld
def ZeD:Sx:=(.set (.nm 5) (.ix (.call (O "parts_of") (.c (.v 3) .n)) (.ci 0)))
def ZeC:Sx:=(.ret (.ix (.v 0) (.mcl (O "Copier") (O "copied") (.mk (O "Copier") (.c (.v 0) (.c (.v 5) (.c (.v 4) .n)))) (.c (.v 5) .n))))
def Zfl:Sxs:=(.c Zho (.c ZeF (.c ZeE (.c ZeD (.c ZeC .n)))))
def ZjV:Fd:=⟨[(O "cells"),(O "F"),(O "A")],[(O "cells"),(O "F"),(O "A"),(O "function"),(O "meant"),(O "start")],Zfl⟩
def Zf2:Sx:=(.set (.nm 2) (.call (O "chosen") (.c (.ix (.v 0) (.ix (.v 1) (.ci 1))) (.c (.ix (.v 1) (.ci 2)) (.c (.ix (.v 1) (.ci 3)) .n)))))
def Zka:Tx:=(.ex (.cmp .Is (.v 2) (.cst .non)))
def Zhl:Sx:=(.ret (.cst .non))
def ZjF:Sxs:=(.c Zhl .n)
def Zkf:Sx:=.iff Zka ZjF .n
def Zke:Sx:=(.ret (.ix (.v 0) (.v 2)))
def ZfI:Sxs:=(.c Zf2 (.c Zkf (.c Zke .n)))
def ZhT:Fd:=⟨[(O "cells"),(O "cell")],[(O "cells"),(O "cell"),(O "number")],ZfI⟩
def Zj9:Tx:=(.ex (.cmp .Eq (.ix (.v 1) (.ci 0)) (.Ci_ "call")))
def Zhf:Sx:=(.ret (.call (O "called") (.c (.v 0) (.c (.ix (.v 1) (.ci 1)) (.c (.ix (.v 1) (.ci 2)) .n)))))
def ZjD:Sxs:=(.c Zhf .n)
def Zdw:Sx:=.iff Zj9 ZjD .n
def Zj8:Tx:=(.ex (.cmp .Eq (.ix (.v 1) (.ci 0)) (.Ci_ "if")))
def Zhe:Sx:=(.ret (.call (O "gone_on") (.c (.v 0) (.c (.v 1) .n))))
def ZjC:Sxs:=(.c Zhe .n)
def ZfX:Sx:=.iff Zj8 ZjC .n
def Zkc:Sx:=(.ret (.call (O "worked") (.c (.ix (.v 1) (.ci 0)) (.c (.ix (.v 0) (.ix (.v 1) (.ci 1))) (.c (.ix (.v 0) (.ix (.v 1) (.ci 2))) .n)))))
def Zap:Sxs:=(.c Zdw (.c ZfX (.c Zkc .n)))
def ZhS:Fd:=⟨[(O "cells"),(O "cell")],[(O "cells"),(O "cell")],Zap⟩
def Zdu:Tx:=(.ex (.call (O "is_value") (.c (.ix (.ix (.v 0) (.ci 0)) (.ix (.v 0) (.ci 1))) .n)))
def Zfh:Sx:=(.ret (.tupl (.c (.Ci_ "value") .n)))
def ZgI:Sxs:=(.c Zfh .n)
def ZdJ:Sx:=.iff Zdu ZgI .n
def ZdI:Sx:=(.set (.nm 1) (.blt .lst (.c (.ix (.v 0) (.ci 0)) .n)))
def ZdH:Sx:=(.set (.nm 2) (.call (O "next_cell") (.c (.v 1) (.c (.ix (.v 0) (.ci 1)) .n))))
def ZdG:Sx:=(.set (.nm 3) (.call (O "written") (.c (.v 1) (.c (.ix (.v 1) (.v 2)) .n))))
def Zhd:Tx:=(.ex (.cmp .Is (.v 3) (.cst .non)))
def Zfg:Sx:=(.ret (.tupl (.c (.Ci_ "stuck") .n)))
def ZgH:Sxs:=(.c Zfg .n)
def ZdF:Sx:=.iff Zhd ZgH .n
def ZdE:Sx:=(.put (.v 1) (.v 2) (.v 3))
def Zhj:Sx:=(.ret (.tupl (.c (.Ci_ "loud") (.c (.tupl (.c (.v 1) (.c (.ix (.v 0) (.ci 1)) .n))) .n))))
def Zbx:Sxs:=(.c ZdJ (.c ZdI (.c ZdH (.c ZdG (.c ZdF (.c ZdE (.c Zhj .n)))))))
def Ze7:Fd:=⟨[(O "state")],[(O "state"),(O "cells"),(O "number"),(O "cell")],Zbx⟩
def ZdL:Sx:=(.set (.nm 1) (.mk (O "Pen") (.c (.glo (O "WIDEST")) .n)))
def ZbO:Sx:=(.set (.nm 2) (.lstl .n))
def ZdK:Sx:=(.set (.nm 3) (.lstl (.c (.ix (.v 0) (.ci 1)) .n)))
def ZaB:Tx:=(.ex (.v 3))
def Zcz:Sx:=(.set (.nm 4) (.ix (.ix (.v 0) (.ci 0)) (.meth .pop (.v 3) .n)))
def Zcy:Sx:=(.drp (.mcl (O "Pen") (O "take_place") (.v 1) .n))
def Zcx:Sx:=(.drp (.meth .app (.v 2) (.c (.call (O "front_of") (.c (.v 4) .n)) .n)))
def Zcw:Sx:=(.drp (.meth .ext (.v 3) (.c (.lrv (.call (O "parts_of") (.c (.v 4) .n))) .n)))
def Z4:Sxs:=(.c Zcz (.c Zcy (.c Zcx (.c Zcw .n))))
def ZbN:Sx:=.whl ZaB Z4
def Zhk:Sx:=(.ret (.call (O "built") (.c (.v 2) .n)))
def ZcR:Sxs:=(.c ZdL (.c ZbO (.c ZdK (.c ZbN (.c Zhk .n)))))
def Ze8:Fd:=⟨[(O "state")],[(O "state"),(O "pen"),(O "fronts"),(O "waiting"),(O "cell")],ZcR⟩
def Zb3:Tx:=(.ors (.c (.nt (.ex (.blt .isi (.c (.v 1) (.c (.cst (.ty "tuple")) .n))))) (.c (.ex (.cmp .NotEq (.blt .len (.c (.v 1) .n)) (.ci 2))) (.one (.nt (.ex (.blt .isi (.c (.ix (.v 1) (.ci 1)) (.c (.cst (.ty "tuple")) .n)))))))))
def Zdz:Sx:=(.ret (.cst (.bl Wq)))
def ZeV:Sxs:=(.c Zdz .n)
def Zb8:Sx:=.iff Zb3 ZeV .n
def Zb7:Sx:=(.set (.two 2 3) (.ix (.v 1) (.ci 1)))
def Zff:Tx:=(.ors (.c (.ex (.cmp .NotEq (.v 3) (.ix (.v 0) (.ci 1)))) (.c (.nt (.ex (.blt .isi (.c (.v 2) (.c (.cst (.ty "list")) .n))))) (.one (.nt (.ex (.cmp2 .LtE .LtE (.blt .len (.c (.ix (.v 0) (.ci 0)) .n)) (.blt .len (.c (.v 2) .n)) (.bin .Add (.blt .len (.c (.ix (.v 0) (.ci 0)) .n)) (.ci 120)))))))))
def Zdy:Sx:=(.ret (.cst (.bl Wq)))
def ZeU:Sxs:=(.c Zdy .n)
def Zb6:Sx:=.iff Zff ZeU .n
def Zb5:Sx:=(.set (.nm 4) (.comp [(O "_law_cell"),(O "_law_fresh")] [Wo,Wo] (.zl (.ix (.v 0) (.ci 0)) (.v 2)) (.two 0 1) (Wn (.ex (.cmp .NotEq (.v 0) (.v 1)))) (.v 0)))
def Zb4:Sx:=(.ret (.ands (.c (.cmp .Lt (.blt .len (.c (.v 4) .n)) (.ci 2)) (.c (.blt .all (.c (.comp [(O "_law_cell")] [Wo] (.pl (.v 4)) (.nm 0) Wo (.cmp .NotIn (.ix (.v 0) (.ci 0)) (.tupl (.c (.Ci_ "num") (.c (.Ci_ "fn") (.c (.Ci_ "rec") .n)))))) .n)) .n))))
def Zc2:Sxs:=(.c Zb8 (.c Zb7 (.c Zb6 (.c Zb5 (.c Zb4 .n)))))
def Zc0:Fd:=⟨[(O "_law_old"),(O "_law_answer")],[(O "_law_old"),(O "_law_answer"),(O "_law_cells"),(O "_law_root"),(O "_law_anew")],Zc2⟩
def Zbd:Sx:=(.trr (O "graph_read") (.c (.v 0) .n) (O "Wide") Wp)
def Zga:Sx:=(.ret (.cst (.bl Wq)))
def Zco:Sxs:=(.c Zbd (.c Zga .n))
def Zeh:Fd:=⟨[(O "_law_state")],[(O "_law_state")],Zco⟩
def ZmD:Sx:=(.set (.nm 1) (.call (O "graph_begun") (.c (.call (O "_law_program") (.c (.v 0) (.c (.ci 1) .n))) .n)))
def ZiA:Ix:=(.rng (.bin .Mod (.call (O "_law_mixed") (.c (.call (O "_law_cell_at") (.c (.v 0) (.c (.ci 0) .n))) (.c (.ci 1) .n))) (.ci 41)))
def Zh9:Sx:=(.set (.nm 3) (.tupl (.c (.blt .lst (.c (.ix (.v 1) (.ci 0)) .n)) (.c (.ix (.v 1) (.ci 1)) .n))))
def ZfH:Sx:=(.set (.nm 4) (.call (O "graph_step") (.c (.v 1) .n)))
def Znx:Tx:=(.ex (.cmp .NotEq (.v 1) (.v 3)))
def ZiY:Sx:=(.ret (.cst (.bl Wq)))
def Zni:Sxs:=(.c ZiY .n)
def Zh8:Sx:=.iff Znx Zni .n
def ZhY:Tx:=(.ors (.c (.ex (.cmp .Eq (.v 4) (.tupl (.c (.Ci_ "value") .n)))) (.one (.ex (.cmp .Eq (.v 4) (.tupl (.c (.Ci_ "stuck") .n)))))))
def ZiX:Sx:=(.ret (.cst (.bl Wp)))
def Znh:Sxs:=(.c ZiX .n)
def Zh7:Sx:=.iff ZhY Znh .n
def ZhX:Tx:=(.ors (.c (.ex (.cmp .NotEq (.ix (.v 4) (.ci 0)) (.Ci_ "loud"))) (.one (.nt (.ex (.call (O "_law_step_good") (.c (.v 3) (.c (.v 4) .n))))))))
def ZiW:Sx:=(.ret (.cst (.bl Wq)))
def Zng:Sxs:=(.c ZiW .n)
def Zh6:Sx:=.iff ZhX Zng .n
def Zh5:Sx:=(.set (.nm 1) (.ix (.v 4) (.ci 1)))
def ZfG:Tx:=(.ex (.call (O "_law_is_wide") (.c (.v 1) .n)))
def ZiV:Sx:=(.ret (.cst (.bl Wp)))
def Znf:Sxs:=(.c ZiV .n)
def Zh4:Sx:=.iff ZfG Znf .n
def Zix:Sxs:=(.c Zh9 (.c ZfH (.c Zh8 (.c Zh7 (.c Zh6 (.c Zh5 (.c Zh4 .n)))))))
def ZmC:Sx:=.forr (.nm 2) ZiA Zix
def ZrT:Sx:=(.ret (.cst (.bl Wp)))
def Zsz:Sxs:=(.c ZmD (.c ZmC (.c ZrT .n)))
def ZjU:Fd:=⟨[(O "_law_script")],[(O "_law_script"),(O "_law_state"),(O "_law_k"),(O "_law_kept"),(O "_law_answer")],Zsz⟩
structure Lw(P:Pg):Prop where
 b:Tm.Trb P
 w:Tm.Wid P
 m:Gn.Mkr P
 pl:P.tb.lookup (O "places")=Wn Gn.Ze5
 gv:P.G (O "VALUES")=Wn (.tup [.str (O "num"),.str (O "fn"),.str (O "rec")])
 gw:P.G (O "WIDEST")=Wn (.int 120)
 gb:P.G (O "BEYOND")=Wn (.int 1000000)
 cell:P.tb.lookup (O "_law_cell_at")=Wn Gn.ZaZ
 is_value:P.tb.lookup (O "is_value")=Wn Tm.ZgZ
 parts_first:P.tb.lookup (O "parts_first")=Wn Tm.Zef
 chosen:P.tb.lookup (O "chosen")=Wn Tm.Zg2
 worked:P.tb.lookup (O "worked")=Wn Tm.Ze4
 graph_begun:P.tb.lookup (O "graph_begun")=Wn Zei
 first_open:P.tb.lookup (O "first_open")=Wn Ze9
 next_cell:P.tb.lookup (O "next_cell")=Wn ZfR
 beneath:P.tb.lookup (O "beneath")=Wn ZhU
 is_meant:P.tb.lookup (O "is_meant")=Wn Zg0
 free_beneath:P.tb.lookup (O "free_beneath")=Wn Zdr
 n_Copier___init__:P.tb.lookup (mnm (O "Copier") (O "__init__"))=Wo
 Copier___init__:P.ms.lookup (mnm (O "Copier") (O "__init__"))=Wn Zay
 n_Copier_stand_in:P.tb.lookup (mnm (O "Copier") (O "stand_in"))=Wo
 Copier_stand_in:P.ms.lookup (mnm (O "Copier") (O "stand_in"))=Wn ZbY
 n_Copier_write_next:P.tb.lookup (mnm (O "Copier") (O "write_next"))=Wo
 Copier_write_next:P.ms.lookup (mnm (O "Copier") (O "write_next"))=Wn Zbi
 n_Copier_copied:P.tb.lookup (mnm (O "Copier") (O "copied"))=Wo
 Copier_copied:P.ms.lookup (mnm (O "Copier") (O "copied"))=Wn Zc1
 called:P.tb.lookup (O "called")=Wn ZjV
 gone_on:P.tb.lookup (O "gone_on")=Wn ZhT
 written:P.tb.lookup (O "written")=Wn ZhS
 graph_step:P.tb.lookup (O "graph_step")=Wn Ze7
 graph_read:P.tb.lookup (O "graph_read")=Wn Ze8
 law_step_good:P.tb.lookup (O "_law_step_good")=Wn Zc0
 law_is_wide:P.tb.lookup (O "_law_is_wide")=Wn Zeh
 law:P.tb.lookup (O "law")=Wn ZjU
end Grf
namespace Grf
open PySem L2 IV Tm
inductive Gc where
 |num (n:Int)|name (x:Str)|fn (x:Str) (e:Nat)|rcc (f x:Str) (e:Nat)|call (f a:Nat)|iff (c t e:Nat)|op (w:Wd) (a b:Nat)
noncomputable def Gc.fr:Gc->List D
 |.num n=>[.str (O "num"),.int n]
 |.name x=>[.str (O "name"),.str x]
 |.fn x _=>[.str (O "fn"),.str x]
 |.rcc f x _=>[.str (O "rec"),.str f,.str x]
 |.call _ _=>[.str (O "call")]
 |.iff _ _ _=>[.str (O "if")]
 |.op w _ _=>[.str w.s]
noncomputable def Gc.ps:Gc->List Nat
 |.num _|.name _=>[]
 |.fn _ e|.rcc _ _ e=>[e]
 |.call f a=>[f,a]
 |.iff c t e=>[c,t,e]
 |.op _ a b=>[a,b]
noncomputable def Gc.bd:Gc->List Str
 |.fn x _=>[x]
 |.rcc f x _=>[f,x]
 |_=>[]
noncomputable def Gc.isV:Gc->Bool
 |.num _|.fn _ _|.rcc _ _ _=>Wp
 |_=>Wq
noncomputable def nI(n:Nat):D:=.int (n:Int)
def Gc.d(c:Gc):D:=.tup (c.fr++c.ps.map nI)
noncomputable def Gc.wp:Gc->List Nat->Gc
 |.fn x _,[e]=>.fn x e
 |.rcc f x _,[e]=>.rcc f x e
 |.call _ _,[a,b]=>.call a b
 |.iff _ _ _,[a,b,c]=>.iff a b c
 |.op w _ _,[a,b]=>.op w a b
 |c,_=>c
def Zr1{c:Gc}{ms:List Nat}(h:ms.length=c.ps.length):(c.wp ms).fr=c.fr/\(c.wp ms).ps=ms:=by
 have one:∀{l:List Nat},l.length=1->∃a,l=[a]:=λh=>List.length_eq_one_iff.mp h;have two:∀{l:List Nat},l.length=2->∃a b,l=[a,b]:=λ{l} h=>match l,h with|[a,b],_=>⟨a,b,rfl⟩
 have three:∀{l:List Nat},l.length=3->∃a b c,l=[a,b,c]:=λ{l} h=>match l,h with|[a,b,c],_=>⟨a,b,c,rfl⟩
 cases c with
 |num n=>cases List.length_eq_zero_iff.mp h;exact⟨rfl,rfl⟩
 |name n=>cases List.length_eq_zero_iff.mp h;exact⟨rfl,rfl⟩
 |fn x e=>obtain⟨a,rfl⟩:=one h;exact⟨rfl,rfl⟩
 |rcc f x e=>obtain⟨a,rfl⟩:=one h;exact⟨rfl,rfl⟩
 |call f a=>obtain⟨a,b,rfl⟩:=two h;exact⟨rfl,rfl⟩
 |iff c a b=>obtain⟨a,b,c,rfl⟩:=three h;exact⟨rfl,rfl⟩
 |op w a b=>obtain⟨a,b,rfl⟩:=two h;exact⟨rfl,rfl⟩
def Fit:Gc->T->Prop
 |.num n,.num m=>n=m
 |.name x,.name y=>x=y
 |.fn x _,.fn y _=>x=y
 |.rcc f x _,.rcc g y _=>f=g/\x=y
 |.call _ _,.call _ _=>True
 |.iff _ _ _,.iff _ _ _=>True
 |.op w _ _,.op v _ _=>w=v
 |_,_=>False
inductive Rd(g:Nat->Option Gc):Nat->T->Prop
 |num:g i=Wn (.num n)->Rd g i (.num n)
 |name:g i=Wn (.name x)->Rd g i (.name x)
 |fn:g i=Wn (.fn x e)->Rd g e t->Rd g i (.fn x t)
 |rcc:g i=Wn (.rcc f x e)->Rd g e t->Rd g i (.rcc f x t)
 |call:g i=Wn (.call a b)->Rd g a s->Rd g b t->Rd g i (.call s t)
 |iff:g i=Wn (.iff a b c)->Rd g a s->Rd g b t->Rd g c u->Rd g i (.iff s t u)
 |op:g i=Wn (.op w a b)->Rd g a s->Rd g b t->Rd g i (.op w s t)
def Rd.inv(h:Rd g i t):∃c,g i=Wn c/\Fit c t/\Paired (Rd g) c.ps t.parts:=by
 cases h with
 |num e=>exact⟨_,e,rfl,.nil⟩
 |name e=>exact⟨_,e,rfl,.nil⟩
 |fn e a=>exact⟨_,e,rfl,.cons a .nil⟩
 |rcc e a=>exact⟨_,e,⟨rfl,rfl⟩,.cons a .nil⟩
 |call e a b=>exact⟨_,e,trivial,.cons a (.cons b .nil)⟩
 |iff e a b c=>exact⟨_,e,trivial,.cons a (.cons b (.cons c .nil))⟩
 |op e a b=>exact⟨_,e,rfl,.cons a (.cons b .nil)⟩
def Rd.mk{c:Gc}{t:T}(e:g i=Wn c)(f:Fit c t)(p:Paired (Rd g) c.ps t.parts):Rd g i t:=by
 cases c<;>cases t<;>simp only[Fit]at f
 . subst f;exact .num e
 . subst f;exact .name e
 . subst f;cases p with|cons a q=>exact .fn e a
 . obtain⟨rfl,rfl⟩:=f;cases p with|cons a q=>exact .rcc e a
 . cases p with|cons a q=>cases q with|cons b q=>exact .call e a b
 . cases p with|cons a q=>cases q with|cons b q=>cases q with|cons c q=>exact .iff e a b c
 . subst f;cases p with|cons a q=>cases q with|cons b q=>exact .op e a b
def Rd.ind{P:Nat->T->Prop}(k:∀i t c,g i=Wn c->Fit c t->Paired (λn s=>Rd g n s/\P n s) c.ps t.parts->P i t):∀{i t},Rd g i t->P i t:=by
 intro i t h;induction h with
 |num e=>exact k _ _ _ e rfl .nil
 |name e=>exact k _ _ _ e rfl .nil
 |fn e a ia=>exact k _ _ _ e rfl (.cons ⟨a,ia⟩ .nil)
 |rcc e a ia=>exact k _ _ _ e ⟨rfl,rfl⟩ (.cons ⟨a,ia⟩ .nil)
 |call e a b ia ib=>exact k _ _ _ e trivial (.cons ⟨a,ia⟩ (.cons ⟨b,ib⟩ .nil))
 |iff e a b c ia ib ic=>exact k _ _ _ e trivial (.cons ⟨a,ia⟩ (.cons ⟨b,ib⟩ (.cons ⟨c,ic⟩ .nil)))
 |op e a b ia ib=>exact k _ _ _ e rfl (.cons ⟨a,ia⟩ (.cons ⟨b,ib⟩ .nil))
def Zdm{c:Gc}{t:T}(f:Fit c t):c.fr=Tm.fr t/\c.bd=bnd t/\c.isV=Tm.isV t/\c.ps.length=t.parts.length:=by
 cases c<;>cases t<;>simp only[Fit]at f
 . subst f;exact⟨rfl,rfl,rfl,rfl⟩
 . subst f;exact⟨rfl,rfl,rfl,rfl⟩
 . subst f;exact⟨rfl,rfl,rfl,rfl⟩
 . obtain⟨rfl,rfl⟩:=f;exact⟨rfl,rfl,rfl,rfl⟩
 . exact⟨rfl,rfl,rfl,rfl⟩
 . exact⟨rfl,rfl,rfl,rfl⟩
 . subst f;exact⟨rfl,rfl,rfl,rfl⟩
def Zuo{c:Gc}{t u:T}(f:Fit c t)(f':Fit c u)(e:t.parts=u.parts):t=u:=by
 cases c<;>cases t<;>simp only[Fit]at f<;>cases u<;>simp only[Fit]at f'<;>simp only[T.parts,List.cons.injEq,and_true]at e
 . rw[<- f,<- f']
 . rw[<- f,<- f']
 . rw[<- f,<- f',e]
 . rw[<- f.1,<- f.2,<- f'.1,<- f'.2,e]
 . rw[e.1,e.2]
 . rw[e.1,e.2.1,e.2.2]
 . rw[<- f,<- f',e.1,e.2]
def Rd.one(h:Rd g i t):∀{u},Rd g i u->t=u:=by
 refine Rd.ind (P:=λi t=>∀{u},Rd g i u->t=u) (λi t c e f p u h'=>?_) h;obtain⟨c',e',f',p'⟩:=h'.inv;rw[e]at e';cases e';refine Zuo f f' ?_;have:∀{ns:List Nat}{ts us:List T},Paired (λn s=>Rd g n s/\∀{u},Rd g n u->s=u) ns ts->Paired (Rd g) ns us->ts=us:=by
  intro ns ts us q q';induction q generalizing us with
  |nil=>cases q';rfl
  |cons a q ih=>cases q' with|cons b q'=>rw[a.2 b,ih q']
 exact this p p'
def Rd.mono(h:Rd g i t){g':Nat->Option Gc}(m:∀i c,g i=Wn c->g' i=Wn c):Rd g' i t:=Rd.ind (P:=λi t=>Rd g' i t) (λi t c e f p=>Rd.mk (m i c e) f (Paired.mapP p λ_ _ z=>z.2)) h
noncomputable def wo(g:Nat->Option Gc)(x:Nat):Nat->Option Gc:=λi=>if i=x then Wo else g i
def Zr2(h:i≠x):wo g x i=g i:=if_neg h
def ZcX:∀i c,wo g x i=Wn c->g i=Wn c:=λi c e=>by
 unfold wo at e;split at e
 . cases e
 . exact e
def Zig{t s:T}(h:s∈t.parts):s.size<t.size:=by
 rw[Zi t];have:∀l:List T,s∈l->s.size<=(l.map T.size).sum:=by
  intro l;induction l with
  |nil=>intro h;cases h
  |cons a r ih=>
   intro h;rw[Op,OI];rcases O2.mp h with rfl|h
   . lia
   . have:=ih h;lia
 have:=this _ h
 lia
theorem Paired.imp_mem{F G:α->β->Prop}:∀{l₁:List α}{l₂:List β},Paired F l₁ l₂->(∀a b,a∈l₁->b∈l₂->F a b->G a b)->Paired G l₁ l₂
 |_,_,.nil,_=>.nil
 |_,_,.cons r t,f=>.cons (f _ _ (.head _) (.head _) r) (Paired.imp_mem t λa b ha hb=>f a b (.tail _ ha) (.tail _ hb))
theorem Rd.wo{tz:T}(hx:Rd g x tz)(h:Rd g i t)(hs:t.size<tz.size):Rd (Grf.wo g x) i t:=by
 refine Rd.ind (P:=λi t=>t.size<tz.size->Rd (Grf.wo g x) i t) (λi t c e f p hs=>?_) h hs;have ne:i≠x:=λz=>by subst z;have:=(Rd.mk e f (Paired.mapP p λ_ _ z=>z.1)).one hx;rw[this]at hs;exact absurd hs (Yv _)
 exact Rd.mk (by rw[Zr2 ne];exact e) f (Paired.imp_mem p λn s _ hm z=>z.2 (Nat.lt_trans (Zig hm) hs))
noncomputable def gl(G:List Gc):Nat->Option Gc:=λi=>G[i]?
noncomputable def rs(ns:List Str)(b:List Str):List Str:=ns.filter λx=>!Wt (x∈b)
def fin:List Str->T->Bool
 |_,.num _=>Wq
 |ns,.name x=>Wt (x∈ns)
 |ns,.fn x e=>fin (rs ns [x]) e
 |ns,.rcc f x e=>fin (rs ns [f,x]) e
 |ns,.call a b=>fin ns a || fin ns b
 |ns,.iff a b c=>fin ns a || (fin ns b || fin ns c)
 |ns,.op _ a b=>fin ns a || fin ns b
def Zn0(ns:List Str):rs ns []=ns:=by simp[rs]
noncomputable def mnt(ns:List Str):T->Bool
 |.name x=>Wt (x∈ns)
 |_=>Wq
def Zph(ns:List Str)(t:T):fin ns t=(mnt ns t || t.parts.any (fin (rs ns (bnd t)))):=by cases t<;>simp[fin,mnt,T.parts,bnd,Zn0]
theorem Z5:∀t:T,fin [] t=Wq
 |.num _=>rfl
 |.name _=>by simp[fin]
 |.fn x e=>by simp[fin,rs,Z5 e]
 |.rcc f x e=>by simp[fin,rs,Z5 e]
 |.call a b=>by simp[fin,Z5 a,Z5 b]
 |.iff a b c=>by simp[fin,Z5 a,Z5 b,Z5 c]
 |.op _ a b=>by simp[fin,Z5 a,Z5 b]
noncomputable def arN(M:List (Str×T))(ns:List Str):Ar:=(M.filter λp=>Wt (p.1∈ns)).map λp=>(p.1,Wn p.2)
def ZeZ(M:List (Str×T))(ns:List Str)(x:Str):get (arN M ns) x=if x∈ns then get (M.map λp=>(p.1,Wn p.2)) x else Wo:=by
 induction M with
 |nil=>simp[arN,Tm.get]
 |cons p M ih=>
  unfold arN at ih ⊢;rw[List.filter_cons];by_cases hp:p.1∈ns
  . rw[if_pos (by simpa using hp),Op,Op];simp only[Tm.get];by_cases e:p.1=x
    . rw[if_pos e,if_pos e,if_pos (e ▸ hp)]
    . rw[if_neg e,if_neg e];exact ih
  . rw[if_neg (by simpa using hp),ih,Op];simp only[Tm.get];by_cases e:p.1=x
    . rw[if_neg (e ▸ hp),if_neg (e ▸ hp)]
    . rw[if_neg e]
theorem ZU:∀(t:T) {a b:Ar},(∀x,get a x=get b x)->sub a t=sub b t
 |.num _,_,_,_=>rfl
 |.name x,a,b,h=>by simp[sub,h x]
 |.fn x e,a,b,h=>by simp only[sub];rw[ZU e (b:=(x,Wo)::b) λy=>by simp only[Tm.get];rw[h y]]
 |.rcc f x e,a,b,h=>by simp only[sub];rw[ZU e (b:=(f,Wo)::(x,Wo)::b) λy=>by simp only[Tm.get];rw[h y]]
 |.call s t,a,b,h=>by simp only[sub];rw[ZU s h,ZU t h]
 |.iff s t u,a,b,h=>by simp only[sub];rw[ZU s h,ZU t h,ZU u h]
 |.op w s t,a,b,h=>by simp only[sub];rw[ZU s h,ZU t h]
def Zih(M:List (Str×T))(ns:List Str)(t s:T):sub (inn t (arN M ns)) s=sub (arN M (rs ns (bnd t))) s:=by
 refine ZU s λx=>?_;have e:∀(bs:List Str) (a:Ar),get (bs.map (λy=>(y,Wo))++a) x=if x∈bs then Wo else get a x:=by
  intro bs a;induction bs with
  |nil=>simp
  |cons y bs ih=>
   rw[Op,List.cons_append];simp only[Tm.get];by_cases h:y=x
   . simp[h]
   . rw[if_neg h,ih];have h':¬ x=y:=λz=>h z.symm;simp[h']
 rw[show inn t (arN M ns)=(bnd t).map (λy=>(y,Wo))++arN M ns from rfl,e,ZeZ,ZeZ];by_cases h:x∈bnd t
 . simp[h,rs]
 . simp[h,rs]
theorem Zcg(M:List (Str×T)):∀(t:T) (ns:List Str),fin ns t=Wq->sub (arN M ns) t=t
 |.num _,_,_=>rfl
 |.name x,ns,h=>by
  have hx:x ∉ ns:=by simpa[fin]using h
  simp only[sub];rw[ZeZ,if_neg hx];rfl
 |.fn x e,ns,h=>by show T.fn x (sub (inn (.fn x e) (arN M ns)) e)=_;rw[Zih];exact congrArg (T.fn x) (Zcg M e (rs ns [x]) h)
 |.rcc f x e,ns,h=>by show T.rcc f x (sub (inn (.rcc f x e) (arN M ns)) e)=_;rw[Zih];exact congrArg (T.rcc f x) (Zcg M e (rs ns [f,x]) h)
 |.call a b,ns,h=>by have h:=Bool.or_eq_false_iff.mp h;simp only[sub];rw[Zcg M a ns h.1,Zcg M b ns h.2]
 |.iff a b c,ns,h=>by have h:=Bool.or_eq_false_iff.mp h;have h2:=Bool.or_eq_false_iff.mp h.2;simp only[sub];rw[Zcg M a ns h.1,Zcg M b ns h2.1,Zcg M c ns h2.2]
 |.op w a b,ns,h=>by have h:=Bool.or_eq_false_iff.mp h;simp only[sub];rw[Zcg M a ns h.1,Zcg M b ns h.2]
def Zrw{c:Gc}{t:T}{ar:Ar}{ms:List Nat}(f:Fit c t)(m:ZtR ar t=Wo)(h:ms.length=c.ps.length):Fit (c.wp ms) (sub ar t):=by
 have one:∀{l:List Nat},l.length=1->∃a,l=[a]:=λh=>List.length_eq_one_iff.mp h;have two:∀{l:List Nat},l.length=2->∃a b,l=[a,b]:=λ{l} h=>match l,h with|[a,b],_=>⟨a,b,rfl⟩
 have three:∀{l:List Nat},l.length=3->∃a b c,l=[a,b,c]:=λ{l} h=>match l,h with|[a,b,c],_=>⟨a,b,c,rfl⟩
 cases c<;>cases t<;>simp only[Fit]at f
 . cases List.length_eq_zero_iff.mp h;exact f
 . cases List.length_eq_zero_iff.mp h;simp only[sub];rw[show get ar _=Wo from m];exact f
 . obtain⟨a,rfl⟩:=one h;exact f
 . obtain⟨a,rfl⟩:=one h;exact f
 . obtain⟨a,b,rfl⟩:=two h;exact f
 . obtain⟨a,b,c,rfl⟩:=three h;exact f
 . obtain⟨a,b,rfl⟩:=two h;exact f
section
variable {P:Pg}{h:Hd}
def ZwN(c:Gc):∃w ds,c.d=.tup (.str w::ds)/\c.isV=Wt (w=O "num" \/ w=O "fn" \/ w=O "rec"):=by
 cases c with
 |op w a b=>exact⟨_,_,rfl,by cases w<;>simp[Gc.isV,Wd.s]⟩
 |_=>exact⟨_,_,rfl,by simp[Gc.isV]⟩
def Zo6:Za8 GD (.tup (x::xs)) (.int 0) h=.ok x h:=by simp
def ZpG(H:Lw P)(n:Nat)(c:Gc):run P (n+1) (O "is_value") [c.d] h=.ok (.bl c.isV) h:=by obtain⟨w,ds,e,ev⟩:=ZwN c;rw[Zd H.is_value rfl,e,ev];have q:xs2 (P.tbl n) Zhi [Wn (.tup (.str w::ds))] h=.ok (.rt (.bl (Wt (w=O "num" \/ w=O "fn" \/ w=O "rec"))),[Wn (.tup (.str w::ds))]) h:=Zb (Zm ((Zn ((ZD rfl rfl).trans Zo6) (show IV.ev (P.tbl n) (.glo (O "VALUES")) _ h=.ok _ h from congrArg (λo=>R.ofO o h) H.gv)).trans Zrq));exact congrArg Ze q
def Zgj(H:Gn.Tre P)(n:Nat)(c:Gc):run P (n+1) (O "parts_of") [c.d] h=.ok (.tup (c.ps.map nI)) h:=by
 cases c with
 |num z=>exact Gn.ZeP H n h (O "num") _ rfl
 |name x=>exact Gn.ZeP H n h (O "name") _ rfl
 |fn x e=>exact Gn.ZW H n h (O "fn") _ 1 1 rfl
 |rcc f x e=>exact Gn.ZW H n h (O "rec") _ 2 1 rfl
 |call f a=>exact Gn.ZW H n h (O "call") _ 0 2 rfl
 |iff c a b=>exact Gn.ZW H n h (O "if") _ 0 3 rfl
 |op w a b=>exact Gn.ZW H n h w.s _ 0 2 Zda
def Zmy(H:Trb P)(n:Nat)(c:Gc):run P (n+1) (O "front_of") [c.d] h=.ok (.tup c.fr) h:=by
 cases c with
 |num z=>exact Ze3 H n h (O "num") _ rfl
 |name x=>exact Ze3 H n h (O "name") _ rfl
 |fn x e=>exact ZX H n h (O "fn") _ 1 1 rfl
 |rcc f x e=>exact ZX H n h (O "rec") _ 2 1 rfl
 |call f a=>exact ZX H n h (O "call") _ 0 2 rfl
 |iff c a b=>exact ZX H n h (O "if") _ 0 3 rfl
 |op w a b=>exact ZX H n h w.s _ 0 2 Zda
def ZrI(H:Trb P)(n:Nat)(c:Gc):run P (n+1) (O "bound_names") [c.d] h=.ok (.tup (c.bd.map .str)) h:=by
 have no:∀(w:Str) (ds:List D),ZK Gn.Zct (.inr w)=Wo->run P (n+1) (O "bound_names") [.tup (.str w::ds)] h=.ok (.tup []) h:=λw ds e=>by rw[Zd H.bound_names rfl];show Ze (xs2 (P.tbl n) Zag [Wn (.tup (.str w::ds))] h)=_;rw[Zag,Zb ((Zu (Gn.ZbV H.toTre ⟨rfl,rfl⟩ Gn.Zed e)).trans (Zb (Zm (d:=.tup []) rfl)))];rfl
 have yes:∀(w:Str) (ds:List D) (a b:Int),ZK Gn.Zct (.inr w)=Wn (.tup [.int a,.int b])->run P (n+1) (O "bound_names") [.tup (.str w::ds)] h=.ok (.tup (cutD (.str w::ds) (Wn 1) (Wn (1+a)))) h:=λw ds a b e=>by rw[Zd H.bound_names rfl];show Ze (xs2 (P.tbl n) Zag [Wn (.tup (.str w::ds))] h)=_;have q:=Gn.Zk4 H.toTre (U:=P.tbl n) ⟨rfl,rfl⟩ (ds:=ds) (h:=h) e;have r:ev (P.tbl n) (.sl (.var 0) (Wn (.ci 1)) (Wn (.bin .Add (.ci 1) (.ix (.ix (.glo (O "FORMS")) (.ix (.var 0) (.ci 0))) (.ci 0))))) [Wn (.tup (.str w::ds))] h=.ok (.tup (cutD (.str w::ds) (Wn 1) (Wn (1+a)))) h:=(Gn.ZnW (a:=.var 0) (x:=.tup (.str w::ds)) rfl rfl (Gn.ZiG q)).trans rfl;rw[Zag,Za ((Zs (Gn.ZbV H.toTre ⟨rfl,rfl⟩ Gn.Zed e)).trans rfl),Zb (Zm r)];rfl
 cases c with
 |num z=>exact no (O "num") _ rfl
 |name x=>exact no (O "name") _ rfl
 |fn x e=>exact yes (O "fn") _ 1 1 rfl
 |rcc f x e=>exact yes (O "rec") _ 2 1 rfl
 |call f a=>exact yes (O "call") _ 0 2 rfl
 |iff c a b=>exact yes (O "if") _ 0 3 rfl
 |op w a b=>exact yes w.s _ 0 2 Zda
def Gc.pf:Gc->List Nat
 |.iff c _ _=>[c]
 |c=>c.ps
def Zye(H:Lw P)(n:Nat)(c:Gc):run P (n+2) (O "parts_first") [c.d] h=.ok (.tup (c.pf.map nI)) h:=by
 rw[Zd H.parts_first rfl];have no:∀(w:Str) (ds:List D),c.d=.tup (.str w::ds)->w≠O "if" -> c.pf=c.ps->Ze (xs2 (P.tbl (n+1)) Za0 [Wn c.d] h)=.ok (.tup (c.pf.map nI)) h:=λw ds e ne ep=>by have q:xs2 (P.tbl (n+1)) Za0 [Wn c.d] h=.ok (.rt (.tup (c.ps.map nI)),[Wn c.d]) h:=(Za ((Zs (Zq (Zcu ((ZD rfl rfl).trans (by rw[e];exact Zo6)) rfl) (decide_eq_false ne))).trans rfl)).trans (Zb (Zm (Zo (Zgj H.b.toTre n c) rfl)));rw[ep];exact congrArg Ze q
 cases c with
 |iff a b e=>have q:xs2 (P.tbl (n+1)) Za0 [Wn (Gc.iff a b e).d] h=.ok (.rt (.tup [nI a]),[Wn (Gc.iff a b e).d]) h:=Zb ((Zu (Zq (Zcu (x:=O "if") rfl rfl) (decide_eq_true rfl))).trans (Zb (Zm rfl)));exact congrArg Ze q
 |num z=>exact no _ _ rfl (by simp) rfl
 |name x=>exact no _ _ rfl (by simp) rfl
 |fn x e=>exact no _ _ rfl (by simp) rfl
 |rcc f x e=>exact no _ _ rfl (by simp) rfl
 |call f e=>exact no _ _ rfl (by simp) rfl
 |op w f e=>exact no _ _ rfl (by simp) rfl
end
section
variable {P:Pg}
def fop(G:List Gc):List Nat->Option Nat
 |[]=>Wo
 |n::r=>match G[n]? with
  |some c=>if c.isV then fop G r else Wn n
  |none=>Wo
def oI:Option Nat->D
 |some n=>nI n
 |none=>.non
noncomputable def cl(G:List Gc):DO:=.lst (G.map Gc.d)
def ZuP{G:List Gc}{n:Nat}{c:Gc}(e:G[n]? = Wn c):atI (G.map Gc.d) (n:Int)=Wn c.d:=by rw[IV.Zce,On,e];rfl
def ZbZ{U:Tb}{a b:Ex}{G:List Gc}{h:Hd}{n:Nat}{c:Gc}(p:ev U a S h=.ok (.ref k) h)(q:ev U b S h=.ok (nI n) h)(hk:h[k]? = Wn (cl G))(e:G[n]? = Wn c):ev U (.ix a b) S h=.ok c.d h:=(ZD p q).trans ((ZP hk).trans (by rw[ZuP e];rfl))
theorem Zwj(H:Lw P)(n:Nat){G:List Gc}{h:Hd}(hk:h[k]? = Wn (cl G)):∀(ns:List Nat) (o:Option D),(∀m∈ns,∃c,G[m]? = Wn c)->(∃S q,fop G ns=Wn q/\Z3 [] (.nm 2) (xs2 (P.tbl (n+2)) Zaw) (ns.map nI) [Wn (.ref k),E,o] h=.ok (.rt (nI q),S) h)\/(fop G ns=Wo/\∃o',Z3 [] (.nm 2) (xs2 (P.tbl (n+2)) Zaw) (ns.map nI) [Wn (.ref k),E,o] h=.ok (.nx,[Wn (.ref k),E,o']) h)
 |[],o,_=>.inr ⟨rfl,o,rfl⟩
 |m::ns,o,hn=>by
  obtain⟨c,e⟩:=hn m (.head _);have tt:tst (P.tbl (n+2)) Zcv [Wn (.ref k),E,Wn (nI m)] h=.ok (!c.isV) h:=by show tst (P.tbl (n+2)) (.nt (.ex (.call (O "is_value") (.cons (.ix (.var 0) (.var 2)) .nil)))) _ h=_;rw[Zgq,Zaz (Zo (ZpG H (n+1) c) (Zc (ZbZ rfl rfl hk e) rfl))];rfl
  cases v:c.isV with
  |false=>rw[v]at tt;exact .inl ⟨_,m,by simp[fop,e,v],Zk5 (ρ1:=[Wn (.ref k),E,Wn (nI m)]) rfl (Zb ((Zu tt).trans (Zb (Zm rfl))))⟩
  |true=>
   rw[v]at tt;have st:=ZgT (ds:=ns.map nI) (g:=.nm 2) (S:=[Wn (.ref k),E,o]) (ρ1:=[Wn (.ref k),E,Wn (nI m)]) rfl ((Za ((Zs tt).trans rfl)).trans rfl:xs2 (P.tbl (n+2)) Zaw _ h=_);rcases Zwj H n hk ns (Wn (nI m)) λx hx=>hn x (.tail _ hx)with ⟨S,q,e1,e2⟩|⟨e1,o',e2⟩
   . exact .inl ⟨S,q,by simp[fop,e,v,e1],st.trans e2⟩
   . exact .inr ⟨by simp[fop,e,v,e1],o',st.trans e2⟩
def ZvC(H:Lw P)(n:Nat){G:List Gc}{h:Hd}(c:Gc)(hk:h[k]? = Wn (cl G))(hn:∀m∈c.ps,∃c,G[m]? = Wn c):run P (n+3) (O "first_open") [.ref k,c.d] h=.ok (oI (fop G c.pf)) h:=by
 rw[Zd H.first_open rfl];have sub:∀m∈c.pf,m∈c.ps:=by
  intro m hm;cases c with
  |iff a b e=>rw[Ox.mp hm];exact .head _
  |_=>exact hm
 have ei:evi (P.tbl (n+2)) Zdk [Wn (.ref k),Wn c.d,Wo] h=.ok ⟨[],c.pf.map nI⟩ h:=Zk9 (Zo (Zye H n c) rfl);rcases Zwj H n (E:=Wn c.d) hk c.pf Wo λm hm=>hn m (sub m hm)with ⟨S,q,e1,e2⟩|⟨e1,o',e2⟩
 . have w:xs2 (P.tbl (n+2)) ZcS [Wn (.ref k),Wn c.d,Wo] h=.ok (.rt (nI q),S) h:=Zb ((ZgS ei).trans e2);rw[e1];exact congrArg Ze w
 . have w:xs2 (P.tbl (n+2)) ZcS [Wn (.ref k),Wn c.d,Wo] h=.ok (.rt .non,[Wn (.ref k),Wn c.d,o']) h:=(Za ((ZgS ei).trans e2)).trans (Zb (Zm rfl));rw[e1];exact congrArg Ze w
theorem ZjQ{G:List Gc}:∀{ns:List Nat},fop G ns=Wn m->m∈ns/\∃c,G[m]? = Wn c/\c.isV=Wq
 |[],h=>by cases h
 |n::ns,h=>by
  unfold fop at h;split at h
  . rename_i c e;split at h
    . obtain⟨h1,h2⟩:=ZjQ h;exact⟨.tail _ h1,h2⟩
    . rename_i v;cases h;exact⟨.head _,c,e,by simpa using v⟩
  . cases h
theorem ZjR{G:List Gc}:∀{ns:List Nat},fop G ns=Wo->(∀m∈ns,∃c,G[m]? = Wn c)->∀m∈ns,∃c,G[m]? = Wn c/\c.isV=Wp
 |[],_,_,m,hm=>by cases hm
 |n::ns,h,hn,m,hm=>by
  obtain⟨c,e⟩:=hn n (.head _);unfold fop at h;rw[e]at h;simp only at h;split at h
  . rename_i v;rcases O2.mp hm with rfl|hm
    . exact⟨c,e,v⟩
    . exact ZjR h (λx hx=>hn x (.tail _ hx)) m hm
  . cases h
theorem ZcG{F:Nat->T->Prop}:∀{ns:List Nat}{ts:List T},Paired F ns ts->∀m∈ns,∃s∈ts,F m s
 |_,_,.nil,m,hm=>by cases hm
 |_,_,.cons r t,m,hm=>by
  rcases O2.mp hm with rfl|hm
  . exact⟨_,.head _,r⟩
  . obtain⟨s,hs,q⟩:=ZcG t m hm;exact⟨s,.tail _ hs,q⟩
def Rd.at(h:Rd (gl G) i t):∃c,G[i]? = Wn c/\Fit c t/\Paired (Rd (gl G)) c.ps t.parts/\∀m∈c.ps,∃c,G[m]? = Wn c:=by obtain⟨c,e,f,p⟩:=h.inv;refine⟨c,e,f,p,λm hm=>?_⟩;obtain⟨s,_,q⟩:=ZcG p m hm;obtain⟨c',e',_⟩:=q.inv;exact⟨c',e'⟩
structure Nx(G:List Gc)(t:T)(n:Nat)(s:T)(c:Gc):Prop where
 r:Rd (gl G) n s
 a:G[n]? = Wn c
 f:Fit c s
 p:Paired (Rd (gl G)) c.ps s.parts
 v:Tm.isV s=Wq
 k:Gn.Cl [] s
 z:s.size<=t.size
 w:∀m∈c.pf,∃c,G[m]? = Wn c/\c.isV=Wp
def vn(k r n:Nat)(o:Option Nat):Ev:=[Wn (.ref k),Wn (nI r),Wn (nI n),Wn (oI o)]
def Zsh{c:Gc}:∀m∈c.pf,m∈c.ps:=by
 intro m hm;cases c with
 |iff a b e=>rw[Ox.mp hm];exact .head _
 |_=>exact hm
theorem Zo1(H:Lw P)(n:Nat){G:List Gc}{h:Hd}(hk:h[k]? = Wn (cl G)):∀(z:Nat) (i:Nat) (t:T) (c:Gc) (F:Nat),t.size<=z->z<F->Rd (gl G) i t->Tm.isV t=Wq->Gn.Cl [] t->G[i]? = Wn c->∃m s d,ZT (tst (P.tbl (n+3)) Zcn) (xs2 (P.tbl (n+3)) Zec) F (vn k r i (fop G c.pf)) h=.ok (.nx,vn k r m Wo) h/\Nx G t m s d
 |z,i,t,c,0,_,hF,_,_,_,_=>by lia
 |z,i,t,c,F+1,hz,hF,rd,nv,ct,e=>by
  obtain⟨c',e',f,p,hn⟩:=rd.at;rw[e]at e';cases e';have tt:tst (P.tbl (n+3)) Zcn (vn k r i (fop G c.pf)) h=.ok (!Wt (oI (fop G c.pf)=.non)) h:=Zug rfl;cases q:fop G c.pf with
  |none=>rw[q]at tt;refine⟨i,t,c,Zgc (Zq tt (by simp[oI])),rd,e,f,p,nv,ct,Oq _,ZjR q λm hm=>hn m (Zsh m hm)⟩
  |some m=>
   rw[q]at tt;obtain⟨hm,c2,e2,v2⟩:=ZjQ q;obtain⟨s,hs,rs⟩:=ZcG p m (Zsh m hm);obtain⟨c3,e3,f3,p3,hn3⟩:=rs.at;rw[e2]at e3;cases e3;have vs:Tm.isV s=Wq:=by rw[<- (Zdm f3).2.2.1];exact v2
   have lt:=Zig hs;obtain⟨m',s',d,e4,nx⟩:=Zo1 H n (r:=r) hk (z - 1) m s c2 F (by lia) (by lia) rs vs (ZrF ct nv hs) e2;have e5:=ZvC H n c2 hk hn3;exact⟨m',s',d,(ZcD (Zq tt (by simp[oI,nI])) ((Za (Zl (i:=2) rfl)).trans ((Za (Zl (i:=3) (Zo e5 (Zc rfl (Zc (ZbZ (k:=k) (n:=m) rfl rfl hk e2) rfl))))).trans rfl))).trans e4,{nx with z:=OE nx.z (Nat.le_of_lt lt)}⟩
def Zgx(H:Lw P)(n:Nat){G:List Gc}{h:Hd}(hk:h[k]? = Wn (cl G))(rd:Rd (gl G) i t)(nv:Tm.isV t=Wq)(ct:Gn.Cl [] t)(hz:t.size<=1000):∃m s c,run P (n+4) (O "next_cell") [.ref k,nI i] h=.ok (nI m) h/\Nx G t m s c:=by obtain⟨c,e,f,p,hn⟩:=rd.at;have big:=H.b.big;obtain⟨m,s,d,e4,nx⟩:=Zo1 H n (r:=i) hk t.size i t c P.L (Oq _) (by lia) rd nv ct e;refine⟨m,s,d,?_,nx⟩;rw[Zd H.next_cell rfl];have w:xs2 (P.tbl (n+3)) ZfY [Wn (.ref k),Wn (nI i),Wo,Wo] h=.ok (.rt (nI m),vn k i m Wo) h:=(Za (Zl (i:=2) rfl)).trans ((Za (Zl (i:=3) (Zo (ZvC H n c hk hn) (Zc rfl (Zc (ZbZ (k:=k) (n:=i) rfl rfl hk e) rfl))))).trans ((Za (s:=Zem) ((ZeH).trans e4)).trans (Zb (Zm rfl))));exact congrArg Ze w
structure Fm(S_:List Nat)(h h':Hd):Prop where
 l:h.length<=h'.length
 o:∀i,i<h.length->i ∉ S_->h'[i]? = h[i]?
def Fm.refl{S_:List Nat}{h:Hd}:Fm S_ h h:=⟨Oq _,λ_ _ _=>rfl⟩
theorem Fm.trans{S_:List Nat}{h h1 h2:Hd}(a:Fm S_ h h1)(b:Fm S_ h1 h2):Fm S_ h h2:=⟨OE a.l b.l,λi hi hs=>(b.o i (Ot hi a.l) hs).trans (a.o i hi hs)⟩
def Fm.app{S_:List Nat}{h g:Hd}:Fm S_ h (h++g):=⟨by simp,λi hi _=>Oe hi⟩
theorem Fm.set{S_:List Nat}{h:Hd}{i:Nat}{o:DO}(hi:i∈S_):Fm S_ h (h.set i o):=⟨by simp,λj _ hs=>Oc λ(e:i=j)=>hs (e ▸ hi)⟩
def Fm.at{S_:List Nat}{h h':Hd}{i:Nat}{o:DO}(a:Fm S_ h h')(e:h[i]? = Wn o)(hs:i ∉ S_):h'[i]? = Wn o:=(a.o i (Zx e) hs).trans e
def Fm.sub{S_ S':List Nat}{h h':Hd}(a:Fm S_ h h')(q:∀i∈S_,i∈S'):Fm S' h h':=⟨a.l,λi hi hs=>a.o i hi λz=>hs (q i z)⟩
def Fm.cut{S_ S':List Nat}{h h':Hd}(a:Fm S_ h h')(q:∀i∈S_,i∈S'\/h.length<=i):Fm S' h h':=⟨a.l,λi hi hs=>a.o i hi λz=>(q i z).elim hs λw=>absurd hi (Nat.not_lt.mpr w)⟩
theorem Z8{α:Type}(dd:α->D)(p:α->Bool)(f:α->D){src:List (Nat×List D)}{g:Tg}{tt:Ev->Hd->R Bool}{ee:Ev->Hd->R D}{S:Ev}{h:Hd}(st:Wk.stays src h=Wp):∀(xs:List α) (acc:List D),(∀x∈xs,∃ρ1,ZbJ g (dd x) S=Wn ρ1/\tt ρ1 h=.ok (p x) h/\(p x=Wp->ee ρ1 h=.ok (f x) h))->acc.length+xs.length<=100000->Zz src g tt ee (xs.map dd) S acc h=.ok (acc++(xs.filter p).map f) h
 |[],acc,_,_=>by simp[Zz,st]
 |x::xs,acc,hx,hz=>by
  simp only[Os]at hz;obtain⟨ρ1,b,t,e⟩:=hx x (.head _);have lt:acc.length<sizeLine:=by rw[YB];lia
  rw[Op,Zz,if_pos ⟨st,lt⟩,b];simp only;rw[t];cases q:p x with
  |true=>rw[show((R.ok Wp h).plain.bind λb h1=>if b then(ee ρ1 h1).plain.bind λx h2=>Zz src g tt ee (xs.map dd) S (acc++[x]) h2 else Zz src g tt ee (xs.map dd) S acc h1)=(ee ρ1 h).plain.bind λx h2=>Zz src g tt ee (xs.map dd) S (acc++[x]) h2 from rfl,e q];exact(Z8 dd p f st xs (acc++[f x]) (λy hy=>hx y (.tail _ hy)) (by simp;lia)).trans (by simp[q])
  |false=>exact(Z8 dd p f st xs acc (λy hy=>hx y (.tail _ hy)) (by lia)).trans (by simp[q])
def Zfq{h:Hd}(e:h[j]? = Wn (.lst xs)):Wk.stays [(j,xs)] h=Wp:=by simp[Wk.stays,e]
noncomputable abbrev Pr:=Nat×List Str
noncomputable def nD(ns:List Str):D:=.tup (ns.map .str)
def pD(p:Pr):D:=.tup [nI p.1,nD p.2]
noncomputable def pk(p:Pr):NK:=((p.1:Int),p.2)
theorem ZlE:∀ss:List Str,strsOf (ss.map D.str)=Wn ss
 |[]=>rfl
 |s::r=>by rw[Op,strsOf,ZlE r];rfl
def ZtM(p:Pr):nkD (pD p)=Wn (pk p):=by show(strsOf (p.2.map D.str)).map (λss=>((p.1:Int),ss))=_;rw[ZlE];rfl
def Zim{p q:Pr}(e:pk p=pk q):p=q:=by obtain⟨a,b⟩:=p;obtain⟨c,d⟩:=q;simp only[pk,Prod.mk.injEq,Int.natCast_inj]at e;rw[e.1,e.2]
def bn(c:Gc)(ns:List Str):List Pr:=c.ps.map λm=>(m,rs ns c.bd)
def Zfs(c:Gc):c.ps.length<=3:=by cases c<;>simp[Gc.ps]
def ZhL(H:Lw P)(n:Nat){G:List Gc}{h:Hd}{m:Nat}{c:Gc}(hk:h[k]? = Wn (cl G))(e:G[m]? = Wn c)(ns:List Str)(hn:ns.length<=2):run P (n+2) (O "beneath") [.ref k,nI m,nD ns] h=.ok (.ref (h.length+1)) (h++[.lst ((rs ns c.bd).map .str),.lst ((bn c ns).map pD)]):=by
 rw[Zd H.beneath rfl];have q1:ev (P.tbl (n+1)) (.ix (.var 0) (.var 1)) [Wn (.ref k),Wn (nI m),Wn (nD ns),Wo,Wo,Wo] h=.ok c.d h:=ZbZ rfl rfl hk e;have q2:ev (P.tbl (n+1)) (.call (O "bound_names") (.cons (.var 3) .nil)) [Wn (.ref k),Wn (nI m),Wn (nD ns),Wn c.d,Wo,Wo] h=.ok (.tup (c.bd.map .str)) h:=Zo (ZrI H.b n c) rfl;have q3:=Z8 D.str (λx=>!Wt (x∈c.bd)) D.str (src:=[]) (g:=.nm 0) (tt:=tsto (P.tbl (n+1)) (Wn (.ex (.cmp .NotIn (.var 0) (.var 1))))) (ee:=ev (P.tbl (n+1)) (.var 0)) (S:=[Wo,Wn (.tup (c.bd.map .str))]) (h:=h) rfl ns [] (λx _=>⟨[Wn (.str x),Wn (.tup (c.bd.map .str))],rfl,Zaz ((Zn rfl rfl).trans ZcY),λ_=>rfl⟩) (by simp;lia);have q4:ev (P.tbl (n+1)) (.blt .tup (.cons (.comp [(O "name"),(O "bound")] [Wo,Wn 4] (.pl (.var 2)) (.nm 0) (Wn (.ex (.cmp .NotIn (.var 0) (.var 1)))) (.var 0)) .nil)) [Wn (.ref k),Wn (nI m),Wn (nD ns),Wn c.d,Wn (.tup (c.bd.map .str)),Wo] h=.ok (nD (rs ns c.bd)) (h++[.lst ((rs ns c.bd).map .str)]):=Zev (Zc (Zfb (Zk9 rfl) q3) rfl) (Zr4 ZaH);have q5:=Z8 nI (λ_=>Wp) (λm=>pD (m,rs ns c.bd)) (src:=[]) (g:=.nm 0) (tt:=tsto (P.tbl (n+1)) Wo) (ee:=ev (P.tbl (n+1)) (.tupl (.cons (.var 0) (.cons (.var 1) .nil)))) (S:=[Wo,Wn (nD (rs ns c.bd))]) (h:=h++[.lst ((rs ns c.bd).map .str)]) rfl c.ps [] (λx _=>⟨[Wn (nI x),Wn (nD (rs ns c.bd))],rfl,rfl,λ_=>ZaA rfl (by simp)⟩) (by have:=Zfs c;simp;lia);have q6:ev (P.tbl (n+1)) (.comp [(O "part"),(O "inner")] [Wo,Wn 5] (.pl (.call (O "parts_of") (.cons (.var 3) .nil))) (.nm 0) Wo (.tupl (.cons (.var 0) (.cons (.var 1) .nil)))) [Wn (.ref k),Wn (nI m),Wn (nD ns),Wn c.d,Wn (.tup (c.bd.map .str)),Wn (nD (rs ns c.bd))] (h++[.lst ((rs ns c.bd).map .str)])=.ok (.ref (h.length+1)) (h++[.lst ((rs ns c.bd).map .str),.lst ((bn c ns).map pD)]):=by rw[Zfb (Zk9 (Zo (Zgj H.b.toTre n c) rfl)) q5];simp[bn,List.filter_eq_self.mpr (λ(_:Nat) _=>rfl:∀a∈c.ps,(λ_=>Wp) a=Wp),Function.comp_def]
 have w:xs2 (P.tbl (n+1)) Zia [Wn (.ref k),Wn (nI m),Wn (nD ns),Wo,Wo,Wo] h=.ok (.rt (.ref (h.length+1)),_) _:=(Za (Zl (i:=3) q1)).trans ((Za (Zl (i:=4) q2)).trans ((Za (Zl (i:=5) q4)).trans (Zb (Zm q6))));exact congrArg Ze w
noncomputable def cm(ns:List Str):Gc->Bool
 |.name x=>Wt (x∈ns)
 |_=>Wq
def Zlf{c:Gc}{t:T}(f:Fit c t)(ns:List Str):cm ns c=mnt ns t:=by cases c<;>cases t<;>simp only[Fit]at f<;>first|rfl|(subst f;rfl)
def ZlM(H:Lw P)(n:Nat)(c:Gc)(ns:List Str)(h:Hd):run P (n+1) (O "is_meant") [c.d,nD ns] h=.ok (.bl (cm ns c)) h:=by
 rw[Zd H.is_meant rfl];have no:∀(w:Str) (ds:List D),c.d=.tup (.str w::ds)->w≠O "name" -> cm ns c=Wq->Ze (xs2 (P.tbl n) ZcQ [Wn c.d,Wn (nD ns)] h)=.ok (.bl (cm ns c)) h:=λw ds e ne ec=>by rw[ec,e];have q0:ev (P.tbl n) (.cmp .Eq (.ix (.var 0) (.ci 0)) (.Ci_ "name")) [Wn (.tup (.str w::ds)),Wn (nD ns)] h=.ok (.bl Wq) h:=(Zn ((ZD rfl rfl).trans Zo6) rfl).trans (by rw[Ziq,ZeQ];simp[ne]);have q:xs2 (P.tbl n) ZcQ [Wn (.tup (.str w::ds)),Wn (nD ns)] h=.ok (.rt (.bl Wq),_) h:=Zb (Zm (by rw[ZiK,ZfB,q0];rfl));exact congrArg Ze q
 cases c with
 |name x=>have q0:ev (P.tbl n) (.cmp .Eq (.ix (.var 0) (.ci 0)) (.Ci_ "name")) [Wn (Gc.name x).d,Wn (nD ns)] h=.ok (.bl Wp) h:=(Zn ((ZD rfl rfl).trans Zo6) rfl).trans (by rw[Ziq,ZeQ];simp);have q1:ev (P.tbl n) (.cmp .In (.ix (.var 0) (.ci 1)) (.var 1)) [Wn (Gc.name x).d,Wn (nD ns)] h=.ok (.bl (Wt (x∈ns))) h:=(Zn (x:=.str x) rfl rfl).trans ZcH;have q:xs2 (P.tbl n) ZcQ [Wn (Gc.name x).d,Wn (nD ns)] h=.ok (.rt (.bl (Wt (x∈ns))),_) h:=Zb (Zm (by rw[ZiK,ZfB,q0];exact q1));exact congrArg Ze q
 |op w a b=>exact no _ _ rfl (by cases w<;>simp[Wd.s]) rfl
 |num z=>exact no _ _ rfl (by simp) rfl
 |fn x e=>exact no _ _ rfl (by simp) rfl
 |rcc f x e=>exact no _ _ rfl (by simp) rfl
 |call f e=>exact no _ _ rfl (by simp) rfl
 |iff f e g=>exact no _ _ rfl (by simp) rfl
def Zi9(kv:List (NK×D))(k k':NK)(v:D):valN (putN kv k v) k'=if k=k' then Wn v else valN kv k':=by
 have A:∀kv:List (NK×D),valN (kv.map λkv=>if kv.1=k then(kv.1,v)else kv) k'=if k=k' then(if (kv.any λkv=>Wt (kv.1=k))=Wp then Wn v else Wo)else valN kv k':=by
  intro kv;induction kv with
  |nil=>simp[valN]
  |cons p r ih=>
   obtain⟨a,b⟩:=p;unfold valN at ih ⊢;by_cases e:a=k
   . subst e;by_cases e':a=k'<;>simp_all
   . by_cases e':a=k'
     . subst e';have e2:¬ k=a:=λz=>e z.symm;simp[e,e2]
     . rw[Op,if_neg e,Wj,Wj,YY];simp only[e',decide_false,decide_eq_false e,Bool.false_or];exact ih
 have B_:∀kv:List (NK×D),(kv.any λkv=>Wt (kv.1=k))=Wq->valN (kv++[(k,v)]) k'=if k=k' then Wn v else valN kv k':=by
  intro kv;induction kv with
  |nil=>intro _;by_cases e:k=k'<;>simp[valN,e]
  |cons p r ih=>
   intro h;obtain⟨a,b⟩:=p;rw[YY,Bool.or_eq_false_iff]at h;have ih:=ih h.2;have ne:¬ a=k:=by simpa using h.1
   unfold valN at ih ⊢;by_cases e':a=k'
   . subst e';have e2:¬ k=a:=λz=>ne z.symm;simp[e2]
   . simp only[List.cons_append,Wj,e',decide_false];exact ih
 unfold putN;by_cases q:(kv.any λkv=>Wt (kv.1=k))=Wp
 . rw[if_pos q,A,if_pos q]
 . rw[if_neg q,B_ _ (Bool.eq_false_iff.mpr q)]
def ZlO(kv:List (NK×D))(k:NK)(v:D):(putN kv k v).length<=kv.length+1:=by unfold putN;split<;>simp
def inN(kv:List (NK×D))(p:Pr):Bool:=(valN kv (pk p)).isSome
def ZgP:inN (putN kv (pk p) v) q=(Wt (p=q) || inN kv q):=by
 unfold inN;rw[Zi9];by_cases e:p=q
 . subst e;simp
 . have:¬ pk p=pk q:=λz=>e (Zim z);simp[this,e]
def Zpo{U:Tb}{S:Ev}{h:Hd}{a b:Ex}(x:ev U a S h=.ok (pD p) h)(y:ev U b S h=.ok (.ref j) h)(hj:h[j]? = Wn (.dnk kv)):ev U (.nin Wp a b) S h=.ok (.bl (!inN kv p)) h:=by show(ev U a S h).bind (λx h1=>(ev U b S h1).bind λy h2=>Zkl Wp x y h2)=_;rw[x,bind_ok,y,bind_ok];unfold Zkl Zns;simp only[hj,ZtM,if_true];rfl
def Zg5{U:Tb}{S:Ev}{h:Hd}{a b:Ex}(x:ev U a S h=.ok (.ref j) h)(y:ev U b S h=.ok (pD p) h)(hj:h[j]? = Wn (.dnk kv))(hv:valN kv (pk p)=Wn v):ev U (.nix a b) S h=.ok v h:=by show(ev U a S h).bind (λx h1=>(ev U b S h1).bind λy h2=>ZpO x y h2)=_;rw[x,bind_ok,y,bind_ok];unfold ZpO Zns;simp only[hj,ZtM,hv];rfl
def Zsk{U:Tb}{S:Ev}{h h1:Hd}{o i e:Ex}(z:ev U e S h=.ok v h1)(x:ev U o S h1=.ok (.ref j) h1)(y:ev U i S h1=.ok (pD p) h1)(hj:h1[j]? = Wn (.dnk kv))(hl:kv.length<=100000):xs1 U (.npt o i e) S h=.ok (.nx,S) (h1.set j (.dnk (putN kv (pk p) v))):=by show(ev U e S h).bind (λx h1=>(ev U o S h1).bind λy h2=>(ev U i S h2).bind λz h3=>(ZpN y z x h3).bind λ_ h4=>R.ok (Fl.nx,S) h4)=_;rw[z,bind_ok,x,bind_ok,y,bind_ok];unfold ZpN;simp only[hj,ZtM];rw[if_pos (by rw[YB];lia)];rfl
def Zjz{h:Hd}(e:h[i]? = Wn (.lst ys))(e':h[j]? = Wn (.lst zs))(ne:i≠j)(hz:ys.length+zs.length<=100000):ZbF .ext (.ref i) [.ref j] h=.ok .non (h.set i (.lst (ys++zs))):=by
 have:ys.length+zs.length<=sizeLine:=by rw[YB];lia
 simp[ZbF,Zf3,ZtU,e,e',lstOf,ne,this,seqOf]
def ZhD(G:List Gc)(kv:List (NK×D)):Prop:=∀p v,valN kv (pk p)=Wn v->∀t,Rd (gl G) p.1 t->v=.bl (fin p.2 t)
def ZnE(G:List Gc)(kv:List (NK×D)):Prop:=∀p,inN kv p=Wp->∀c,G[p.1]? = Wn c->∀q∈bn c p.2,q.2≠[]->inN kv q=Wp
structure Sf(G:List Gc)(k fk wk:Nat)(h0 h:Hd)(kv:List (NK×D))(W:List Pr):Prop where
 c:h[k]? = Wn (cl G)
 f:h[fk]? = Wn (.dnk kv)
 w:h[wk]? = Wn (.lst (W.map pD))
 m:Fm [fk,wk] h0 h
 ok:ZhD G kv
 cd:ZnE G kv
 nk:k≠wk
def ef(k s fk wk:Nat)(ns:List Str)(a b c:Option D):Ev:=[Wn (.ref k),Wn (nI s),Wn (nD ns),Wn (.ref fk),Wn (.ref wk),a,b,c]
def lf(P:Pg)(n F:Nat):Ev->Hd->R (Fl×Ev):=ZT (tst (P.tbl (n+3)) ZC) (xs2 (P.tbl (n+3)) Z6) F
def wn(c:Gc)(ns:List Str):List Pr:=(bn c ns).filter λp=>!p.2.isEmpty
def ZqR{U:Tb}{S:Ev}{h:Hd}{a:Ex}(x:ev U a S h=.ok (pD p) h):ev U (.ix a (.ci 0)) S h=.ok (nI p.1) h:=(ZD x rfl).trans rfl
def ZqQ{U:Tb}{S:Ev}{h:Hd}{a:Ex}(x:ev U a S h=.ok (pD p) h):ev U (.ix a (.ci 1)) S h=.ok (nD p.2) h:=(ZD x rfl).trans rfl
def Zus{U:Tb}{S:Ev}{h:Hd}{a:Ex}{W:List Pr}{p:Pr}(x:ev U a S h=.ok (.ref j) h)(hj:h[j]? = Wn (.lst ((W++[p]).map pD))):ev U (.ix a (.neg (.ci 1))) S h=.ok (pD p) h:=by rw[List.map_append]at hj;exact(ZD x rfl).trans ((ZP hj).trans (congrArg (λo=>R.ofO o h) (ZpS (l:=W.map pD) (x:=pD p))))
def ZjW{U:Tb}{S:Ev}{h h1:Hd}{e:Ex}(p:ev U e S h=.ok (.ref i) h1)(l:h1[i]? = Wn (.lst xs)):evi U (.pl e) S h=.ok ⟨[(i,xs)],xs⟩ h1:=by rw[Zla,p,Zg];simp[ZaN,l]
def Zn1(ns b:List Str):(rs ns b).length<=ns.length:=List.length_filter_le _ _
def ZsK{U:Tb}{S:Ev}{h:Hd}{a:Ex}(x:ev U a S h=.ok (pD p) h):tst U (.ex (.ix a (.ci 1))) S h=.ok (!p.2.isEmpty) h:=by rw[Zkt,ZqQ x,Zg];show R.ofO (Wn (!(p.2.map D.str).isEmpty)) h=_;rw[List.isEmpty_map];rfl
def Zsp(H:Lw P)(n:Nat){G:List Gc}{h0 h:Hd}{kv:List (NK×D)}{W:List Pr}{m:Nat}{ns ms:List Str}{c:Gc}(s:Sf G k fk wk h0 h kv (W++[(m,ns)]))(hn:ns.length<=2)(e:G[m]? = Wn c)(a b d:Option D):∃i j h',xs1 (P.tbl (n+3)) ZbR (ef k r fk wk ms a b d) h=.ok (.nx,ef k r fk wk ms (Wn (.ref i)) b d) h'/\h'[i]? = Wn (.lst ((wn c ns).map pD))/\(∃h'',xs1 (P.tbl (n+3)) ZbQ (ef k r fk wk ms (Wn (.ref i)) b d) h'=.ok (.nx,ef k r fk wk ms (Wn (.ref i)) (Wn (.ref j)) d) h''/\h''[i]? = Wn (.lst ((wn c ns).map pD))/\h''[j]? = Wn (.lst (((wn c ns).filter λp=>!inN kv p).map pD))/\(∃g,h''=h++g)/\h.length<=i/\h.length<=j):=by
 have rb:=ZhL H (n+1) s.c e ns hn;have lb:(bn c ns).length<=3:=by unfold bn;rw[Yt];exact Zfs c
 have top:ev (P.tbl (n+3)) (.ix (.var 4) (.neg (.ci 1))) (ef k r fk wk ms a b d) h=.ok (pD (m,ns)) h:=Zus rfl s.w;have e1:ev (P.tbl (n+3)) (.call (O "beneath") (.cons (.var 0) (.cons (.ix (.ix (.var 4) (.neg (.ci 1))) (.ci 0)) (.cons (.ix (.ix (.var 4) (.neg (.ci 1))) (.ci 1)) .nil)))) (ef k r fk wk ms a b d) h=_:=Zo rb (Zc rfl (Zc (ZqR top) (Zc (ZqQ top) rfl)));have b1:(h++[DO.lst ((rs ns c.bd).map .str),.lst ((bn c ns).map pD)])[h.length+1]? = Wn (.lst ((bn c ns).map pD)):=ZrV;have e2:evi (P.tbl (n+3)) (.pl (.call (O "beneath") (.cons (.var 0) (.cons (.ix (.ix (.var 4) (.neg (.ci 1))) (.ci 0)) (.cons (.ix (.ix (.var 4) (.neg (.ci 1))) (.ci 1)) .nil))))) (ef k r fk wk ms a b d) h=.ok ⟨[(h.length+1,(bn c ns).map pD)],(bn c ns).map pD⟩ (h++[.lst ((rs ns c.bd).map .str),.lst ((bn c ns).map pD)]):=ZjW e1 b1;have kf:(h++[DO.lst ((rs ns c.bd).map .str),.lst ((bn c ns).map pD)])[fk]? = Wn (.dnk kv):=keep s.f;have l0:(h++[DO.lst ((rs ns c.bd).map .str),.lst ((bn c ns).map pD)]).length=h.length+2:=by simp
 have hx:∃g,h++[DO.lst ((rs ns c.bd).map .str),.lst ((bn c ns).map pD)]=h++g:=⟨_,rfl⟩
 generalize h++[DO.lst ((rs ns c.bd).map .str),.lst ((bn c ns).map pD)]=h1 at *;have e3:=Z8 pD (λp=>!p.2.isEmpty) pD (src:=[(h.length+1,(bn c ns).map pD)]) (g:=.nm 0) (tt:=tsto (P.tbl (n+3)) (Wn (.ex (.ix (.var 0) (.ci 1))))) (ee:=ev (P.tbl (n+3)) (.var 0)) (S:=[Wo]) (Zfq b1) (bn c ns) [] (λx _=>⟨[Wn (pD x)],rfl,ZsK rfl,λ_=>rfl⟩) (by simp;lia);have lw:(wn c ns).length<=3:=OE (List.length_filter_le _ _) lb;have k1:(h1++[DO.lst ((wn c ns).map pD)])[h1.length]? = Wn (.lst ((wn c ns).map pD)):=ZaH;have kf2:(h1++[DO.lst ((wn c ns).map pD)])[fk]? = Wn (.dnk kv):=keep kf;have e4:=Z8 pD (λp=>!inN kv p) pD (src:=[(h1.length,(wn c ns).map pD)]) (g:=.nm 0) (tt:=tsto (P.tbl (n+3)) (Wn (.ex (.nin Wp (.var 0) (.var 1))))) (ee:=ev (P.tbl (n+3)) (.var 0)) (S:=[Wo,Wn (.ref fk)]) (Zfq k1) (wn c ns) [] (λx _=>⟨[Wn (pD x),Wn (.ref fk)],rfl,Zaz (Zpo rfl rfl kf2),λ_=>rfl⟩) (by simp;lia);obtain⟨g,rfl⟩:=hx;refine⟨_,_,_,Zl (i:=5) (Zfb e2 e3),k1,_,Zl (i:=6) (Zfb (ZjW rfl k1) e4),keep k1,ZaH,⟨_,by rw[Oz,Oz]⟩,by simp,by simp[l0]⟩
def ZkS:p∈bn c ns↔p.1∈c.ps/\p.2=rs ns c.bd:=by
 unfold bn;rw[List.mem_map];constructor
 . rintro ⟨q,hq,rfl⟩;exact⟨hq,rfl⟩
 . intro h;exact⟨p.1,h.1,by rw[<- h.2]⟩
def ZoU:p∈wn c ns↔p.1∈c.ps/\p.2=rs ns c.bd/\p.2≠[]:=by unfold wn;rw[List.mem_filter,ZkS,and_assoc];simp
def Sf.ne(s:Sf G k fk wk h0 h kv W):k≠fk/\fk≠wk:=⟨λz=>(by have a:=s.c;rw[z,s.f]at a;cases a),λz=>(by have a:=s.f;rw[z,s.w]at a;cases a)⟩
def Zw4{h:Hd}{bs:List Bool}(e:h[i]? = Wn (.lst (bs.map .bl))):Z0 GD .anb [.ref i] h=.ok (.bl (bs.any id)) h:=by
 have:∀bs:List Bool,Zdv (bs.map D.bl)=Wn bs:=by
  intro bs;induction bs with
  |nil=>rfl
  |cons b r ih=>rw[Op,Zdv,ih];rfl
 show R.ofO (((lstOf (.ref i) h).bind Zdv).map λbs=>D.bl (bs.any id)) h=_;rw[show lstOf (.ref i) h=Wn (bs.map D.bl) by simp[lstOf,e],Yy,this];rfl
def fv(kv:List (NK×D))(p:Pr):Bool:=match valN kv (pk p)with
 |some (.bl b)=>b
 |_=>Wq
def Zpf{G:List Gc}{kv:List (NK×D)}(ok:ZhD G kv)(i:inN kv p=Wp)(rd:Rd (gl G) p.1 t):valN kv (pk p)=Wn (.bl (fv kv p))/\fv kv p=fin p.2 t:=by obtain⟨v,e⟩:=Option.isSome_iff_exists.mp i;have:=ok p v e t rd;subst this;unfold fv;rw[e];exact⟨rfl,rfl⟩
def ZuQ{G:List Gc}{kv:List (NK×D)}(ok:ZhD G kv)(ns:List Str):∀{ps:List Nat}{ts:List T},Paired (Rd (gl G)) ps ts->(∀p∈(ps.map λm=>(m,ns)).filter λp=>!p.2.isEmpty,inN kv p=Wp)->(((ps.map λm=>(m,ns)).filter λp=>!p.2.isEmpty).map (fv kv)).any id=ts.any (fin ns):=by
 intro ps ts q hi;induction q with
 |nil=>rfl
 |@cons m t ps ts a q ih=>
  rw[Op,List.filter_cons]at hi ⊢;cases ns with
  |nil=>have e:=ih λp hp=>hi p (by simpa using hp);rw[YY,Z5,Bool.false_or,<- e];rfl
  |cons x r=>have yes:(!(m,x::r).2.isEmpty)=Wp:=rfl;rw[if_pos yes]at hi ⊢;have e:=ih λp hp=>hi p (.tail _ hp);have i:=hi (m,x::r) (.head _);rw[Op,YY,YY,e,(Zpf ok i a).2];rfl
def Zsq(H:Lw P)(n:Nat){G:List Gc}{h0 h:Hd}{kv:List (NK×D)}{W:List Pr}{m:Nat}{ns ms:List Str}{c:Gc}{t:T}(s:Sf G k fk wk h0 h kv (W++[(m,ns)]))(hn:ns.length<=2)(e:G[m]? = Wn c)(f:Fit c t)(pp:Paired (Rd (gl G)) c.ps t.parts)(all:∀p∈wn c ns,inN kv p=Wp)(hl:kv.length<=100000)(a b d:Option D):∃h' a' b' d',xs2 (P.tbl (n+3)) Z6 (ef k r fk wk ms a b d) h=.ok (.nx,ef k r fk wk ms a' b' d') h'/\Sf G k fk wk h0 h' (putN kv (pk (m,ns)) (.bl (fin ns t))) W:=by
 obtain⟨i,j,h',x1,_,h2,x2,ki,kj,⟨g,rfl⟩,li,lj⟩:=Zsp H n (r:=r) (ms:=ms) s hn e a b d;have no:((wn c ns).filter λp=>!inN kv p)=[]:=List.filter_eq_nil_iff.mpr λp hp=>by simp[all p hp]
 rw[no]at kj;have kw:(h++g)[wk]? = Wn (.lst (W.map pD++[pD (m,ns)])):=by rw[keep s.w];simp
 have kc:(h++g)[k]? = Wn (cl G):=keep s.c;have kf:(h++g)[fk]? = Wn (.dnk kv):=keep s.f;have fm:Fm [fk,wk] h0 (h++g):=s.m.trans .app;obtain⟨n1,n2⟩:=s.ne;have lw:=Zx s.w;have lf:=Zx s.f;generalize h++g=h2 at *;have te:tst (P.tbl (n+3)) Zao (ef k r fk wk ms (Wn (.ref i)) (Wn (.ref j)) d) h2=.ok Wq h2:=Zjb (i:=j) rfl kj;have x3:xs1 (P.tbl (n+3)) ZaJ (ef k r fk wk ms (Wn (.ref i)) (Wn (.ref j)) d) h2=.ok (.nx,ef k r fk wk ms (Wn (.ref i)) (Wn (.ref j)) (Wn (pD (m,ns)))) (h2.set wk (.lst (W.map pD))):=Zl (i:=7) (ZiH (i:=wk) rfl kw rfl (ZeS kw));have kw3:(h2.set wk (.lst (W.map pD)))[wk]? = Wn (.lst (W.map pD)):=by rw[Ol (Zx kw)]
 have kc3:(h2.set wk (.lst (W.map pD)))[k]? = Wn (cl G):=by rw[Oc (λz=>s.nk z.symm)];exact kc
 have kf3:(h2.set wk (.lst (W.map pD)))[fk]? = Wn (.dnk kv):=by rw[Oc (λz=>n2 z.symm)];exact kf
 have ki3:(h2.set wk (.lst (W.map pD)))[i]? = Wn (.lst ((wn c ns).map pD)):=by rw[Oc (by lia)];exact ki
 have fm3:Fm [fk,wk] h0 (h2.set wk (.lst (W.map pD))):=fm.trans (.set (by simp));generalize h2.set wk (.lst (W.map pD))=h3 at *;have e1:ev (P.tbl (n+3)) (.call (O "is_meant") (.cons (.ix (.var 0) (.ix (.var 7) (.ci 0))) (.cons (.ix (.var 7) (.ci 1)) .nil))) (ef k r fk wk ms (Wn (.ref i)) (Wn (.ref j)) (Wn (pD (m,ns)))) h3=.ok (.bl (cm ns c)) h3:=Zo (ZlM H (n+2) c ns h3) (Zc (ZbZ (k:=k) (n:=m) rfl (ZqR (p:=(m,ns)) rfl) kc3 e) (Zc (ZqQ (p:=(m,ns)) rfl) rfl));have vals:∀p∈wn c ns,valN kv (pk p)=Wn (.bl (fv kv p)):=λp hp=>by obtain⟨s',_,rd⟩:=ZcG pp p.1 (ZoU.mp hp).1;exact(Zpf s.ok (all _ hp) rd).1
 have lw3:(wn c ns).length<=3:=OE (List.length_filter_le _ _) (by unfold bn;rw[Yt];exact Zfs c);have e2:=Z8 pD (λ_=>Wp) (λp=>D.bl (fv kv p)) (src:=[(i,(wn c ns).map pD)]) (g:=.nm 0) (tt:=tsto (P.tbl (n+3)) Wo) (ee:=ev (P.tbl (n+3)) (.nix (.var 1) (.var 0))) (S:=[Wo,Wn (.ref fk)]) (Zfq ki3) (wn c ns) [] (λx hx=>⟨[Wn (pD x),Wn (.ref fk)],rfl,rfl,λ_=>Zg5 (j:=fk) (p:=x) rfl rfl kf3 (vals x hx)⟩) (by simp;lia);have e2':ev (P.tbl (n+3)) (.comp [(O "part"),(O "free")] [Wo,Wn 3] (.pl (.var 5)) (.nm 0) Wo (.nix (.var 1) (.var 0))) (ef k r fk wk ms (Wn (.ref i)) (Wn (.ref j)) (Wn (pD (m,ns)))) h3=.ok (.ref h3.length) (h3++[.lst (((wn c ns).map (fv kv)).map .bl)]):=by rw[Zfb (ZjW (i:=i) rfl ki3) e2,List.filter_eq_self.mpr (λ_ _=>rfl),List.map_map];rfl
 have e3:ev (P.tbl (n+3)) (.blt .anb (.cons (.comp [(O "part"),(O "free")] [Wo,Wn 3] (.pl (.var 5)) (.nm 0) Wo (.nix (.var 1) (.var 0))) .nil)) (ef k r fk wk ms (Wn (.ref i)) (Wn (.ref j)) (Wn (pD (m,ns)))) h3=.ok (.bl (t.parts.any (fin (rs ns c.bd)))) (h3++[.lst (((wn c ns).map (fv kv)).map .bl)]):=by rw[Zev (Zc e2' rfl) (Zw4 ZaH)];rw[show((wn c ns).map (fv kv)).any id=t.parts.any (fin (rs ns c.bd))from ZuQ s.ok (rs ns c.bd) pp all]
 have ff:fin ns t=(cm ns c || t.parts.any (fin (rs ns c.bd))):=by rw[Zph,Zlf f,(Zdm f).2.1]
 have e4:∃g,ev (P.tbl (n+3)) (.ors (.cons (.call (O "is_meant") (.cons (.ix (.var 0) (.ix (.var 7) (.ci 0))) (.cons (.ix (.var 7) (.ci 1)) .nil))) (.cons (.blt .anb (.cons (.comp [(O "part"),(O "free")] [Wo,Wn 3] (.pl (.var 5)) (.nm 0) Wo (.nix (.var 1) (.var 0))) .nil)) .nil))) (ef k r fk wk ms (Wn (.ref i)) (Wn (.ref j)) (Wn (pD (m,ns)))) h3=.ok (.bl (fin ns t)) (h3++g):=by
  rw[Zut,Zpr,e1,Zg,ff];cases cm ns c with
  |true=>exact⟨[],by rw[Ys];rfl⟩
  |false=>exact⟨_,e3⟩
 obtain⟨g',e4⟩:=e4;have x4:=Zsk (o:=.var 3) (i:=.var 7) (p:=(m,ns)) e4 rfl rfl (keep kf3) hl;refine⟨_,_,_,_,(Za x1).trans ((Za x2).trans ((Za ((Zs te).trans ((Za x3).trans ((Za x4).trans rfl)))).trans rfl)),?_⟩;have kc4:(h3++g')[k]? = Wn (cl G):=keep kc3;have kw4:(h3++g')[wk]? = Wn (.lst (W.map pD)):=keep kw3;have kf4:(h3++g')[fk]? = Wn (.dnk kv):=keep kf3;refine⟨by rw[Oc (λz=>n1 z.symm)];exact kc4,by rw[Ol (Zx kf4)],by rw[Oc n2];exact kw4,(fm3.trans .app).trans (.set (by simp)),?_,?_,s.nk⟩
 . intro p v hv t' rd';rw[Zi9]at hv;by_cases z:pk (m,ns)=pk p
   . rw[if_pos z]at hv;cases hv;have z:=Zim z;subst z;rw[(Rd.mk e f pp).one rd']
   . rw[if_neg z]at hv;exact s.ok p v hv t' rd'
 . intro p hp c' e' q hq hq2;rw[ZgP]at hp ⊢;rw[Wm];refine .inr ?_;rcases Wm _ _ ▸ hp with z|z
   . have z:=of_decide_eq_true z;subst z;rw[e]at e';cases e';exact all q (ZoU.mpr ⟨(ZkS.mp hq).1,(ZkS.mp hq).2,hq2⟩)
   . exact s.cd p z c' e' q hq hq2
noncomputable def smz(VS:List (Pr×T)):Nat:=(VS.map λx=>x.2.size).sum
def ZbA(x:Pr×T)(VS:List (Pr×T)):smz (x::VS)=x.2.size+smz VS:=by simp[smz]
def Zgd(VS:List (Pr×T)):smz VS.reverse=smz VS:=by unfold smz;rw[List.map_reverse,List.sum_reverse]
theorem Zii:∀VS:List (Pr×T),VS.length<=smz VS
 |[]=>Oq _
 |x::VS=>by have:=Zii VS;have:=ZG x.2;rw[ZbA,Os];lia
theorem Zkq{g:Nat->Option Gc}(ns:List Str)(φ:Pr->Bool):∀{ps:List Nat}{ts:List T},Paired (Rd g) ps ts->∃VS:List (Pr×T),VS.map (·.1)=(ps.map λm=>(m,ns)).filter φ/\(∀x∈VS,Rd g x.1.1 x.2/\x.1.2=ns)/\smz VS<=(ts.map T.size).sum
 |_,_,.nil=>⟨[],rfl,λ_ h=>(by cases h),Oq _⟩
 |_,_,.cons (a:=m) (b:=t) r q=>by
  obtain⟨VS,e,hx,hz⟩:=Zkq ns φ q;rw[Op,Op,List.filter_cons,OI];cases φ (m,ns)with
  |true=>exact⟨((m,ns),t)::VS,by rw[Op,e];rfl,λx h=>(O2.mp h).elim (λz=>z ▸ ⟨r,rfl⟩) (hx x),by rw[ZbA];lia⟩
  |false=>exact⟨VS,e,hx,by lia⟩
def Zuq(H:Lw P)(n:Nat){G:List Gc}{h0 h:Hd}{kv:List (NK×D)}{W:List Pr}{m:Nat}{ns ms:List Str}{c:Gc}(s:Sf G k fk wk h0 h kv (W++[(m,ns)]))(hn:ns.length<=2)(e:G[m]? = Wn c)(some':((wn c ns).filter λp=>!inN kv p)≠[])(hl:W.length<=1000)(a b d:Option D):∃h' a' b' d',xs2 (P.tbl (n+3)) Z6 (ef k r fk wk ms a b d) h=.ok (.nx,ef k r fk wk ms a' b' d') h'/\Sf G k fk wk h0 h' kv (W++[(m,ns)]++(wn c ns).filter λp=>!inN kv p):=by obtain⟨i,j,h',x1,_,h2,x2,ki,kj,⟨g,rfl⟩,li,lj⟩:=Zsp H n (r:=r) (ms:=ms) s hn e a b d;have lw3:((wn c ns).filter λp=>!inN kv p).length<=3:=OE (List.length_filter_le _ _) (OE (List.length_filter_le _ _) (by unfold bn;rw[Yt];exact Zfs c));generalize ((wn c ns).filter λp=>!inN kv p)=U at *;have kw:(h++g)[wk]? = Wn (.lst ((W++[(m,ns)]).map pD)):=keep s.w;have kc:(h++g)[k]? = Wn (cl G):=keep s.c;have kf:(h++g)[fk]? = Wn (.dnk kv):=keep s.f;have fm:Fm [fk,wk] h0 (h++g):=s.m.trans .app;obtain⟨n1,n2⟩:=s.ne;have lw:=Zx s.w;generalize h++g=h2 at *;have te:tst (P.tbl (n+3)) Zao (ef k r fk wk ms (Wn (.ref i)) (Wn (.ref j)) d) h2=.ok Wp h2:=Zq (Zjb (i:=j) rfl kj) (by cases U with|nil=>exact absurd rfl some'|cons=>rfl);have x3:xs1 (P.tbl (n+3)) ZaI (ef k r fk wk ms (Wn (.ref i)) (Wn (.ref j)) d) h2=.ok (.nx,ef k r fk wk ms (Wn (.ref i)) (Wn (.ref j)) d) _:=ZfU (ZiH (i:=wk) rfl kw rfl (Zjz kw kj (by lia) (by simp;lia)));refine⟨_,_,_,_,(Za x1).trans ((Za x2).trans ((Za ((Zu te).trans ((Za x3).trans rfl))).trans rfl)),?_⟩;exact⟨by rw[Oc (λz=>s.nk z.symm)];exact kc,by rw[Oc (λz=>n2 z.symm)];exact kf,by rw[Ol (Zx kw),List.map_append (l₁:=W++[(m,ns)])],fm.trans (.set (by simp)),s.ok,s.cd,s.nk⟩
def Zpl(n:Nat){G:List Gc}{h0 h:Hd}{kv:List (NK×D)}{W:List Pr}(s:Sf G k fk wk h0 h kv W)(a b d:Option D):tst (P.tbl (n+3)) ZC (ef k r fk wk ms a b d) h=.ok (!W.isEmpty) h:=Zq (Zjb (i:=wk) rfl s.w) (by rw[List.isEmpty_map])
def Gf(P:Pg)(n:Nat)(G:List Gc)(k fk wk:Nat)(h0:Hd)(r:Nat)(ms:List Str)(z:Nat)(W U:List Pr)(h:Hd)(kv:List (NK×D))(a b d:Option D):Prop:=∃q h' kv' a' b' d',q<=2 * z/\(∀F,lf P n (F+q) (ef k r fk wk ms a b d) h=lf P n F (ef k r fk wk ms a' b' d') h')/\Sf G k fk wk h0 h' kv' W/\kv'.length<=kv.length+q/\(∀p,inN kv p=Wp->inN kv' p=Wp)/\∀p∈U,inN kv' p=Wp
theorem Zwk(H:Lw P)(n:Nat){G:List Gc}{h0:Hd}{r:Nat}{ms:List Str}:∀(z:Nat) (t:T) (m:Nat) (ns:List Str) (W:List Pr) (h:Hd) (kv:List (NK×D)) (a b d:Option D),t.size<=z->Rd (gl G) m t->ns.length<=2->Sf G k fk wk h0 h kv (W++[(m,ns)])->W.length+t.size<=1000->kv.length+2 * t.size<=100000->Gf P n G k fk wk h0 r ms t.size W [(m,ns)] h kv a b d
 |0,t,m,ns,W,h,kv,a,b,d,hz,_,_,_,_,_=>by have:=ZG t;lia
 |z+1,t,m,ns,W,h,kv,a,b,d,hz,rd,hn,s,hW,hk=>by
  have L:∀(VS:List (Pr×T)) (W:List Pr) (h:Hd) (kv:List (NK×D)) (a b d:Option D),(∀x∈VS,Rd (gl G) x.1.1 x.2/\x.1.2.length<=2)->smz VS<=z->Sf G k fk wk h0 h kv (W++(VS.map (·.1)).reverse)->W.length+smz VS<=1000->kv.length+2 * smz VS<=100000->Gf P n G k fk wk h0 r ms (smz VS) W (VS.map (·.1)) h kv a b d:=by
   intro VS;induction VS with
   |nil=>intro W h kv a b d _ _ s _ _;exact⟨0,h,kv,a,b,d,Yw _,λF=>rfl,by simpa using s,Oq _,λ_ x=>x,λ_ h=>by cases h⟩
   |cons x VS ih=>
    intro W h kv a b d hx hz s hW hk;rw[ZbA]at hz hW hk;have lv:=Zii VS;obtain⟨r1,r2⟩:=hx x (.head _);obtain⟨q1,h1,kv1,a1,b1,d1,l1,e1,s1,v1,m1,i1⟩:=Zwk H n z x.2 x.1.1 x.1.2 (W++(VS.map (·.1)).reverse) h kv a b d (by lia) r1 r2 (by simpa using s) (by simp;lia) (by lia);obtain⟨q2,h2,kv2,a2,b2,d2,l2,e2,s2,v2,m2,i2⟩:=ih W h1 kv1 a1 b1 d1 (λy hy=>hx y (.tail _ hy)) (by lia) s1 (by lia) (by lia);refine⟨q2+q1,h2,kv2,a2,b2,d2,by rw[ZbA];lia,λF=>?_,s2,by lia,λp hp=>m2 p (m1 p hp),λp hp=>?_⟩
    . rw[<- Nat.add_assoc,e1,e2]
    . rw[Op]at hp;rcases O2.mp hp with rfl|hp
      . exact m2 _ (i1 _ (.head _))
      . exact i2 p hp
  obtain⟨c,e,f,pp,_⟩:=rd.at;have sz:=Zi t;have ts:tst (P.tbl (n+3)) ZC (ef k r fk wk ms a b d) h=.ok Wp h:=Zq (Zpl n s a b d) (by simp);by_cases all:∀p∈wn c ns,inN kv p=Wp
  . obtain⟨h1,a1,b1,d1,e1,s1⟩:=Zsq H n (r:=r) (ms:=ms) s hn e f pp all (by lia) a b d;exact⟨1,h1,_,a1,b1,d1,by lia,λF=>ZcD ts e1,s1,ZlO _ _ _,λp hp=>by rw[ZgP,hp,Bool.or_true],λp hp=>by rw[Ox.mp hp,ZgP];simp⟩
  . have ne:((wn c ns).filter λp=>!inN kv p)≠[]:=λz=>all λp hp=>by simpa using List.filter_eq_nil_iff.mp z p hp
    obtain⟨h1,a1,b1,d1,e1,s1⟩:=Zuq H n (r:=r) (ms:=ms) s hn e ne (by lia) a b d;obtain⟨VS,eV,hV,zV⟩:=Zkq (g:=gl G) (rs ns c.bd) (λp=>(!inN kv p)&&!p.2.isEmpty) pp;have eU:((wn c ns).filter λp=>!inN kv p)=VS.map (·.1):=by rw[eV];unfold wn bn;rw[List.filter_filter]
    rw[eU]at s1;have rl:=Zn1 ns c.bd;obtain⟨q2,h2,kv2,a2,b2,d2,l2,e2,s2,v2,m2,i2⟩:=L VS.reverse (W++[(m,ns)]) h1 kv a1 b1 d1 (λx hx=>⟨(hV x (List.mem_reverse.mp hx)).1,by rw[(hV x (List.mem_reverse.mp hx)).2];lia⟩) (by rw[Zgd];lia) (by rw[List.map_reverse,List.reverse_reverse];exact s1) (by rw[Zgd];simp;lia) (by rw[Zgd];lia);have all2:∀p∈wn c ns,inN kv2 p=Wp:=λp hp=>by
     cases w:inN kv p with
     |true=>exact m2 p w
     |false=>exact i2 p (by rw[List.map_reverse,List.mem_reverse,<- eU];exact List.mem_filter.mpr ⟨hp,by rw[w];rfl⟩)
    rw[Zgd]at l2;have ts2:tst (P.tbl (n+3)) ZC (ef k r fk wk ms a2 b2 d2) h2=.ok Wp h2:=Zq (Zpl n s2 a2 b2 d2) (by simp);obtain⟨h3,a3,b3,d3,e3,s3⟩:=Zsq H n (r:=r) (ms:=ms) s2 hn e f pp all2 (by lia) a2 b2 d2;refine⟨1+q2+1,h3,_,a3,b3,d3,by lia,λF=>?_,s3,OE (ZlO _ _ _) (by lia),λp hp=>by rw[ZgP,m2 p hp,Bool.or_true],λp hp=>by rw[Ox.mp hp,ZgP];simp⟩;have w1:lf P n (F+1+q2+1) (ef k r fk wk ms a b d) h=lf P n (F+1+q2) (ef k r fk wk ms a1 b1 d1) h1:=ZcD ts e1;have w3:lf P n (F+1) (ef k r fk wk ms a2 b2 d2) h2=lf P n F (ef k r fk wk ms a3 b3 d3) h3:=ZcD ts2 e3;rw[show F+(1+q2+1)=F+1+q2+1 by lia,w1,e2,w3]
def Zs9(H:Lw P)(n:Nat){G:List Gc}{h:Hd}{m:Nat}{ns:List Str}{t:T}(hk:h[k]? = Wn (cl G))(rd:Rd (gl G) m t)(hz:t.size<=120)(hn:ns.length<=2):∃h' fk kv,run P (n+4) (O "free_beneath") [.ref k,nI m,nD ns] h=.ok (.ref fk) h'/\h'[fk]? = Wn (.dnk kv)/\h.length<=fk/\Fm [] h h'/\ZhD G kv/\ZnE G kv/\inN kv (m,ns)=Wp:=by
 have big:=H.b.big;have lk:=Zx hk;have s0:Sf G k h.length (h.length+1) h (h++[DO.dnk [],.lst [pD (m,ns)]]) [] ([]++[(m,ns)]):=⟨keep hk,ZaH,ZrV,.app,λp v e=>(by cases e),λp e=>(by cases e),by lia⟩
 obtain⟨q,h1,kv,a,b,d,l1,e1,s1,_,_,i1⟩:=Zwk H n (r:=m) (ms:=ns) t.size t m ns [] _ [] Wo Wo Wo (Oq _) rd hn s0 (by simp;lia) (by simp;lia);have te:tst (P.tbl (n+3)) ZC (ef k m h.length (h.length+1) ns a b d) h1=.ok Wq h1:=Zpl n s1 a b d;obtain⟨F,hF⟩:∃F,P.L=F+1+q:=⟨P.L - 1 - q,by lia⟩
 have w:lf P n P.L (ef k m h.length (h.length+1) ns Wo Wo Wo) (h++[DO.dnk [],.lst [pD (m,ns)]])=.ok (.nx,ef k m h.length (h.length+1) ns a b d) h1:=by rw[hF,e1];exact Zgc te
 refine⟨h1,h.length,kv,?_,s1.f,Oq _,s1.m.cut (λi hi=>.inr (by simp at hi;lia)),s1.ok,s1.cd,i1 _ (.head _)⟩;rw[Zd H.free_beneath rfl];have x1:xs1 (P.tbl (n+3)) ZcC [Wn (.ref k),Wn (nI m),Wn (nD ns),Wo,Wo,Wo,Wo,Wo] h=.ok (.nx,[Wn (.ref k),Wn (nI m),Wn (nD ns),Wn (.ref h.length),Wo,Wo,Wo,Wo]) (h++[.dnk []]):=Zl (i:=3) rfl;have x2:xs1 (P.tbl (n+3)) ZcB [Wn (.ref k),Wn (nI m),Wn (nD ns),Wn (.ref h.length),Wo,Wo,Wo,Wo] (h++[.dnk []])=.ok (.nx,ef k m h.length (h.length+1) ns Wo Wo Wo) (h++[.dnk [],.lst [pD (m,ns)]]):=by
  have q:ev (P.tbl (n+3)) (.lstl (.cons (.tupl (.cons (.var 1) (.cons (.var 2) .nil))) .nil)) [Wn (.ref k),Wn (nI m),Wn (nD ns),Wn (.ref h.length),Wo,Wo,Wo,Wo] (h++[.dnk []])=.ok (.ref (h.length+1)) (h++[.dnk [],.lst [pD (m,ns)]]):=by rw[Znr (xs:=[pD (m,ns)]) (Zc (ZaA (xs:=[nI m,nD ns]) rfl (by simp)) rfl) (by simp)];simp
  exact Zl (i:=4) q
 have wv:xs2 (P.tbl (n+3)) ZdM [Wn (.ref k),Wn (nI m),Wn (nD ns),Wo,Wo,Wo,Wo,Wo] h=.ok (.rt (.ref h.length),_) h1:=(Za x1).trans ((Za x2).trans ((Za (s:=ZcA) (ZeH.trans w)).trans (Zb (Zm rfl))));exact congrArg Ze wv
structure Adr where
 o:Nat
 k:Nat
 m:Nat
 f:Nat
 n:Nat
 w:Nat
noncomputable def cpD(A:Adr):DO:=.ins (O "Copier") [(O "cells",.ref A.k),(O "meant",.ref A.m),(O "free",.ref A.f),(O "known",.ref A.n),(O "waiting",.ref A.w)]
def knF:Nat->List Pr->List (NK×D)
 |_,[]=>[]
 |i,p::r=>(pk p,nI i)::knF (i+1) r
theorem Zmb:∀(K:List Pr) (i:Nat) (p:Pr),knF i (K++[p])=knF i K++[(pk p,nI (i+K.length))]
 |[],i,p=>rfl
 |q::K,i,p=>by rw[List.cons_append,knF,Zmb K,knF,List.cons_append,Os,show i+1+K.length=i+(K.length+1) by lia]
theorem Zma:∀(K:List Pr) (i:Nat),(knF i K).length=K.length
 |[],i=>rfl
 |q::K,i=>by rw[knF,Os,Zma K,Os]
theorem ZgJ:∀(K:List Pr) (i:Nat) {p:Pr},p∈K->∃j,K[j]? = Wn p/\valN (knF i K) (pk p)=Wn (nI (i+j))
 |[],i,p,h=>by cases h
 |q::K,i,p,h=>by
  unfold valN;rw[knF,Wj];by_cases e:q=p
  . subst e;exact⟨0,rfl,by simp⟩
  . obtain⟨j,e1,e2⟩:=ZgJ K (i+1) ((O2.mp h).resolve_left λz=>e z.symm);refine⟨j+1,e1,?_⟩;rw[decide_eq_false λz=>e (Zim z)];unfold valN at e2;exact e2.trans (by rw[show i+1+j=i+(j+1) by lia])
theorem Zk1:∀(K:List Pr) (i:Nat) {p:Pr},p ∉ K->((knF i K).any λkv=>Wt (kv.1=pk p))=Wq
 |[],i,p,h=>rfl
 |q::K,i,p,h=>by rw[knF,YY,Zk1 K (i+1) λz=>h (.tail _ z),decide_eq_false λz=>h (by rw[Zim z];exact .head _)];rfl
def Zrk(K:List Pr)(i:Nat){p:Pr}(h:p ∉ K):putN (knF i K) (pk p) (nI (i+K.length))=knF i (K++[p]):=by unfold putN;rw[Zk1 K i h,if_neg (by simp),Zmb]
def Zwu(K:List Pr)(i:Nat)(p:Pr):inN (knF i K) p=Wt (p∈K):=by
 by_cases h:p∈K
 . obtain⟨j,_,e⟩:=ZgJ K i h;unfold inN;rw[e,decide_eq_true h];rfl
 . rw[decide_eq_false h];unfold inN valN;have:=Zk1 K i h;rw[Option.isSome_map];rw[List.any_eq_false]at this;rw[List.find?_eq_none.mpr this];rfl
structure Sc(A:Adr)(G:List Gc)(kv:List (NK×D))(md:List (Key×D))(h0 h:Hd)(K:List Pr)(N:List Gc)(W:List (Pr×T)):Prop where
 o:h[A.o]? = Wn (cpD A)
 c:h[A.k]? = Wn (cl (G++N))
 m:h[A.m]? = Wn (.dic md)
 f:h[A.f]? = Wn (.dnk kv)
 n:h[A.n]? = Wn (.dnk (knF G.length K))
 w:h[A.w]? = Wn (.lst (W.map λx=>pD x.1))
 fm:Fm [A.k,A.n,A.w] h0 h
 kw:A.k≠A.w
 fn:A.f≠A.n
def Std(G:List Gc)(md:List (Key×D))(K:List Pr)(p:Pr)(num:Nat):Prop:=∃t c,Rd (gl G) p.1 t/\G[p.1]? = Wn c/\((c.isV=Wp/\fin p.2 t=Wq/\num=p.1)\/(∃x,c=.name x/\x∈p.2/\ZK md (.inr x)=Wn (nI num))\/(cm p.2 c=Wq/\∃j,K[j]? = Wn p/\num=G.length+j))
def ZbS{K L:List α}{j:Nat}(e:K[j]? = Wn p):(K++L)[j]? = Wn p:=by rw[Oe (Ob.mp e).1];exact e
def Std.mono(s:Std G md K p num)(L:List Pr):Std G md (K++L) p num:=by obtain⟨t,c,a,b,d⟩:=s;refine⟨t,c,a,b,d.imp id (Or.imp id λz=>⟨z.1,?_⟩)⟩;obtain⟨_,j,e,f⟩:=z;exact⟨j,ZbS e,f⟩
structure Gd(G:List Gc)(kv:List (NK×D))(nm:List Str)(p:Pr)(t:T):Prop where
 r:Rd (gl G) p.1 t
 i:inN kv p=Wp
 e:p.2≠[]
 l:p.2.length<=2
 s:∀x∈p.2,x∈nm
structure Pu(G:List Gc)(kv:List (NK×D))(md:List (Key×D))(nm:List Str)(K:List Pr)(N:List Gc)(W:List (Pr×T))(X:List Pr):Prop where
 l:N.length=K.length
 nd:K.Nodup
 g:∀p∈K,∃t c,Gd G kv nm p t/\G[p.1]? = Wn c/\(c.isV=Wp->fin p.2 t=Wp)/\cm p.2 c=Wq
 w:∀x∈W,x.1∈K/\Rd (gl G) x.1.1 x.2
 d:∀(j:Nat) (p:Pr),K[j]? = Wn p->p ∉ W.map (·.1)->p ∉ X->∃c nums,G[p.1]? = Wn c/\N[j]? = Wn (c.wp nums)/\Paired (Std G md K) (bn c p.2) nums
noncomputable def dz(W:List (Pr×T)):Nat:=(W.map λx=>x.2.size - 1).sum
def Zpu(W:List (Pr×T))(x:Pr×T):dz (W++[x])=dz W+(x.2.size - 1):=by simp[dz]
def ZlF(W:List (Pr×T))(x:Pr×T):smz (W++[x])=smz W+x.2.size:=by simp[smz]
structure Mt(G:List Gc)(md:List (Key×D))(M:List (Str×T))(nm:List Str):Prop where
 v:∀x∈nm,∃a v,ZK md (.inr x)=Wn (nI a)/\get (M.map λp=>(p.1,Wn p.2)) x=Wn v/\Rd (gl G) a v
section
variable {U:Tb}{S:Ev}{h:Hd}{A:Adr}
def ZnA(e:h[A.o]? = Wn (cpD A))(q:ev U a S h=.ok (.ref A.o) h):ev U (.att [(O "Copier")] a (O "cells")) S h=.ok (.ref A.k) h:=by rw[Zg6,q,Zg];simp[Zeu,ZR,e,cpD,We]
def Zw1(e:h[A.o]? = Wn (cpD A))(q:ev U a S h=.ok (.ref A.o) h):ev U (.att [(O "Copier")] a (O "meant")) S h=.ok (.ref A.m) h:=by rw[Zg6,q,Zg];simp[Zeu,ZR,e,cpD,We]
def Zyo(e:h[A.o]? = Wn (cpD A))(q:ev U a S h=.ok (.ref A.o) h):ev U (.att [(O "Copier")] a (O "free")) S h=.ok (.ref A.f) h:=by rw[Zg6,q,Zg];simp[Zeu,ZR,e,cpD,We]
def ZpR(e:h[A.o]? = Wn (cpD A))(q:ev U a S h=.ok (.ref A.o) h):ev U (.att [(O "Copier")] a (O "known")) S h=.ok (.ref A.n) h:=by rw[Zg6,q,Zg];simp[Zeu,ZR,e,cpD,We]
def ZuO(e:h[A.o]? = Wn (cpD A))(q:ev U a S h=.ok (.ref A.o) h):ev U (.att [(O "Copier")] a (O "waiting")) S h=.ok (.ref A.w) h:=by rw[Zg6,q,Zg];simp[Zeu,ZR,e,cpD,We]
def ZoE{h:Hd}(e:h[i]? = Wn (.dic md)):Za8 GD (.ref i) (.str z) h=R.ofO (ZK md (.inr z)) h:=by simp[Za8,dicOf,e]
end
def Sc.ne(s:Sc A G kv md h0 h K N W):A.o≠A.k/\A.o≠A.n/\A.o≠A.w/\A.m≠A.k/\A.m≠A.n/\A.m≠A.w/\A.f≠A.k/\A.f≠A.w/\A.n≠A.k/\A.n≠A.w:=by obtain⟨o,c,m,f,n,w,_,_,_⟩:=s;have k:∀{i j:Nat}{x y:DO},h[i]? = Wn x->h[j]? = Wn y->x≠y->i≠j:=λa b c z=>c (by rw[z,b]at a;exact(YE a).symm);exact⟨k o c (by simp[cpD,cl]),k o n (by simp[cpD]),k o w (by simp[cpD]),k m c (by simp[cl]),k m n (by simp),k m w (by simp),k f c (by simp[cl]),k f w (by simp),k n c (by simp[cl]),k n w (by simp)⟩
def ZlK(H:Lw P)(n:Nat){A:Adr}{G:List Gc}{kv:List (NK×D)}{md:List (Key×D)}{nm:List Str}{M:List (Str×T)}{h0 h:Hd}{K X:List Pr}{N:List Gc}{W:List (Pr×T)}{p:Pr}{t:T}(s:Sc A G kv md h0 h K N W)(u:Pu G kv md nm K N W X)(gd:Gd G kv nm p t)(mt:Mt G md M nm)(ok:ZhD G kv)(lz:G.length+N.length<=90000)(wz:W.length<=1000):∃num h' K' N' W',run P (n+2) (mnm (O "Copier") (O "stand_in")) [.ref A.o,nI p.1,nD p.2] h=.ok (nI num) h'/\Sc A G kv md h0 h' K' N' W'/\Pu G kv md nm K' N' W' X/\Std G md K' p num/\(∃L,K'=K++L)/\K'.length+dz W'<=K.length+dz W+t.size/\smz W'<=smz W+t.size:=by
 rw[Zep H.n_Copier_stand_in H.Copier_stand_in rfl];obtain⟨c,e,f,pp,_⟩:=gd.r.at;have e':(G++N)[p.1]? = Wn c:=ZbS e;have x1:xs1 (P.tbl (n+1)) Zbn [Wn (.ref A.o),Wn (nI p.1),Wn (nD p.2),Wo] h=.ok (.nx,[Wn (.ref A.o),Wn (nI p.1),Wn (nD p.2),Wn c.d]) h:=Zl (i:=3) (ZbZ (ZnA s.o rfl) rfl s.c e');have ct:∀h',h'[A.o]? = Wn (cpD A)->h'[A.f]? = Wn (.dnk kv)->tst (P.tbl (n+1)) Zbl [Wn (.ref A.o),Wn (nI p.1),Wn (nD p.2),Wn c.d] h'=.ok (c.isV&&!fin p.2 t) h':=λh' ho hf=>by
  have t1:tst (P.tbl (n+1)) (.ex (.call (O "is_value") (.cons (.var 3) .nil))) [Wn (.ref A.o),Wn (nI p.1),Wn (nD p.2),Wn c.d] h'=.ok c.isV h':=Zaz (Zo (ZpG H n c) rfl);cases v:c.isV with
  |false=>rw[v]at t1;exact ZsB t1
  |true=>rw[v]at t1;refine ZpW t1 ?_;obtain⟨q1,q2⟩:=Zpf ok gd.i gd.r;rw[Zgq,Zaz (Zg5 (Zyo ho rfl) (ZaA (xs:=[nI p.1,nD p.2]) rfl (by simp)) hf q1),Zg,q2];rfl
 have cv:=ct h s.o s.f;have ce:tst (P.tbl (n+1)) Zbk [Wn (.ref A.o),Wn (nI p.1),Wn (nD p.2),Wn c.d] h=.ok (cm p.2 c) h:=Zaz (Zo (ZlM H n c p.2 h) rfl);have tz:=ZG t;cases v:(c.isV&&!fin p.2 t)with
 |true=>rw[v]at cv;have w:xs2 (P.tbl (n+1)) ZJ [Wn (.ref A.o),Wn (nI p.1),Wn (nD p.2),Wo] h=.ok (.rt (nI p.1),_) h:=(Za x1).trans (Zb ((Zu cv).trans (Zb (Zm rfl))));simp only[Oa,Bool.not_eq_true']at v;exact⟨p.1,h,K,N,W,congrArg Ze w,s,u,⟨t,c,gd.r,e,.inl ⟨v.1,v.2,rfl⟩⟩,⟨[],by simp⟩,by lia,by lia⟩
 |false=>
  rw[v]at cv;have x2:=(Zs (a:=Zbh) (b:=.nil) cv).trans rfl;cases z:cm p.2 c with
  |true=>
   rw[z]at ce;obtain⟨x,hc,hx⟩:∃x,c=.name x/\x∈p.2:=by cases c<;>simp only[cm,OG]at z;exact⟨_,rfl,of_decide_eq_true z⟩
   subst hc;obtain⟨a,val,ea,_,_⟩:=mt.v x (gd.s x hx);have q:ev (P.tbl (n+1)) (.ix (.att [(O "Copier")] (.var 0) (O "meant")) (.ix (.var 3) (.ci 1))) [Wn (.ref A.o),Wn (nI p.1),Wn (nD p.2),Wn (Gc.name x).d] h=.ok (nI a) h:=(ZD (Zw1 s.o rfl) (y:=.str x) rfl).trans ((ZoE s.m).trans (by rw[ea];rfl));have w:xs2 (P.tbl (n+1)) ZJ [Wn (.ref A.o),Wn (nI p.1),Wn (nD p.2),Wo] h=.ok (.rt (nI a),_) h:=(Za x1).trans ((Za x2).trans (Zb ((Zu ce).trans (Zb (Zm q)))));exact⟨a,h,K,N,W,congrArg Ze w,s,u,⟨t,_,gd.r,e,.inr (.inl ⟨x,rfl,hx,ea⟩)⟩,⟨[],by simp⟩,by lia,by lia⟩
  |false=>
   rw[z]at ce;have x3:=(Zs (a:=Zbg) (b:=.nil) ce).trans rfl;have tp:∀h',ev (P.tbl (n+1)) (.tupl (.cons (.var 1) (.cons (.var 2) .nil))) [Wn (.ref A.o),Wn (nI p.1),Wn (nD p.2),Wn c.d] h'=.ok (pD p) h':=λh'=>ZaA (xs:=[nI p.1,nD p.2]) rfl (by simp);have cn:tst (P.tbl (n+1)) Zbj [Wn (.ref A.o),Wn (nI p.1),Wn (nD p.2),Wn c.d] h=.ok (!Wt (p∈K)) h:=Zaz ((Zpo (tp h) (ZpR s.o rfl) s.n).trans (by rw[Zwu]));by_cases hp:p∈K
   . rw[decide_eq_true hp]at cn;obtain⟨j,ej,ev'⟩:=ZgJ K G.length hp;have x4:=(Zs (a:=Zbf) (b:=.nil) cn).trans rfl;have w:xs2 (P.tbl (n+1)) ZJ [Wn (.ref A.o),Wn (nI p.1),Wn (nD p.2),Wo] h=.ok (.rt (nI (G.length+j)),_) h:=(Za x1).trans ((Za x2).trans ((Za x3).trans ((Za x4).trans (Zb (Zm (Zg5 (ZpR s.o rfl) (tp h) s.n ev'))))));exact⟨_,h,K,N,W,congrArg Ze w,s,u,⟨t,c,gd.r,e,.inr (.inr ⟨z,j,ej,rfl⟩)⟩,⟨[],by simp⟩,by lia,by lia⟩
   . rw[decide_eq_false hp]at cn;obtain⟨n1,n2,n3,n4,n5,n6,n7,n8,n9,n10⟩:=s.ne;have kw:=s.kw;have lK:K.length=N.length:=u.l.symm;have q1:ev (P.tbl (n+1)) (.blt .len (.cons (.att [(O "Copier")] (.var 0) (O "cells")) .nil)) [Wn (.ref A.o),Wn (nI p.1),Wn (nD p.2),Wn c.d] h=.ok (nI (G.length+K.length)) h:=Zev (Zc (ZnA s.o rfl) rfl) ((ZjB s.c).trans (by rw[lK];simp[nI]));have y1:=Zsk (o:=.att [(O "Copier")] (.var 0) (O "known")) q1 (ZpR s.o rfl) (tp h) s.n (by rw[Zma];lia);rw[Zrk K G.length hp]at y1;have o1:(h.set A.n (.dnk (knF G.length (K++[p]))))[A.o]? = Wn (cpD A):=by rw[Oc n2.symm];exact s.o
     have c1:(h.set A.n (.dnk (knF G.length (K++[p]))))[A.k]? = Wn (cl (G++N)):=by rw[Oc n9];exact s.c
     have m1:(h.set A.n (.dnk (knF G.length (K++[p]))))[A.m]? = Wn (.dic md):=by rw[Oc n5.symm];exact s.m
     have f1:(h.set A.n (.dnk (knF G.length (K++[p]))))[A.f]? = Wn (.dnk kv):=by rw[Oc s.fn.symm];exact s.f
     have k1:(h.set A.n (.dnk (knF G.length (K++[p]))))[A.n]? = Wn (.dnk (knF G.length (K++[p]))):=by rw[Ol (Zx s.n)]
     have w1:(h.set A.n (.dnk (knF G.length (K++[p]))))[A.w]? = Wn (.lst (W.map λx=>pD x.1)):=by rw[Oc n10];exact s.w
     have fm1:Fm [A.k,A.n,A.w] h0 (h.set A.n (.dnk (knF G.length (K++[p])))):=s.fm.trans (.set (by simp));generalize h.set A.n (.dnk (knF G.length (K++[p])))=h1 at *;have y2:xs1 (P.tbl (n+1)) ZaF [Wn (.ref A.o),Wn (nI p.1),Wn (nD p.2),Wn c.d] h1=.ok (.nx,[Wn (.ref A.o),Wn (nI p.1),Wn (nD p.2),Wn c.d]) (h1.set A.k (cl (G++(N++[c])))):=by rw[show cl (G++(N++[c]))=.lst ((G++N).map Gc.d++[c.d]) by simp[cl]];exact ZfU (ZiH (ZnA o1 rfl) c1 rfl (ZbE c1 (by rw[YB];simp;lia)))
     have o2:(h1.set A.k (cl (G++(N++[c]))))[A.o]? = Wn (cpD A):=by rw[Oc n1.symm];exact o1
     have c2:(h1.set A.k (cl (G++(N++[c]))))[A.k]? = Wn (cl (G++(N++[c]))):=by rw[Ol (Zx c1)]
     have m2:(h1.set A.k (cl (G++(N++[c]))))[A.m]? = Wn (.dic md):=by rw[Oc n4.symm];exact m1
     have f2:(h1.set A.k (cl (G++(N++[c]))))[A.f]? = Wn (.dnk kv):=by rw[Oc n7.symm];exact f1
     have k2:(h1.set A.k (cl (G++(N++[c]))))[A.n]? = Wn (.dnk (knF G.length (K++[p]))):=by rw[Oc n9.symm];exact k1
     have w2:(h1.set A.k (cl (G++(N++[c]))))[A.w]? = Wn (.lst (W.map λx=>pD x.1)):=by rw[Oc kw];exact w1
     have fm2:Fm [A.k,A.n,A.w] h0 (h1.set A.k (cl (G++(N++[c])))):=fm1.trans (.set (by simp));generalize h1.set A.k (cl (G++(N++[c])))=h2 at *;have y3:xs1 (P.tbl (n+1)) ZaE [Wn (.ref A.o),Wn (nI p.1),Wn (nD p.2),Wn c.d] h2=.ok (.nx,[Wn (.ref A.o),Wn (nI p.1),Wn (nD p.2),Wn c.d]) (h2.set A.w (.lst ((W++[(p,t)]).map λx=>pD x.1))):=by rw[List.map_append];exact ZfU (ZiH (ZuO o2 rfl) w2 (Zc (tp h2) rfl) (ZbE w2 (by rw[YB];simp;lia)))
     have s3:Sc A G kv md h0 (h2.set A.w (.lst ((W++[(p,t)]).map λx=>pD x.1))) (K++[p]) (N++[c]) (W++[(p,t)]):=⟨by rw[Oc n3.symm];exact o2,by rw[Oc kw.symm];exact c2,by rw[Oc n6.symm];exact m2,by rw[Oc n8.symm];exact f2,by rw[Oc n10.symm];exact k2,by rw[Ol (Zx w2)],fm2.trans (.set (by simp)),kw,s.fn⟩
     have ej:(K++[p])[K.length]? = Wn p:=by simp
     obtain⟨j,ej',ev'⟩:=ZgJ (K++[p]) G.length (p:=p) (by simp);have nd':(K++[p]).Nodup:=List.nodup_append.mpr ⟨u.nd,by simp,λa ha b hb=>by rw[Ox.mp hb];exact λz=>hp (z ▸ ha)⟩;have w:xs2 (P.tbl (n+1)) ZJ [Wn (.ref A.o),Wn (nI p.1),Wn (nD p.2),Wo] h=.ok (.rt (nI (G.length+j)),_) _:=(Za x1).trans ((Za x2).trans ((Za x3).trans ((Za ((Zu cn).trans ((Za y1).trans ((Za y2).trans ((Za y3).trans rfl))))).trans (Zb (Zm (Zg5 (ZpR s3.o rfl) (tp _) s3.n ev'))))));refine⟨_,_,_,_,_,congrArg Ze w,s3,?_,⟨t,c,gd.r,e,.inr (.inr ⟨z,j,ej',rfl⟩)⟩,⟨[p],rfl⟩,by rw[Zpu];simp;lia,by rw[ZlF];exact Oq _⟩;refine⟨by simp[u.l],nd',λq hq=>?_,λx hx=>?_,λj q hj hw hX=>?_⟩
     . rcases OD.mp hq with hq|hq
       . exact u.g q hq
       . rw[Ox.mp hq];exact⟨t,c,gd,e,λhv=>by rw[hv,Bool.true_and]at v;simpa using v,z⟩
     . rcases OD.mp hx with hx|hx
       . exact⟨Yr _ (u.w x hx).1,(u.w x hx).2⟩
       . rw[Ox.mp hx];exact⟨by simp,gd.r⟩
     . rw[List.map_append,OD,not_or]at hw;have hj':K[j]? = Wn q:=by
        rcases Nat.lt_or_ge j K.length with l|l
        . rwa [Oe l]at hj
        . rw[Om l]at hj;have hm:q∈[p]:=O1 hj;exact absurd (by simpa using hm) (by simpa using hw.2)
       obtain⟨c',nums,a1,a2,a3⟩:=u.d j q hj' hw.1 hX;exact⟨c',nums,a1,ZbS a2,Paired.mapP a3 λ_ _ z=>z.mono [p]⟩
end
section
variable {P:Pg}
def mst:Ex:=(.mcl (O "Copier") (O "stand_in") (.v 2) (.c (.v 0) (.c (.v 1) .n)))
def Sc.re(s:Sc A G kv md h0 h K N W):Sc A G kv md h h K N W:={s with fm:=.refl}
theorem Zmx(H:Lw P)(n:Nat){A:Adr}{G:List Gc}{kv:List (NK×D)}{md:List (Key×D)}{nm:List Str}{M:List (Str×T)}{h0:Hd}{X:List Pr}(mt:Mt G md M nm)(ok:ZhD G kv){bl:Nat}{L:List D}(hb:h0[bl]? = Wn (.lst L))(nb:bl ∉ [A.k,A.n,A.w]):∀(qs:List (Pr×T)) (acc:List D) (h:Hd) (K:List Pr) (N:List Gc) (W:List (Pr×T)),Sc A G kv md h0 h K N W->Pu G kv md nm K N W X->(∀x∈qs,Gd G kv nm x.1 x.2)->acc.length+qs.length<=1000->G.length+(K.length+dz W+smz qs)<=90000->smz W+smz qs<=1000->∃nums h' K' N' W',Zz [(bl,L)] (.two 0 1) (tsto (P.tbl (n+2)) Wo) (ev (P.tbl (n+2)) mst) (qs.map λx=>pD x.1) [Wo,Wo,Wn (.ref A.o)] acc h=.ok (acc++nums.map nI) h'/\Sc A G kv md h0 h' K' N' W'/\Pu G kv md nm K' N' W' X/\Paired (Std G md K') (qs.map (·.1)) nums/\(∃L,K'=K++L)/\K'.length+dz W'<=K.length+dz W+smz qs/\smz W'<=smz W+smz qs
 |[],acc,h,K,N,W,s,u,_,_,_,_=>⟨[],h,K,N,W,by simp[Zz,Zfq (s.fm.at hb nb)],s,u,.nil,⟨[],by simp⟩,by lia,by lia⟩
 |x::qs,acc,h,K,N,W,s,u,hq,hz,hg,hw=>by
  rw[ZbA]at hg hw;rw[Os]at hz;have lw:=Zii W;have lN:=u.l;obtain⟨num,h1,K1,N1,W1,e1,s1,u1,d1,⟨L1,z1⟩,b1,c1⟩:=ZlK H n s u (hq x (.head _)) mt ok (by lia) (by lia);obtain⟨nums,h2,K2,N2,W2,e2,s2,u2,d2,⟨L2,z2⟩,b2,c2⟩:=Zmx H n mt ok hb nb qs (acc++[nI num]) h1 K1 N1 W1 s1 u1 (λy hy=>hq y (.tail _ hy)) (by simp;lia) (by lia) (by lia);refine⟨num::nums,h2,K2,N2,W2,?_,s2,u2,.cons (by rw[z2];exact d1.mono L2) d2,⟨L1++L2,by rw[z2,z1,Oz]⟩,by rw[ZbA];lia,by rw[ZbA];lia⟩;have lt:acc.length<sizeLine:=by rw[YB];lia
  have q:ev (P.tbl (n+2)) mst [Wn (nI x.1.1),Wn (nD x.1.2),Wn (.ref A.o)] h=.ok (nI num) h1:=ZhV (i:=A.o) rfl s.o rfl rfl e1;rw[Op,Zz,if_pos ⟨Zfq (s.fm.at hb nb),lt⟩];show((ev (P.tbl (n+2)) mst [Wn (nI x.1.1),Wn (nD x.1.2),Wn (.ref A.o)] h).plain.bind λy h2=>Zz [(bl,L)] (.two 0 1) (tsto (P.tbl (n+2)) Wo) (ev (P.tbl (n+2)) mst) (qs.map λx=>pD x.1) [Wo,Wo,Wn (.ref A.o)] (acc++[y]) h2)=_;rw[q];exact e2.trans (by simp)
theorem Paired.len{F:α->β->Prop}:∀{l₁:List α}{l₂:List β},Paired F l₁ l₂->l₁.length=l₂.length
 |_,_,.nil=>rfl
 |_,_,.cons _ q=>by rw[Os,Os,Paired.len q]
def Zof{h:Hd}{G:List Gc}{c:Gc}{i:Nat}(e:h[k]? = Wn (cl G))(hi:i<G.length):Zau (.ref k) (nI i) c.d h=.ok () (h.set k (cl (G.set i c))):=by
 have:ixN (G.map Gc.d).length (i:Int)=Wn i:=by unfold ixN;rw[if_pos (by lia),if_pos (by simp;lia)];simp
 unfold Zau;simp only[e,cl,nI];simp only[this,List.map_set]
def Zsf{U:Tb}{S:Ev}{h h1 h2 h3 h4:Hd}{o i e:Ex}(p:ev U e S h=.ok x h1)(q:ev U o S h1=.ok y h2)(r:ev U i S h2=.ok z h3)(s:Zau y z x h3=.ok () h4):xs1 U (.put o i e) S h=.ok (.nx,S) h4:=by rw[Zid,p,Zg,q,Zg,r,Zg,s];rfl
def Zuf{c:Gc}(h:c.isV=Wq):c.bd=[]:=by cases c<;>first|rfl|cases h
def Zum(c:Gc):c.fr.length<=3:=by cases c<;>simp[Gc.fr]
def Zqk(H:Lw P)(n:Nat){A:Adr}{G:List Gc}{kv:List (NK×D)}{md:List (Key×D)}{nm:List Str}{M:List (Str×T)}{h0 h:Hd}{K:List Pr}{N:List Gc}{W:List (Pr×T)}{p:Pr}{t:T}(s:Sc A G kv md h0 h K N (W++[(p,t)]))(u:Pu G kv md nm K N (W++[(p,t)]) [])(mt:Mt G md M nm)(ok:ZhD G kv)(cd:ZnE G kv)(hg:G.length+(K.length+dz (W++[(p,t)]))<=90000)(hw:smz (W++[(p,t)])<=1000):∃h' K' N' W',run P (n+3) (mnm (O "Copier") (O "write_next")) [.ref A.o] h=.ok .non h'/\Sc A G kv md h0 h' K' N' W'/\Pu G kv md nm K' N' W' []/\(∃L,K'=K++L)/\K'.length+dz W'<=K.length+dz (W++[(p,t)])/\smz W'+1<=smz (W++[(p,t)]):=by
 rw[Zep H.n_Copier_write_next H.Copier_write_next rfl];obtain⟨hpK,rdp⟩:=u.w (p,t) (by simp);obtain⟨t',c,gd,e,hv,hc⟩:=u.g p hpK;have tt:=rdp.one gd.r;simp only at tt;subst tt;obtain⟨c',e',f,pp,_⟩:=gd.r.at;rw[e]at e';cases e';obtain⟨n1,n2,n3,n4,n5,n6,n7,n8,n9,n10⟩:=s.ne;have kw:=s.kw;have ws:h[A.w]? = Wn (.lst ((W.map λx=>pD x.1)++[pD p])):=by rw[s.w];simp
 have x1:xs1 (P.tbl (n+2)) ZaM [Wn (.ref A.o),Wo,Wo] h=.ok (.nx,[Wn (.ref A.o),Wn (pD p),Wo]) (h.set A.w (.lst (W.map λx=>pD x.1))):=Zl (i:=1) (ZiH (ZuO s.o rfl) ws rfl (ZeS ws));have s1:Sc A G kv md h0 (h.set A.w (.lst (W.map λx=>pD x.1))) K N W:=⟨by rw[Oc n3.symm];exact s.o,by rw[Oc kw.symm];exact s.c,by rw[Oc n6.symm];exact s.m,by rw[Oc n8.symm];exact s.f,by rw[Oc n10.symm];exact s.n,by rw[Ol (Zx s.w)],s.fm.trans (.set (by simp)),kw,s.fn⟩
 have u1:Pu G kv md nm K N W [p]:=⟨u.l,u.nd,u.g,λx hx=>u.w x (Yr _ hx),λj q hj hq hX=>u.d j q hj (by rw[List.map_append,OD,not_or];exact⟨hq,by simpa using hX⟩) (by simp)⟩
 generalize h.set A.w (.lst (W.map λx=>pD x.1))=h1 at *;have e2:(G++N)[p.1]? = Wn c:=ZbS e;have rb:=ZhL H n s1.c e2 p.2 gd.l;have q1:ev (P.tbl (n+2)) (.call (O "beneath") (.cons (.att [(O "Copier")] (.var 0) (O "cells")) (.cons (.ix (.var 1) (.ci 0)) (.cons (.ix (.var 1) (.ci 1)) .nil)))) [Wn (.ref A.o),Wn (pD p),Wo] h1=_:=Zo rb (Zc (ZnA s1.o rfl) (Zc (ZqR (p:=p) rfl) (Zc (ZqQ (p:=p) rfl) rfl)));have b2:(h1++[DO.lst ((rs p.2 c.bd).map .str),.lst ((bn c p.2).map pD)])[h1.length+1]? = Wn (.lst ((bn c p.2).map pD)):=ZrV;have f2:Fm [A.k,A.n,A.w] h1 (h1++[DO.lst ((rs p.2 c.bd).map .str),.lst ((bn c p.2).map pD)]):=.app;have s2:Sc A G kv md h0 (h1++[DO.lst ((rs p.2 c.bd).map .str),.lst ((bn c p.2).map pD)]) K N W:=⟨keep s1.o,keep s1.c,keep s1.m,keep s1.f,keep s1.n,keep s1.w,s1.fm.trans .app,kw,s.fn⟩
 have nb:h1.length+1 ∉ [A.k,A.n,A.w]:=by
  have:=Zx s1.c;have:=Zx s1.n;have:=Zx s1.w;simp
  lia
 generalize h1++[DO.lst ((rs p.2 c.bd).map .str),.lst ((bn c p.2).map pD)]=h2 at *;have ei:=ZjW q1 b2;obtain⟨VS,eV,hV,zV⟩:=Zkq (g:=gl G) (rs p.2 c.bd) (λ_=>Wp) pp;have eV':VS.map (·.1)=bn c p.2:=eV.trans (List.filter_eq_self.mpr λ_ _=>rfl);have rne:∀x∈VS,rs p.2 c.bd≠[]:=λx hx=>by
  cases v:c.isV with
  |false=>rw[Zuf v,Zn0];exact gd.e
  |true=>have:=hv v;rw[Zph,<- Zlf f,hc,Bool.false_or,<- (Zdm f).2.1]at this;intro z;rw[z]at this;obtain⟨y,_,hy⟩:=List.any_eq_true.mp this;rw[Z5]at hy;cases hy
 have rl:=Zn1 p.2 c.bd;have gl2:=gd.l;have gV:∀x∈VS,Gd G kv nm x.1 x.2:=λx hx=>by
  obtain⟨a,b⟩:=hV x hx;have mem:x.1∈bn c p.2:=by rw[<- eV'];exact List.mem_map_of_mem hx
  have ne:x.1.2≠[]:=by rw[b];exact rne x hx
  exact⟨a,cd p gd.i c e x.1 mem ne,ne,by rw[b];lia,λy hy=>gd.s y (by rw[b]at hy;exact(List.mem_filter.mp hy).1)⟩
 have sz:=Zi t;have lc:=Zfs c;have lV:VS.length<=3:=by rw[<- Yt (f:=(·.1)),eV'];unfold bn;rw[Yt];exact lc
 rw[Zpu]at hg ⊢;rw[ZlF]at hw ⊢;simp only at hg hw ⊢;obtain⟨nums,h3,K3,N3,W3,e3,s3,u3,d3,⟨L3,z3⟩,b3,c3⟩:=Zmx H n mt ok b2 nb VS [] h2 K N W s2.re u1 gV (by simp;lia) (by lia) (by lia);rw[show VS.map (λx=>pD x.1)=(bn c p.2).map pD by rw[<- eV',List.map_map];rfl]at e3;have x2:xs1 (P.tbl (n+2)) ZaL [Wn (.ref A.o),Wn (pD p),Wo] h1=.ok (.nx,[Wn (.ref A.o),Wn (pD p),Wn (.ref h3.length)]) (h3++[.lst (nums.map nI)]):=Zl (i:=2) (Zfb ei e3);have k4:(h3++[DO.lst (nums.map nI)])[h3.length]? = Wn (.lst (nums.map nI)):=ZaH;have s4:Sc A G kv md h0 (h3++[DO.lst (nums.map nI)]) K3 N3 W3:=⟨keep s3.o,keep s3.c,keep s3.m,keep s3.f,keep s3.n,keep s3.w,(s2.fm.trans s3.fm).trans .app,kw,s.fn⟩
 generalize h3++[DO.lst (nums.map nI)]=h4 at *;have ln:nums.length=c.ps.length:=by rw[<- Paired.len d3,eV'];unfold bn;rw[Yt]
 have e4:(G++N3)[p.1]? = Wn c:=ZbS e;obtain⟨w1,w2⟩:=Zr1 (c:=c) ln;have pK3:p∈K3:=by rw[z3];exact Yr _ hpK
 obtain⟨j,ej,ev'⟩:=ZgJ K3 G.length pK3;have lj:j<N3.length:=by rw[u3.l];exact(Ob.mp ej).1
 have q3:ev (P.tbl (n+2)) (.bin .Add (.call (O "front_of") (.cons (.ix (.att [(O "Copier")] (.var 0) (O "cells")) (.ix (.var 1) (.ci 0))) .nil)) (.blt .tup (.cons (.var 2) .nil))) [Wn (.ref A.o),Wn (pD p),Wn (.ref h3.length)] h4=.ok (c.wp nums).d h4:=by have a1:ev (P.tbl (n+2)) (.call (O "front_of") (.cons (.ix (.att [(O "Copier")] (.var 0) (O "cells")) (.ix (.var 1) (.ci 0))) .nil)) [Wn (.ref A.o),Wn (pD p),Wn (.ref h3.length)] h4=.ok (.tup c.fr) h4:=Zo (Zmy H.b (n+1) c) (Zc (ZbZ (ZnA s4.o rfl) (ZqR (p:=p) rfl) s4.c e4) rfl);have a2:ev (P.tbl (n+2)) (.blt .tup (.cons (.var 2) .nil)) [Wn (.ref A.o),Wn (pD p),Wn (.ref h3.length)] h4=.ok (.tup (nums.map nI)) h4:=Zev (Zc rfl rfl) (Zr4 k4);have fl:=Zum c;rw[Zt a1 a2,Zir (by rw[YB];simp;lia)];unfold Gc.d;rw[w1,w2]
 have x3:xs1 (P.tbl (n+2)) ZaK [Wn (.ref A.o),Wn (pD p),Wn (.ref h3.length)] h4=.ok (.nx,[Wn (.ref A.o),Wn (pD p),Wn (.ref h3.length)]) (h4.set A.k (cl (G++N3.set j (c.wp nums)))):=by rw[show G++N3.set j (c.wp nums)=(G++N3).set (G.length+j) (c.wp nums) by rw[List.set_append_right _ _ (by lia)];congr 2;lia];exact Zsf q3 (ZnA s4.o rfl) (Zg5 (p:=p) (ZpR s4.o rfl) rfl s4.n ev') (Zof s4.c (by simp;lia))
 have w:xs2 (P.tbl (n+2)) Zbm [Wn (.ref A.o),Wo,Wo] h=.ok (.nx,_) (h4.set A.k (cl (G++N3.set j (c.wp nums)))):=(Za x1).trans ((Za x2).trans ((Za x3).trans rfl));refine⟨_,K3,N3.set j (c.wp nums),W3,congrArg Ze w,⟨by rw[Oc n1.symm];exact s4.o,by rw[Ol (Zx s4.c)],by rw[Oc n4.symm];exact s4.m,by rw[Oc n7.symm];exact s4.f,by rw[Oc n9.symm];exact s4.n,by rw[Oc kw];exact s4.w,s4.fm.trans (.set (by simp)),kw,s.fn⟩,⟨by rw[List.length_set];exact u3.l,u3.nd,u3.g,u3.w,λj' q hj' hq _=>?_⟩,⟨L3,z3⟩,by lia,by lia⟩;by_cases z:q=p
 . subst z;have jj:j'=j:=(List.getElem?_inj (Ob.mp hj').1 u3.nd).mp (hj'.trans ej.symm);subst jj;exact⟨c,nums,e,by rw[Ol lj],by rw[<- eV'];exact d3⟩
 . obtain⟨c',nums',a1,a2,a3⟩:=u3.d j' q hj' hq (by simpa using z);refine⟨c',nums',a1,?_,a3⟩;rw[Oc λzz=>z ?_]
   . exact a2
   . rw[<- zz,ej]at hj';exact(YE hj').symm
theorem ZjG(H:Lw P)(n:Nat){A:Adr}{G:List Gc}{kv:List (NK×D)}{md:List (Key×D)}{nm:List Str}{M:List (Str×T)}{h0:Hd}{S:Ev}(mt:Mt G md M nm)(ok:ZhD G kv)(cd:ZnE G kv)(hρ:ev (P.tbl (n+3)) (.var 0) S=λh=>.ok (.ref A.o) h):∀(F:Nat) (h:Hd) (K:List Pr) (N:List Gc) (W:List (Pr×T)),Sc A G kv md h0 h K N W->Pu G kv md nm K N W []->G.length+(K.length+dz W)<=90000->smz W<=1000->smz W<F->∃h' K' N',ZT (tst (P.tbl (n+3)) Z2) (xs2 (P.tbl (n+3)) ZbW) F S h=.ok (.nx,S) h'/\Sc A G kv md h0 h' K' N' []/\Pu G kv md nm K' N' [] []/\(∃L,K'=K++L)/\K'.length<=K.length+dz W
 |0,h,K,N,W,_,_,_,_,hF=>by lia
 |F+1,h,K,N,W,s,u,hg,hw,hF=>by
  have te:tst (P.tbl (n+3)) Z2 S h=.ok (!(W.map λx=>pD x.1).isEmpty) h:=Zjb (i:=A.w) (ZuO s.o (congrFun hρ h)) s.w;rcases List.eq_nil_or_concat W with rfl|⟨W,x,rfl⟩
  . exact⟨h,K,N,Zgc te,s,u,⟨[],by simp⟩,by lia⟩
  . obtain⟨p,t⟩:=x;rw[List.concat_eq_append]at *;have te':tst (P.tbl (n+3)) Z2 S h=.ok Wp h:=Zq te (by simp);obtain⟨h1,K1,N1,W1,e1,s1,u1,⟨L1,z1⟩,b1,c1⟩:=Zqk H n s u mt ok cd hg hw;obtain⟨h2,K2,N2,e2,s2,u2,⟨L2,z2⟩,b2⟩:=ZjG H n mt ok cd hρ F h1 K1 N1 W1 s1 u1 (by lia) (by lia) (by lia);have q:xs1 (P.tbl (n+3)) Zbo S h=.ok (.nx,S) h1:=ZfU (ZhV (i:=A.o) (congrFun hρ h) s.o rfl rfl e1);exact⟨h2,K2,N2,(ZcD te' ((Za q).trans rfl)).trans e2,s2,u2,⟨L1++L2,by rw[z2,z1,Oz]⟩,by lia⟩
theorem ZuY{R:Nat->T->Prop}{S_:Pr->Nat->Prop}{Q:Nat->T->Prop}{fp:Nat->Pr}:∀{ps:List Nat}{ts:List T}{nums:List Nat},Paired R ps ts->Paired S_ (ps.map fp) nums->(∀m t num,m∈ps->t∈ts->R m t->S_ (fp m) num->Q num t)->Paired Q nums ts
 |_,_,_,.nil,.nil,_=>.nil
 |_,_,_,.cons r q,.cons s p,k=>.cons (k _ _ _ (.head _) (.head _) r s) (ZuY q p λm t num hm ht=>k m t num (.tail _ hm) (.tail _ ht))
theorem ZgD{Q:Nat->T->Prop}{f:T->T}:∀{ns:List Nat}{ts:List T},Paired (λn t=>Q n (f t)) ns ts->Paired Q ns (ts.map f)
 |_,_,.nil=>.nil
 |_,_,.cons r q=>.cons r (ZgD q)
def Zit(e:nI a=nI b):a=b:=by
 simp only[nI,D.int.injEq]at e
 lia
theorem Zn2{G:List Gc}{kv:List (NK×D)}{md:List (Key×D)}{nm:List Str}{M:List (Str×T)}{K:List Pr}{N:List Gc}{y:Nat}(hy:y<G.length)(mt:Mt G md M nm)(mw:∀x∈nm,∀a v,ZK md (.inr x)=Wn (nI a)->get (M.map λp=>(p.1,Wn p.2)) x=Wn v->Rd (wo (gl G) y) a v)(u:Pu G kv md nm K N [] []):∀(z:Nat) (t:T) (p:Pr) (num:Nat),t.size<=z->Rd (wo (gl G) y) p.1 t->Std G md K p num->(∀x∈p.2,x∈nm)->Rd (wo (gl (G++N)) y) num (sub (arN M p.2) t)
 |0,t,p,num,hz,_,_,_=>by have:=ZG t;lia
 |z+1,t,p,num,hz,rd,st,hs=>by
  obtain⟨t',c,rd',e,q⟩:=st;have:=(rd.mono ZcX).one rd';subst this;have mono:∀i c,wo (gl G) y i=Wn c->wo (gl (G++N)) y i=Wn c:=λi c h=>by
   unfold wo at h ⊢;split at h
   . cases h
   . rename_i ne;rw[if_neg ne];exact ZbS h
  obtain⟨c',e',f,pp⟩:=rd.inv;have cc:c=c':=YE (e.symm.trans (ZcX _ _ e'));subst cc;rcases q with ⟨_,q,rfl⟩|⟨x,rfl,hx,ev'⟩|⟨hc,j,ej,rfl⟩
  . rw[Zcg M t p.2 q];exact rd.mono mono
  . obtain⟨a,v,e1,e2,e3⟩:=mt.v x (hs x hx);have e4:=mw x (hs x hx) a v e1 e2;rw[ev']at e1;have:=Zit (YE e1);subst this;cases t<;>simp only[Fit]at f;subst f;rw[show sub (arN M p.2) (.name x)=v by simp only[sub];rw[ZeZ,if_pos hx,e2];rfl];exact e4.mono mono
  . obtain⟨c',nums,a1,a2,a3⟩:=u.d j p ej (by simp) (by simp);rw[e]at a1;cases a1;have ln:nums.length=c.ps.length:=by rw[<- Paired.len a3];unfold bn;rw[Yt]
    have hm:ZtR (arN M p.2) t=Wo:=by
     cases t with
     |name x=>show get (arN M p.2) x=Wo;rw[ZeZ,if_neg];intro hx;rw[Zlf f]at hc;simp only[mnt,decide_eq_false_iff_not]at hc;exact hc hx
     |_=>rfl
    obtain⟨w1,w2⟩:=Zr1 (c:=c) ln;refine Rd.mk (c:=c.wp nums) ?_ (Zrw f hm ln) ?_
    . rw[Zr2 (by lia)];show(G++N)[G.length+j]? = _;rw[Om (by lia),show G.length+j - G.length=j by lia];exact a2
    . rw[w2,(ZmP t _ hm).1];refine ZgD (ZuY pp a3 λm s n' hm' hs' r q=>?_);have lt:=Zig hs';have:=Zn2 hy mt mw u z s (m,rs p.2 c.bd) n' (by lia) r q (λx hx=>hs x (List.mem_filter.mp hx).1);rw[Zih,<- (Zdm f).2.1];exact this
def Zr5{h:Hd}(e:h[i]? = Wn (.dic md))(k:Z7 md=Wn nm)(o:nm.all Yo=Wp):Z0 GD .tdk [.ref i] h=.ok (nD nm) h:=by show ZpL GD [.ref i] h=_;unfold ZpL dicOf;simp only[e,Yy,k,if_pos o];rfl
def Zan(fs:List (Str×D)):DO:=.ins (O "Copier") fs
def Zgv{U:Tb}{S:Ev}{h h1:Hd}{a e:Ex}{o:Nat}{fs:List (Str×D)}{f:Str}{d:D}(p:ev U e S h=.ok d h1)(q:ev U a S h1=.ok (.ref o) h1)(k:h1[o]? = Wn (Zan fs))(l:fs.length<1000):xs1 U (.seta [(O "Copier")] a f e) S h=.ok (.nx,S) (h1.set o (Zan (ZgA f d fs))):=by rw[ZnH,p,Zg,q,Zg];simp[Zhq,k,Zan,l]
def ZcF{h:Hd}{o:Nat}{x y:DO}(e:h[o]? = Wn x):(h.set o y)[o]? = Wn y:=by rw[Ol (Zx e)]
def ZE{h:Hd}{o i:Nat}{x y:DO}(e:h[i]? = Wn x)(ne:i≠o):(h.set o y)[i]? = Wn x:=by rw[Oc ne.symm];exact e
def ZvA(H:Lw P)(n:Nat){G:List Gc}{h:Hd}{k mk m:Nat}{md:List (Key×D)}{nm:List Str}{t:T}(hk:h[k]? = Wn (cl G))(hm:h[mk]? = Wn (.dic md))(ks:Z7 md=Wn nm)(so:nm.all Yo=Wp)(hn:nm.length<=2)(rd:Rd (gl G) m t)(hz:t.size<=120):∃A h' kv,ZkP (run P (n+5)) (O "Copier") [.ref k,nI m,.ref mk] h=.ok (.ref A.o) h'/\A.k=k/\A.m=mk/\h.length<=A.n/\h.length<=A.w/\Sc A G kv md h' h' [] [] []/\ZhD G kv/\ZnE G kv/\inN kv (m,nm)=Wp/\Fm [] h h':=by
 have lk:=Zx hk;have lm:=Zx hm;unfold ZkP;rw[Zep H.n_Copier___init__ H.Copier___init__ rfl];have nk:∀{i o},h[i]? = Wn o->i≠h.length:=λe z=>by have:=Zx e;lia
 have k1:(h++[Zan []])[h.length]? = Wn (Zan []):=ZaH;have x1:xs1 (P.tbl (n+4)) Zbt [Wn (.ref h.length),Wn (.ref k),Wn (nI m),Wn (.ref mk)] (h++[Zan []])=.ok (.nx,[Wn (.ref h.length),Wn (.ref k),Wn (nI m),Wn (.ref mk)]) ((h++[Zan []]).set h.length (Zan [(O "cells",.ref k)])):=Zgv rfl rfl k1 (by simp);have f1:Fm [h.length] h ((h++[Zan []]).set h.length (Zan [(O "cells",.ref k)])):=Fm.app.trans (.set (by simp));have k2:=ZcF (y:=Zan [(O "cells",.ref k)]) k1;generalize (h++[Zan []]).set h.length (Zan [(O "cells",.ref k)])=h1 at *;have x2:xs1 (P.tbl (n+4)) Zbs [Wn (.ref h.length),Wn (.ref k),Wn (nI m),Wn (.ref mk)] h1=.ok (.nx,[Wn (.ref h.length),Wn (.ref k),Wn (nI m),Wn (.ref mk)]) (h1.set h.length (Zan [(O "cells",.ref k),(O "meant",.ref mk)])):=(Zgv rfl rfl k2 (by simp)).trans (by simp[ZgA]);have f2:Fm [h.length] h (h1.set h.length (Zan [(O "cells",.ref k),(O "meant",.ref mk)])):=f1.trans (.set (by simp));have k3:=ZcF (y:=Zan [(O "cells",.ref k),(O "meant",.ref mk)]) k2;generalize h1.set h.length (Zan [(O "cells",.ref k),(O "meant",.ref mk)])=h2 at *;have hk2:=f2.at hk (by simpa using nk hk);have hm2:=f2.at hm (by simpa using nk hm);obtain⟨h3,fk,kv,e3,kf3,lf,fm3,ok,cd,inn⟩:=Zs9 H n hk2 rd hz hn;have q3:ev (P.tbl (n+4)) (.call (O "free_beneath") (.cons (.var 1) (.cons (.var 2) (.cons (.blt .tdk (.cons (.var 3) .nil)) .nil)))) [Wn (.ref h.length),Wn (.ref k),Wn (nI m),Wn (.ref mk)] h2=.ok (.ref fk) h3:=Zo e3 (Zc rfl (Zc rfl (Zc (Zev (Zc rfl rfl) (Zr5 hm2 ks so)) rfl)));have k3':=fm3.at k3 (by simp);have x3:xs1 (P.tbl (n+4)) Zbr [Wn (.ref h.length),Wn (.ref k),Wn (nI m),Wn (.ref mk)] h2=.ok (.nx,[Wn (.ref h.length),Wn (.ref k),Wn (nI m),Wn (.ref mk)]) (h3.set h.length (Zan [(O "cells",.ref k),(O "meant",.ref mk),(O "free",.ref fk)])):=(Zgv q3 rfl k3' (by simp)).trans (by simp[ZgA]);have f4:Fm [h.length] h (h3.set h.length (Zan [(O "cells",.ref k),(O "meant",.ref mk),(O "free",.ref fk)])):=(f2.trans (fm3.sub (by simp))).trans (.set (by simp));have nf:fk≠h.length:=by have:=Zx k3;lia
 have kf4:=ZE (y:=Zan [(O "cells",.ref k),(O "meant",.ref mk),(O "free",.ref fk)]) kf3 nf;have k4:=ZcF (y:=Zan [(O "cells",.ref k),(O "meant",.ref mk),(O "free",.ref fk)]) k3';generalize h3.set h.length (Zan [(O "cells",.ref k),(O "meant",.ref mk),(O "free",.ref fk)])=h4 at *;have q4:ev (P.tbl (n+4)) .ndl [Wn (.ref h.length),Wn (.ref k),Wn (nI m),Wn (.ref mk)] h4=.ok (.ref h4.length) (h4++[.dnk []]):=rfl;have k4':(h4++[DO.dnk []])[h.length]? = Wn _:=keep k4;have kn4:(h4++[DO.dnk []])[h4.length]? = Wn (.dnk []):=ZaH;have kf4':(h4++[DO.dnk []])[fk]? = Wn (.dnk kv):=keep kf4;have x4:xs1 (P.tbl (n+4)) Zbq [Wn (.ref h.length),Wn (.ref k),Wn (nI m),Wn (.ref mk)] h4=.ok (.nx,[Wn (.ref h.length),Wn (.ref k),Wn (nI m),Wn (.ref mk)]) ((h4++[DO.dnk []]).set h.length (Zan [(O "cells",.ref k),(O "meant",.ref mk),(O "free",.ref fk),(O "known",.ref h4.length)])):=(Zgv q4 rfl k4' (by simp)).trans (by simp[ZgA]);have l4:=Zx k4;have lf4:=Zx kf4;have f5:Fm [h.length] h ((h4++[DO.dnk []]).set h.length (Zan [(O "cells",.ref k),(O "meant",.ref mk),(O "free",.ref fk),(O "known",.ref h4.length)])):=(f4.trans .app).trans (.set (by simp));have kn5:=ZE (y:=Zan [(O "cells",.ref k),(O "meant",.ref mk),(O "free",.ref fk),(O "known",.ref h4.length)]) kn4 (show h4.length≠h.length by lia);have kf5:=ZE (y:=Zan [(O "cells",.ref k),(O "meant",.ref mk),(O "free",.ref fk),(O "known",.ref h4.length)]) kf4' nf;have k5:=ZcF (y:=Zan [(O "cells",.ref k),(O "meant",.ref mk),(O "free",.ref fk),(O "known",.ref h4.length)]) k4';have l5:((h4++[DO.dnk []]).set h.length (Zan [(O "cells",.ref k),(O "meant",.ref mk),(O "free",.ref fk),(O "known",.ref h4.length)])).length=h4.length+1:=by simp
 generalize (h4++[DO.dnk []]).set h.length (Zan [(O "cells",.ref k),(O "meant",.ref mk),(O "free",.ref fk),(O "known",.ref h4.length)])=h5 at *;have q5:ev (P.tbl (n+4)) (.lstl .nil) [Wn (.ref h.length),Wn (.ref k),Wn (nI m),Wn (.ref mk)] h5=.ok (.ref h5.length) (h5++[.lst []]):=Znr rfl (by simp);have x5:xs1 (P.tbl (n+4)) Zbp [Wn (.ref h.length),Wn (.ref k),Wn (nI m),Wn (.ref mk)] h5=.ok (.nx,[Wn (.ref h.length),Wn (.ref k),Wn (nI m),Wn (.ref mk)]) ((h5++[DO.lst []]).set h.length (cpD ⟨h.length,k,mk,fk,h4.length,h5.length⟩)):=(Zgv q5 rfl (keep k5) (by simp)).trans (by simp[ZgA,cpD,Zan]);have kw5:(h5++[DO.lst []])[h5.length]? = Wn (.lst []):=ZaH;have w:xs2 (P.tbl (n+4)) Zcd [Wn (.ref h.length),Wn (.ref k),Wn (nI m),Wn (.ref mk)] (h++[Zan []])=.ok (.nx,_) _:=(Za x1).trans ((Za x2).trans ((Za x3).trans ((Za x4).trans ((Za x5).trans rfl))));have f6:Fm [h.length] h ((h5++[DO.lst []]).set h.length (cpD ⟨h.length,k,mk,fk,h4.length,h5.length⟩)):=(f5.trans .app).trans (.set (by simp));refine⟨⟨h.length,k,mk,fk,h4.length,h5.length⟩,(h5++[DO.lst []]).set h.length (cpD ⟨h.length,k,mk,fk,h4.length,h5.length⟩),kv,?_,rfl,rfl,by show h.length<=h4.length;lia,by show h.length<=h5.length;lia,⟨ZcF (keep k5),by rw[Ys];exact f6.at hk (by simpa using nk hk),f6.at hm (by simpa using nk hm),ZE (keep kf5) nf,ZE (keep kn5) (by show h4.length≠h.length;lia),ZE kw5 (by show h5.length≠h.length;lia),.refl,by show k≠h5.length;lia,by show fk≠h4.length;lia⟩,ok,cd,inn,f6.cut λi hi=>.inr (by simp at hi;lia)⟩;have:=congrArg (λr=>(Ze r).bind λd h2=>match d with|.non=>R.ok (D.ref h.length) h2|_=>R.bad) w;exact this
def Pu.none:Pu G kv md nm [] [] [] []:=⟨rfl,.nil,λ_ h=>(by cases h),λ_ h=>(by cases h),λj p h=>(by cases h)⟩
def ZvE(H:Lw P)(n:Nat){A:Adr}{G:List Gc}{kv:List (NK×D)}{md:List (Key×D)}{nm:List Str}{M:List (Str×T)}{h:Hd}{m y:Nat}{t:T}(s:Sc A G kv md h h [] [] [])(ks:Z7 md=Wn nm)(so:nm.all Yo=Wp)(hn:nm.length<=2)(ne:nm≠[])(hy:y<G.length)(rd:Rd (wo (gl G) y) m t)(hz:t.size<=120)(mt:Mt G md M nm)(mw:∀x∈nm,∀a v,ZK md (.inr x)=Wn (nI a)->get (M.map λp=>(p.1,Wn p.2)) x=Wn v->Rd (wo (gl G) y) a v)(ok:ZhD G kv)(cd:ZnE G kv)(i:inN kv (m,nm)=Wp)(lG:G.length<=80000):∃N num h',run P (n+4) (mnm (O "Copier") (O "copied")) [.ref A.o,nI m] h=.ok (nI num) h'/\h'[A.k]? = Wn (cl (G++N))/\Rd (wo (gl (G++N)) y) num (sub (arN M nm) t)/\N.length<=t.size/\Fm [A.k,A.n,A.w] h h':=by have big:=H.b.big;obtain⟨num,h1,K1,N1,W1,e1,s1,u1,d1,_,b1,c1⟩:=ZlK H (n+1) (p:=(m,nm)) (X:=[]) s Pu.none ⟨rd.mono ZcX,i,ne,hn,λ_ h=>h⟩ mt ok (by simp;lia) (by simp);simp only[List.length_nil,Nat.zero_add,show dz []=0 from rfl,show smz []=0 from rfl]at b1 c1;obtain⟨h2,K2,N2,e2,s2,u2,⟨L,z2⟩,b2⟩:=ZjG H n (S:=[Wn (.ref A.o),Wn (nI m),Wn (nI num)]) mt ok cd rfl P.L h1 K1 N1 W1 s1 u1 (by lia) (by lia) (by lia);refine⟨N2,num,h2,?_,s2.c,Zn2 hy mt mw u2 t.size t (m,nm) num (Oq _) rd (by rw[z2];exact d1.mono L) λ_ h=>h,by rw[u2.l];lia,s2.fm⟩;rw[Zep H.n_Copier_copied H.Copier_copied rfl];have q:ev (P.tbl (n+3)) (.mcl (O "Copier") (O "stand_in") (.var 0) (.cons (.var 1) (.cons (.blt .tdk (.cons (.att [(O "Copier")] (.var 0) (O "meant")) .nil)) .nil))) [Wn (.ref A.o),Wn (nI m),Wo] h=.ok (nI num) h1:=ZhV (i:=A.o) rfl s.o rfl (Zc rfl (Zc (Zev (Zc (Zw1 s.o rfl) rfl) (Zr5 s.m ks so)) rfl)) e1;have w:xs2 (P.tbl (n+3)) Zc8 [Wn (.ref A.o),Wn (nI m),Wo] h=.ok (.rt (nI num),_) h2:=(Za (Zl (i:=2) q)).trans ((Za (s:=Zcc) (ZeH.trans e2)).trans (Zb (Zm rfl)));exact congrArg Ze w
def Ztb(H:Lw P)(n:Nat){S:Ev}{es:Exs}{e:Ex}{G:List Gc}{h:Hd}{k mk m y:Nat}{md:List (Key×D)}{nm:List Str}{M:List (Str×T)}{t:T}(hes:evs (P.tbl (n+5)) es S h=.ok [.ref k,nI m,.ref mk] h)(he:∀h,ev (P.tbl (n+5)) e S h=.ok (nI m) h)(hk:h[k]? = Wn (cl G))(hm:h[mk]? = Wn (.dic md))(ks:Z7 md=Wn nm)(so:nm.all Yo=Wp)(hn:nm.length<=2)(ne:nm≠[])(hy:y<G.length)(rd:Rd (wo (gl G) y) m t)(hz:t.size<=120)(mt:Mt G md M nm)(mw:∀x∈nm,∀a v,ZK md (.inr x)=Wn (nI a)->get (M.map λp=>(p.1,Wn p.2)) x=Wn v->Rd (wo (gl G) y) a v)(lG:G.length<=80000):∃N num h',ev (P.tbl (n+5)) (.mcl (O "Copier") (O "copied") (.mk (O "Copier") es) (.cons e .nil)) S h=.ok (nI num) h'/\h'[k]? = Wn (cl (G++N))/\Rd (wo (gl (G++N)) y) num (sub (arN M nm) t)/\N.length<=t.size/\Fm [k] h h':=by
 obtain⟨A,h1,kv,e1,rfl,rfl,l1,l2,s1,ok,cd,i,f1⟩:=ZvA H n hk hm ks so hn (rd.mono ZcX) hz;obtain⟨N,num,h2,e2,k2,r2,n2,f2⟩:=ZvE H (n+1) s1 ks so hn ne hy rd hz mt mw ok cd i lG;refine⟨N,num,h2,?_,k2,r2,n2,((f1.sub (by simp)).trans f2).cut λj hj=>?_⟩
 . refine ZhV (i:=A.o) (h1:=h1) (h2:=h1) ?_ s1.o rfl (Zc (he _) rfl) e2;rw[Zsr,hes];exact e1
 . simp only[O2,List.not_mem_nil,or_false]at hj ⊢;rcases hj with rfl|rfl|rfl
   . exact .inl rfl
   . exact .inr l1
   . exact .inr l2
def ZrW(M:List (Str×T)):arN M (M.map (·.1))=Fil.ar M:=by unfold arN Fil.ar;rw[List.filter_eq_self.mpr];intro p hp;exact decide_eq_true (List.mem_map_of_mem hp)
theorem Zn9 (H:Lw P) (n:Nat) {G:List Gc}{h:Hd}{k iF iA y:Nat}{tF tA:T} (hk:h[k]? = Wn (cl G)) (hy:y<G.length) (rF:Rd (wo (gl G) y) iF tF) (rA:Rd (wo (gl G) y) iA tA) (vF:Tm.isV tF=Wp) (cF:Gn.Cl [] tF) (zF:tF.size<=120) (lG:G.length<=80000):(bec (.call tF tA)=Wo/\run P (n+6) (O "called") [.ref k,nI iF,nI iA] h=.ok .non h)\/∃ s' N num c' h',bec (.call tF tA)=Wn s'/\run P (n+6) (O "called") [.ref k,nI iF,nI iA] h=.ok c'.d h'/\h'[k]? = Wn (cl (G++N))/\Fm [k] h h'/\(G++N)[num]? = Wn c'/\Rd (wo (gl (G++N)) y) num s'/\N.length<=120:=by
 rw [Zd H.called rfl];obtain ⟨c,e,f,pp,ex⟩:=(rF.mono ZcX).at;clear ex;obtain ⟨_,e0,f0,pp0⟩:=rF.inv;cases (ZcX _ _ e0).symm.trans e;have lk:=Zx hk;have x1:xs1 (P.tbl (n+5)) Zho [Wn (.ref k),Wn (nI iF),Wn (nI iA),Wo,Wo,Wo] h=.ok (.nx,[Wn (.ref k),Wn (nI iF),Wn (nI iA),Wn c.d,Wo,Wo]) h:=Zl (i:=3) (ZbZ rfl rfl hk e);have fin':∀ {w:Str}{b:Nat}{md:List (Key×D)}{nm:List Str}{M:List (Str×T)}{t:T}{h1:Hd},xs2 (P.tbl (n+5)) Zfl [Wn (.ref k),Wn (nI iF),Wn (nI iA),Wo,Wo,Wo] h=xs2 (P.tbl (n+5)) (.cons ZeD (.cons ZeC .nil)) [Wn (.ref k),Wn (nI iF),Wn (nI iA),Wn c.d,Wn (.ref h.length),Wo] (h++[.dic md])->c.ps=[b]->M.map (·.1)=nm->Z7 md=Wn nm->nm.all Yo=Wp->nm.length<=2->nm≠[]->Rd (wo (gl G) y) b t->t.size<=120->Mt G md M nm->(∀ x∈nm,∀ a v,ZK md (.inr x)=Wn (nI a)->get (M.map fun p=>(p.1,Wn p.2)) x=Wn v->Rd (wo (gl G) y) a v)->∃ N num c' h',Ze (xs2 (P.tbl (n+5)) Zfl [Wn (.ref k),Wn (nI iF),Wn (nI iA),Wo,Wo,Wo] h)=.ok c'.d h'/\h'[k]? = Wn (cl (G++N))/\Fm [k] h h'/\(G++N)[num]? = Wn c'/\Rd (wo (gl (G++N)) y) num (sub (Fil.ar M) t)/\N.length<=120:=by
   intro w b md nm M t h1 q hb hM ks so hn ne rd hz mt mw;rw [q];have k1:(h++[DO.dic md])[k]? = Wn (cl G):=keep hk;have m1:(h++[DO.dic md])[h.length]? = Wn (.dic md):=ZaH;have f1:Fm [k] h (h++[DO.dic md]):=.app;generalize h++[DO.dic md]=h1 at *;have q4:ev (P.tbl (n+5)) (.ix (.call (O "parts_of") (.cons (.var 3) .nil)) (.ci 0)) [Wn (.ref k),Wn (nI iF),Wn (nI iA),Wn c.d,Wn (.ref h.length),Wo] h1=.ok (nI b) h1:=(ZD (Zo (Zgj H.b.toTre (n+4) c) rfl) rfl).trans (by rw [hb];rfl);obtain ⟨N,num,h2,e2,k2,r2,n2,f2⟩:=Ztb H n (S:=[Wn (.ref k),Wn (nI iF),Wn (nI iA),Wn c.d,Wn (.ref h.length),Wn (nI b)]) (es:=.cons (.var 0) (.cons (.var 5) (.cons (.var 4) .nil))) (e:=.var 5) rfl (fun _=>rfl) k1 m1 ks so hn ne hy rd hz mt mw lG;obtain ⟨c',e',_,_⟩:=r2.inv;have e':=ZcX _ _ e';rw [<- hM,ZrW] at r2;refine ⟨N,num,c',h2,?_,k2,f1.trans f2,e',r2,by lia⟩;have q5:ev (P.tbl (n+5)) (.ix (.var 0) (.mcl (O "Copier") (O "copied") (.mk (O "Copier") (.cons (.var 0) (.cons (.var 5) (.cons (.var 4) .nil)))) (.cons (.var 5) .nil))) [Wn (.ref k),Wn (nI iF),Wn (nI iA),Wn c.d,Wn (.ref h.length),Wn (nI b)] h1=.ok c'.d h2:=(ZD (x:=.ref k) rfl e2).trans ((ZP k2).trans (by rw [ZuP e'];rfl));have w:xs2 (P.tbl (n+5)) (.cons ZeD (.cons ZeC .nil)) [Wn (.ref k),Wn (nI iF),Wn (nI iA),Wn c.d,Wn (.ref h.length),Wo] h1=.ok (.rt c'.d,_) h2:=(Za (Zl (i:=5) q4)).trans (Zb (Zm q5));exact congrArg Ze w
 cases tF with
 | num z =>
   cases c<;>simp only [Fit] at f;left;refine ⟨rfl,?_⟩;have w:xs2 (P.tbl (n+5)) Zfl [Wn (.ref k),Wn (nI iF),Wn (nI iA),Wo,Wo,Wo] h=.ok (.rt .non,_) h:=(Za x1).trans (Zb ((Zu (Zq (Zcu (x:=O "num") rfl rfl) (decide_eq_true rfl))).trans (Zb (Zm rfl))));exact congrArg Ze w
 | fn x t =>
   cases c<;>simp only [Fit] at f;rename_i x' b;have f:=f.symm;subst f;right;have x2:xs1 (P.tbl (n+5)) ZeF [Wn (.ref k),Wn (nI iF),Wn (nI iA),Wn (Gc.fn x b).d,Wo,Wo] h=.ok (.nx,_) h:=(Zs (Zq (Zcu (x:=O "fn") rfl rfl) (by simp))).trans rfl;have qd:ev (P.tbl (n+5)) (.dictl (.cons (.ix (.var 3) (.ci 1)) (.cons (.var 2) .nil))) [Wn (.ref k),Wn (nI iF),Wn (nI iA),Wn (Gc.fn x b).d,Wo,Wo] h=.ok (.ref h.length) (h++[.dic [(.inr x,nI iA)]]):=by
     rw [ZjY,show evs (P.tbl (n+5)) _ _ h=.ok [.str x,nI iA] h from Zc rfl (Zc rfl rfl),Zg];simp [Zcj,keyOf,ZcK,putD]
   have x3:xs1 (P.tbl (n+5)) ZeE [Wn (.ref k),Wn (nI iF),Wn (nI iA),Wn (Gc.fn x b).d,Wo,Wo] h=.ok (.nx,[Wn (.ref k),Wn (nI iF),Wn (nI iA),Wn (Gc.fn x b).d,Wn (.ref h.length),Wo]) (h++[.dic [(.inr x,nI iA)]]):=(Zu (Zq (Zcu (x:=O "fn") rfl rfl) (decide_eq_true rfl))).trans ((Za (Zl (i:=4) qd)).trans rfl);cases pp0 with|cons rb _=>?_
   have zz:=zf x t;have vx:ZK [((.inr x:Key),nI iA)] (.inr x)=Wn (nI iA):=by simp [ZK]
   obtain ⟨N,num,c',h2,e1,e2,e3,e4,e5,e6⟩:=fin' (w:=x) (b:=b) (md:=[(.inr x,nI iA)]) (nm:=[x]) (M:=[(x,tA)]) (t:=t) (h1:=h) ((Za x1).trans ((Za x2).trans (Za x3))) rfl rfl rfl (by simp [cF.2.1]) (by simp) (by simp) rb (by lia) ⟨fun z hz=>by
     rw [Ox.mp hz];exact ⟨iA,tA,vx,by simp [Tm.get],rA.mono ZcX⟩⟩ (fun z hz a v h1 h2=>by
     rw [Ox.mp hz] at h1 h2;rw [vx] at h1;rw [<- Zit (YE h1)];simp only [Op,Oy,Tm.get,if_true,Option.some.injEq] at h2;rw [<- h2];exact rA)
   exact ⟨_,N,num,c',h2,rfl,e1,e2,e3,e4,e5,e6⟩
 | rcc g x t =>
   cases c<;>simp only [Fit] at f;rename_i g' x' b;obtain ⟨f1,f2⟩:=f;have f1:=f1.symm;have f2:=f2.symm;subst f1;subst f2;right;have ngx:g≠x:=cF.2.1;have nxg:x≠g:=fun z=>ngx z.symm;have x2:xs1 (P.tbl (n+5)) ZeF [Wn (.ref k),Wn (nI iF),Wn (nI iA),Wn (Gc.rcc g x b).d,Wo,Wo] h=.ok (.nx,_) h:=(Zs (Zq (Zcu (x:=O "rec") rfl rfl) (by simp))).trans rfl;have qd:ev (P.tbl (n+5)) (.dictl (.cons (.ix (.var 3) (.ci 1)) (.cons (.var 1) (.cons (.ix (.var 3) (.ci 2)) (.cons (.var 2) .nil))))) [Wn (.ref k),Wn (nI iF),Wn (nI iA),Wn (Gc.rcc g x b).d,Wo,Wo] h=.ok (.ref h.length) (h++[.dic [(.inr g,nI iF),(.inr x,nI iA)]]):=by
     rw [ZjY,show evs (P.tbl (n+5)) _ _ h=.ok [.str g,nI iF,.str x,nI iA] h from Zc rfl (Zc rfl (Zc rfl (Zc rfl rfl))),Zg];simp [Zcj,keyOf,ZcK,putD,ngx]
   have x3:xs1 (P.tbl (n+5)) ZeE [Wn (.ref k),Wn (nI iF),Wn (nI iA),Wn (Gc.rcc g x b).d,Wo,Wo] h=.ok (.nx,[Wn (.ref k),Wn (nI iF),Wn (nI iA),Wn (Gc.rcc g x b).d,Wn (.ref h.length),Wo]) (h++[.dic [(.inr g,nI iF),(.inr x,nI iA)]]):=(Zs (Zq (Zcu (x:=O "rec") rfl rfl) (by simp))).trans ((Za (Zl (i:=4) qd)).trans rfl);cases pp0 with|cons rb _=>?_
   have zz:=zr g x t;have vg:ZK [((.inr g:Key),nI iF),(.inr x,nI iA)] (.inr g)=Wn (nI iF):=by simp [ZK]
   have vx:ZK [((.inr g:Key),nI iF),(.inr x,nI iA)] (.inr x)=Wn (nI iA):=by simp [ZK,ngx]
   have gg:Tm.get (([(g,T.rcc g x t),(x,tA)]:List (Str×T)).map fun p=>(p.1,Wn p.2)) g=Wn (T.rcc g x t):=by simp [Tm.get]
   have gx:Tm.get (([(g,T.rcc g x t),(x,tA)]:List (Str×T)).map fun p=>(p.1,Wn p.2)) x=Wn tA:=by simp [Tm.get,ngx]
   obtain ⟨N,num,c',h2,e1,e2,e3,e4,e5,e6⟩:=fin' (w:=x) (b:=b) (md:=[(.inr g,nI iF),(.inr x,nI iA)]) (nm:=[g,x]) (M:=[(g,.rcc g x t),(x,tA)]) (t:=t) (h1:=h) ((Za x1).trans ((Za x2).trans (Za x3))) rfl rfl rfl (by simp [cF.2.2.1.1,cF.2.2.2.1]) (by simp) (by simp) rb (by lia) ⟨fun z hz=>by
     rcases O2.mp hz with rfl|hz
     . exact ⟨iF,_,vg,gg,rF.mono ZcX⟩
     . rw [Ox.mp hz];exact ⟨iA,tA,vx,gx,rA.mono ZcX⟩⟩ (fun z hz a v h1 h2=>by
     rcases O2.mp hz with rfl|hz
     . rw [vg] at h1;rw [gg] at h2;rw [<- Zit (YE h1),<- YE h2];exact rF
     . rw [Ox.mp hz] at h1 h2;rw [vx] at h1;rw [gx] at h2;rw [<- Zit (YE h1),<- YE h2];exact rA)
   refine ⟨_,N,num,c',h2,?_,e1,e2,e3,e4,e5,e6⟩;simp only [bec,ZhR,if_neg ngx]
 | _=>cases vF
end
section
variable {P:Pg}{h:Hd}
def Zn8(H:Lw P)(n:Nat)(c:Gc)(hv:c.isV=Wp)(a b:D):run P (n+1) (O "chosen") [c.d,a,b] h=.ok (match c with|.num z=>if z=0 then b else a|_=>.non) h:=by
 rw[Zd H.chosen (by rfl)];cases c with
 |num z=>by_cases e:z=0<;>simp[Zg2,Zkg,ZB,Gc.d,Gc.fr,Gc.ps,e]
 |fn x e=>exact rfl
 |rcc f x e=>exact rfl
 |_=>cases hv
def Zjn(H:Lw P)(n:Nat)(w:Wd)(a b:Gc)(va:a.isV=Wp)(vb:b.isV=Wp)(no:¬ ∃x y,a=.num x/\b=.num y):run P (n+1) (O "worked") [.str w.s,a.d,b.d] h=.ok .non h:=by
 have k:xs1 (P.tbl n) Zhg [Wn (.str w.s),Wn a.d,Wn b.d] h=.ok (.rt .non,[Wn (.str w.s),Wn a.d,Wn b.d]) h:=by
  cases a with
  |num x=>
   cases b with
   |num y=>exact absurd ⟨x,y,rfl,rfl⟩ no
   |fn _ _=>exact rfl
   |rcc _ _ _=>exact rfl
   |_=>cases vb
  |fn _ _=>exact rfl
  |rcc _ _ _=>exact rfl
  |_=>cases va
 rw[Zd H.worked (by rfl)];exact rt1 (U:=P.tbl n) (ss:=ZA) k rfl
structure Wr(G:List Gc)(k y:Nat)(h:Hd)(s':T)(N:List Gc)(c':Gc)(h':Hd):Prop where
 c:h'[k]? = Wn (cl (G++N))
 m:Fm [k] h h'
 f:Fit c' s'
 p:Paired (Rd (wo (gl (G++N)) y)) c'.ps s'.parts
 n:N.length<=120
def pr2{R:Nat->T->Prop}(p:Paired R [a,b] [s,t]):R a s/\R b t:=by cases p with|cons x p=>cases p with|cons y p=>exact⟨x,y⟩
def pr3{R:Nat->T->Prop}(p:Paired R [a,b,c] [s,t,u]):R a s/\R b t/\R c u:=by cases p with|cons x p=>cases p with|cons y p=>cases p with|cons z p=>exact⟨x,y,z⟩
def ZmG{G:List Gc}{k:Nat}(hk:h[k]? = Wn (cl G)):h[k]? = Wn (cl (G++[])):=by rw[Ys];exact hk
def ZeX{G:List Gc}{i:Nat}{c:Gc}{t:T}(e:G[i]? = Wn c)(v:c.isV=Wp)(r:Rd (gl G) i t):Tm.isV t=Wp/\Fit c t:=by obtain⟨c',e',f,_⟩:=r.at;rw[e]at e';cases e';exact⟨by rw[<- (Zdm f).2.2.1];exact v,f⟩
def ZmV(H:Lw P)(n:Nat){G:List Gc}{k y:Nat}{c:Gc}{s:T}(hk:h[k]? = Wn (cl G))(rd:Rd (gl G) y s)(e:G[y]? = Wn c)(f:Fit c s)(pp:Paired (Rd (gl G)) c.ps s.parts)(nv:Tm.isV s=Wq)(cs:Gn.Cl [] s)(hz:s.size<=120)(wv:∀m∈c.pf,∃c,G[m]? = Wn c/\c.isV=Wp)(lG:G.length<=80000):(run P (n+7) (O "written") [.ref k,c.d] h=.ok .non h/\bec s=Wo)\/∃s' N c' h',run P (n+7) (O "written") [.ref k,c.d] h=.ok c'.d h'/\bec s=Wn s'/\Gn.Cl [] s'/\Wr G k y h s' N c' h':=by
 rw[Zd H.written rfl];have hy:y<G.length:=(Ob.mp e).1;cases s with
 |num z=>cases nv
 |fn x t=>cases nv
 |rcc g x t=>cases nv
 |name x=>cases cs
 |call tF tA=>
  cases c<;>simp only[Fit]at f;rename_i iF iA;obtain⟨rF,rA⟩:=pr2 pp;obtain⟨c1,e1,v1⟩:=wv iF (by simp[Gc.pf,Gc.ps]);obtain⟨c2,e2,v2⟩:=wv iA (by simp[Gc.pf,Gc.ps]);obtain⟨vF,_⟩:=ZeX e1 v1 rF;obtain⟨vA,_⟩:=ZeX e2 v2 rA;have zz:=zc tF tA;have rF':=Rd.wo rd rF (by lia);have rA':=Rd.wo rd rA (by lia);rcases Zn9 H n hk hy rF' rA' vF cs.1 (by lia) lG with ⟨b,q⟩|⟨s',N,num,c',h',b,q,k',m',e',r',n'⟩
  . left;refine⟨?_,b⟩;have w:xs2 (P.tbl (n+6)) Zap [Wn (.ref k),Wn (Gc.call iF iA).d] h=.ok (.rt .non,_) h:=Zb ((Zu (Zq (Zcu (x:=O "call") rfl rfl) (decide_eq_true rfl))).trans (Zb (Zm (Zo q rfl))));exact congrArg Ze w
  . right;obtain⟨c2,e2,f2,p2⟩:=r'.inv;cases (ZcX _ _ e2).symm.trans e';refine⟨s',N,c',h',?_,b,(ZiU (.call tF tA) s' ⟨vF,vA⟩ cs (by lia) b).1,k',m',f2,p2,n'⟩;have w:xs2 (P.tbl (n+6)) Zap [Wn (.ref k),Wn (Gc.call iF iA).d] h=.ok (.rt c'.d,_) h':=Zb ((Zu (Zq (Zcu (x:=O "call") rfl rfl) (decide_eq_true rfl))).trans (Zb (Zm (Zo q rfl))));exact congrArg Ze w
 |iff tC tT tE=>
  cases c<;>simp only[Fit]at f;rename_i iC iT iE;obtain⟨rC,rT,rE⟩:=pr3 pp;obtain⟨c1,e1,v1⟩:=wv iC (by simp[Gc.pf]);obtain⟨vC,fC⟩:=ZeX e1 v1 rC;have zz:=zi tC tT tE;have qc:=Zn8 H (n+4) c1 v1 (nI iT) (nI iE) (h:=h);have x0:xs1 (P.tbl (n+6)) Zdw [Wn (.ref k),Wn (Gc.iff iC iT iE).d] h=.ok (.nx,_) h:=(Zs (Zq (Zcu (x:=O "if") rfl rfl) (by simp))).trans rfl;have up:∀{d:D},run P (n+6) (O "gone_on") [.ref k,(Gc.iff iC iT iE).d] h=.ok d h->Ze (xs2 (P.tbl (n+6)) Zap [Wn (.ref k),Wn (Gc.iff iC iT iE).d] h)=.ok d h:=λ{d} q=>by have w:xs2 (P.tbl (n+6)) Zap [Wn (.ref k),Wn (Gc.iff iC iT iE).d] h=.ok (.rt d,_) h:=(Za x0).trans (Zb ((Zu (Zq (Zcu (x:=O "if") rfl rfl) (decide_eq_true rfl))).trans (Zb (Zm (Zo q rfl)))));exact congrArg Ze w
  have q1:∀{d:D},run P (n+5) (O "chosen") [c1.d,nI iT,nI iE] h=.ok d h->xs1 (P.tbl (n+5)) Zf2 [Wn (.ref k),Wn (Gc.iff iC iT iE).d,Wo] h=.ok (.nx,[Wn (.ref k),Wn (Gc.iff iC iT iE).d,Wn d]) h:=λq=>Zl (i:=2) (Zo q (Zc (ZbZ (k:=k) (n:=iC) rfl rfl hk e1) rfl));have no:run P (n+5) (O "chosen") [c1.d,nI iT,nI iE] h=.ok .non h->run P (n+6) (O "gone_on") [.ref k,(Gc.iff iC iT iE).d] h=.ok .non h:=λq=>by rw[Zd H.gone_on rfl];have w:xs2 (P.tbl (n+5)) ZfI [Wn (.ref k),Wn (Gc.iff iC iT iE).d,Wo] h=.ok (.rt .non,_) h:=(Za (q1 q)).trans (Zb ((Zu (Zwp rfl)).trans (Zb (Zm rfl))));exact congrArg Ze w
  have yes:∀{i:Nat}{c':Gc},run P (n+5) (O "chosen") [c1.d,nI iT,nI iE] h=.ok (nI i) h->G[i]? = Wn c'->run P (n+6) (O "gone_on") [.ref k,(Gc.iff iC iT iE).d] h=.ok c'.d h:=λ{i c'} q e'=>by rw[Zd H.gone_on rfl];have w:xs2 (P.tbl (n+5)) ZfI [Wn (.ref k),Wn (Gc.iff iC iT iE).d,Wo] h=.ok (.rt c'.d,_) h:=(Za (q1 q)).trans ((Za ((Zs (Zwq (x:=nI i) rfl (by simp[nI]))).trans rfl)).trans (Zb (Zm (ZbZ rfl rfl hk e'))));exact congrArg Ze w
  cases c1 with
  |num z=>
   right;cases tC<;>simp only[Fit]at fC;subst fC;have go:∀{i:Nat}{t:T},run P (n+5) (O "chosen") [(Gc.num z).d,nI iT,nI iE] h=.ok (nI i) h->Rd (gl G) i t->t.size<(T.iff (.num z) tT tE).size->bec (.iff (.num z) tT tE)=Wn t->∃s' N c' h',Ze (xs2 (P.tbl (n+6)) Zap [Wn (.ref k),Wn (Gc.iff iC iT iE).d] h)=.ok c'.d h'/\bec (.iff (.num z) tT tE)=Wn s'/\Gn.Cl [] s'/\Wr G k y h s' N c' h':=λ{i t} q r lt b=>by have r':=Rd.wo rd r lt;obtain⟨c',e',f',p'⟩:=r'.inv;exact⟨t,[],c',h,up (yes q (ZcX _ _ e')),b,(ZiU (.iff (.num z) tT tE) t rfl cs (by lia) b).1,ZmG hk,.refl,f',by rw[Ys];exact p',by simp⟩
   by_cases z0:z=0
   . refine go (i:=iE) (t:=tE) (qc.trans ?_) rE (by lia) ?_
     . simp[z0]
     . simp[bec,z0]
   . refine go (i:=iT) (t:=tT) (qc.trans ?_) rT (by have:=ZG tE;lia) ?_
     . simp[z0]
     . simp[bec,z0]
  |fn x b=>exact .inl ⟨up (no qc),by cases tC<;>simp only[Fit]at fC;rfl⟩
  |rcc g x b=>exact .inl ⟨up (no qc),by cases tC<;>simp only[Fit]at fC;rfl⟩
  |_=>cases v1
 |op w tA tB=>
  cases c<;>simp only[Fit]at f;rename_i w' iA iB;subst f;obtain⟨rA,rB⟩:=pr2 pp;obtain⟨c1,e1,v1⟩:=wv iA (by simp[Gc.pf,Gc.ps]);obtain⟨c2,e2,v2⟩:=wv iB (by simp[Gc.pf,Gc.ps]);obtain⟨vA,fA⟩:=ZeX e1 v1 rA;obtain⟨vB,fB⟩:=ZeX e2 v2 rB;have ix:Za8 P.GD (Gc.op w' iA iB).d (.int 0) h=.ok (.str w'.s) h:=rfl;have x0:xs1 (P.tbl (n+6)) Zdw [Wn (.ref k),Wn (Gc.op w' iA iB).d] h=.ok (.nx,_) h:=(Zs (Zq (Zcu ((ZD rfl rfl).trans ix) rfl) (by cases w'<;>simp[Wd.s]))).trans rfl;have x1:xs1 (P.tbl (n+6)) ZfX [Wn (.ref k),Wn (Gc.op w' iA iB).d] h=.ok (.nx,_) h:=(Zs (Zq (Zcu ((ZD rfl rfl).trans ix) rfl) (by cases w'<;>simp[Wd.s]))).trans rfl;have up:∀{d:D},run P (n+6) (O "worked") [.str w'.s,c1.d,c2.d] h=.ok d h->Ze (xs2 (P.tbl (n+6)) Zap [Wn (.ref k),Wn (Gc.op w' iA iB).d] h)=.ok d h:=λ{d} q=>by have w:xs2 (P.tbl (n+6)) Zap [Wn (.ref k),Wn (Gc.op w' iA iB).d] h=.ok (.rt d,_) h:=(Za x0).trans ((Za x1).trans (Zb (Zm (Zo q (Zc ((ZD rfl rfl).trans ix) (Zc (ZbZ (k:=k) (n:=iA) rfl rfl hk e1) (Zc (ZbZ (k:=k) (n:=iB) rfl rfl hk e2) rfl)))))));exact congrArg Ze w
  by_cases bo:∃x y,c1=.num x/\c2=.num y
  . obtain⟨x,z,rfl,rfl⟩:=bo;cases tA<;>simp only[Fit]at fA;cases tB<;>simp only[Fit]at fB;subst fA;subst fB;right;refine⟨.num (_root_.Rw.wk w' x z),[],.num (_root_.Rw.wk w' x z),h,up (_root_.Rw.worked_nn H.worked H.gb (n+5) w' cs.1 cs.2),rfl,(ZiU (.op w' (.num x) (.num z)) _ ⟨rfl,rfl⟩ cs (by lia) rfl).1,ZmG hk,.refl,rfl,.nil,by simp⟩
  . refine .inl ⟨up (Zjn H (n+5) w' c1 c2 v1 v2 bo),?_⟩;cases tA with
    |num x=>
     cases tB with
     |num z=>cases c1<;>simp only[Fit]at fA;cases c2<;>simp only[Fit]at fB;exact absurd ⟨_,_,rfl,rfl⟩ bo
     |_=>rfl
    |_=>rfl
def Zex{t:T}(sc:List Str)(c:Gn.Cl [] t):Gn.Cl sc t:=Gn.Cl.mono (λy hy=>by cases hy) c
def Zs3{g g':Nat->Option Gc}{y:Nat}{s':T}(ne:∀i,i≠y->g' i=g i)(ry:Rd g' y s')(cs:Gn.Cl [] s'){i:Nat}{t:T}(rd:Rd g i t):∀sc,Gn.Cl sc t->∃t',Rd g' i t'/\Gn.Cl sc t':=by
 induction rd with
 |@num i n e=>
  intro sc c;by_cases z:i=y
  . exact⟨s',z ▸ ry,Zex sc cs⟩
  . exact⟨_,.num ((ne i z).trans e),c⟩
 |@name i x e=>
  intro sc c;by_cases z:i=y
  . exact⟨s',z ▸ ry,Zex sc cs⟩
  . exact⟨_,.name ((ne i z).trans e),c⟩
 |@fn i x b t e _ ih=>
  intro sc c;by_cases z:i=y
  . exact⟨s',z ▸ ry,Zex sc cs⟩
  . obtain⟨u,r,k⟩:=ih _ c.1;exact⟨_,.fn ((ne i z).trans e) r,k,c.2⟩
 |@rcc i f x b t e _ ih=>
  intro sc c;by_cases z:i=y
  . exact⟨s',z ▸ ry,Zex sc cs⟩
  . obtain⟨u,r,k⟩:=ih _ c.1;exact⟨_,.rcc ((ne i z).trans e) r,k,c.2⟩
 |@call i a b s t e _ _ ia ib=>
  intro sc c;by_cases z:i=y
  . exact⟨s',z ▸ ry,Zex sc cs⟩
  . obtain⟨u,r,k⟩:=ia _ c.1;obtain⟨v,r2,k2⟩:=ib _ c.2;exact⟨_,.call ((ne i z).trans e) r r2,k,k2⟩
 |@iff i a b d s t u e _ _ _ ia ib ic=>
  intro sc c;by_cases z:i=y
  . exact⟨s',z ▸ ry,Zex sc cs⟩
  . obtain⟨u,r,k⟩:=ia _ c.1;obtain⟨v,r2,k2⟩:=ib _ c.2.1;obtain⟨w,r3,k3⟩:=ic _ c.2.2;exact⟨_,.iff ((ne i z).trans e) r r2 r3,k,k2,k3⟩
 |@op i w a b s t e _ _ ia ib=>
  intro sc c;by_cases z:i=y
  . exact⟨s',z ▸ ry,Zex sc cs⟩
  . obtain⟨u,r,k⟩:=ia _ c.1;obtain⟨v,r2,k2⟩:=ib _ c.2;exact⟨_,.op ((ne i z).trans e) r r2,k,k2⟩
def st(k r:Nat):D:=.tup [.ref k,nI r]
def Zsl{h:Hd}(e:h[i]? = Wn (.lst xs)):Z0 GD .lst [.ref i] h=.ok (.ref h.length) (h++[.lst xs]):=by show ZpP [.ref i] h=_;unfold ZpP seqOf lstOf;simp[e]
noncomputable def loud:D->D:=λs=>.tup [.str (O "loud"),s]
structure Sp(G G':List Gc)(y:Nat)(N:List Gc)(c c':Gc):Prop where
 g:G'=(G++N).set y c'
 e:G[y]? = Wn c
 v:c.isV=Wq
 n:N.length<=120
def Zs6(H:Lw P)(n:Nat){G:List Gc}{sk r:Nat}{t:T}(hk:h[sk]? = Wn (cl G))(rd:Rd (gl G) r t)(ct:Gn.Cl [] t)(hz:t.size<=120)(lG:G.length<=80000):(∃h',(run P (n+8) (O "graph_step") [st sk r] h=.ok (.tup [.str (O "value")]) h'\/run P (n+8) (O "graph_step") [st sk r] h=.ok (.tup [.str (O "stuck")]) h')/\Fm [] h h')\/∃k h' G' y N c c' t',run P (n+8) (O "graph_step") [st sk r] h=.ok (loud (st k r)) h'/\Fm [] h h'/\h'[k]? = Wn (cl G')/\h.length<=k/\Sp G G' y N c c'/\Rd (gl G') r t'/\Gn.Cl [] t':=by
 rw[Zd H.graph_step rfl];obtain⟨c0,e0,f0,_,_⟩:=rd.at;have t0:tst (P.tbl (n+7)) Zdu [Wn (st sk r),Wo,Wo,Wo] h=.ok c0.isV h:=Zaz (Zo (ZpG H (n+6) c0) (Zc (ZbZ (k:=sk) (n:=r) rfl rfl hk e0) rfl));cases v:c0.isV with
 |true=>rw[v]at t0;left;refine⟨h,.inl ?_,.refl⟩;have w:xs2 (P.tbl (n+7)) Zbx [Wn (st sk r),Wo,Wo,Wo] h=.ok (.rt (.tup [.str (O "value")]),_) h:=Zb ((Zu t0).trans (Zb (Zm (ZaA rfl (by simp)))));exact congrArg Ze w
 |false=>
  rw[v]at t0;have nv:Tm.isV t=Wq:=by rw[<- (Zdm f0).2.2.1];exact v
  have x1:xs1 (P.tbl (n+7)) ZdJ [Wn (st sk r),Wo,Wo,Wo] h=.ok (.nx,[Wn (st sk r),Wo,Wo,Wo]) h:=(Zs t0).trans rfl;have x2:xs1 (P.tbl (n+7)) ZdI [Wn (st sk r),Wo,Wo,Wo] h=.ok (.nx,[Wn (st sk r),Wn (.ref h.length),Wo,Wo]) (h++[cl G]):=Zl (i:=1) (Zev (Zc (x:=.ref sk) rfl rfl) (Zsl hk));have k1:(h++[cl G])[h.length]? = Wn (cl G):=ZaH;have f1:Fm [] h (h++[cl G]):=.app;generalize h++[cl G]=h1 at *;obtain⟨m,s,c,e3,nx⟩:=Zgx H (n+3) k1 rd nv ct (by lia);have x3:xs1 (P.tbl (n+7)) ZdH [Wn (st sk r),Wn (.ref h.length),Wo,Wo] h1=.ok (.nx,[Wn (st sk r),Wn (.ref h.length),Wn (nI m),Wo]) h1:=Zl (i:=2) (Zo e3 rfl);have q4:∀{d:D}{h2:Hd},run P (n+7) (O "written") [.ref h.length,c.d] h1=.ok d h2->xs1 (P.tbl (n+7)) ZdG [Wn (st sk r),Wn (.ref h.length),Wn (nI m),Wo] h1=.ok (.nx,[Wn (st sk r),Wn (.ref h.length),Wn (nI m),Wn d]) h2:=λq=>Zl (i:=3) (Zo q (Zc rfl (Zc (ZbZ (k:=h.length) (n:=m) rfl rfl k1 nx.a) rfl)));have cv:c.isV=Wq:=by rw[(Zdm nx.f).2.2.1];exact nx.v
  rcases ZmV H n k1 nx.r nx.a nx.f nx.p nx.v nx.k (OE nx.z hz) nx.w lG with ⟨q,_⟩|⟨s',N,c',h2,q,b,cs,w⟩
  . left;refine⟨h1,.inr ?_,f1⟩;have w:xs2 (P.tbl (n+7)) Zbx [Wn (st sk r),Wo,Wo,Wo] h=.ok (.rt (.tup [.str (O "stuck")]),_) h1:=(Za x1).trans ((Za x2).trans ((Za x3).trans ((Za (q4 q)).trans (Zb ((Zu (Zwp rfl)).trans (Zb (Zm (ZaA rfl (by simp)))))))));exact congrArg Ze w
  . right;have lm:m<G.length:=(Ob.mp nx.a).1;have lm':m<(G++N).length:=by simp;lia
    have ne:∀i,i≠m->gl ((G++N).set m c') i=gl (G++N) i:=λi hi=>Oc hi.symm;have mono:∀i c,wo (gl (G++N)) m i=Wn c->gl ((G++N).set m c') i=Wn c:=λi c h=>by
     unfold wo at h;split at h
     . cases h
     . rename_i z;rw[ne i z];exact h
    have ry:Rd (gl ((G++N).set m c')) m s':=Rd.mk (show((G++N).set m c')[m]? = Wn c' by rw[Ol lm']) w.f (Paired.mapP w.p λ_ _ z=>z.mono mono);obtain⟨t',rt,ct'⟩:=Zs3 ne ry cs (rd.mono λi c h=>ZbS h) [] ct;refine⟨h.length,h2.set h.length (cl ((G++N).set m c')),_,m,N,c,c',t',?_,Fm.cut (S_:=[h.length]) ((f1.sub (by simp)).trans (w.m.trans (.set (by simp)))) λi hi=>.inr (by simp at hi;lia),by rw[Ol (Zx w.c)],Oq _,⟨rfl,nx.a,cv,w.n⟩,rt,ct'⟩
    . have x5:xs1 (P.tbl (n+7)) ZdF [Wn (st sk r),Wn (.ref h.length),Wn (nI m),Wn c'.d] h2=.ok (.nx,[Wn (st sk r),Wn (.ref h.length),Wn (nI m),Wn c'.d]) h2:=(Zs (Zwq (x:=c'.d) rfl (by simp[Gc.d]))).trans rfl;have x6:xs1 (P.tbl (n+7)) ZdE [Wn (st sk r),Wn (.ref h.length),Wn (nI m),Wn c'.d] h2=.ok (.nx,[Wn (st sk r),Wn (.ref h.length),Wn (nI m),Wn c'.d]) (h2.set h.length (cl ((G++N).set m c'))):=Zsf rfl rfl rfl (Zof w.c lm');have w:xs2 (P.tbl (n+7)) Zbx [Wn (st sk r),Wo,Wo,Wo] h=.ok (.rt (loud (st h.length r)),_) (h2.set h.length (cl ((G++N).set m c'))):=(Za x1).trans ((Za x2).trans ((Za x3).trans ((Za (q4 q)).trans ((Za x5).trans ((Za x6).trans (Zb (Zm (ZaA (xs:=[.str (O "loud"),st h.length r]) (Zc rfl (Zc (ZaA (xs:=[.ref h.length,nI r]) rfl (by simp)) rfl)) (by simp)))))))));exact congrArg Ze w
structure Sg(G:List Gc)(sk pe fk wk:Nat)(h0 h:Hd)(u:Int)(F:List T)(W:List (Nat×T)):Prop where
 s:h[sk]? = Wn (cl G)
 p:h[pe]? = Wn (ZbC (.int 120) u)
 f:h[fk]? = Wn (.lst (F.map tf))
 w:h[wk]? = Wn (.lst (W.map λp=>nI p.1).reverse)
 m:Fm [pe,fk,wk] h0 h
 sf:sk≠fk
 sw:sk≠wk
 fw:fk≠wk
def Sg.ne(q:Sg G sk pe fk wk h0 h u F W):pe≠sk/\pe≠fk/\pe≠wk:=by have k:∀{i j:Nat}{x y:DO},h[i]? = Wn x->h[j]? = Wn y->x≠y->i≠j:=λa b c z=>c (by rw[z,b]at a;exact(YE a).symm);exact⟨k q.p q.s (by simp[ZbC,cl]),k q.p q.f (by simp[ZbC]),k q.p q.w (by simp[ZbC])⟩
def eg(sk r pe fk wk:Nat)(o:Option D):Ev:=[Wn (st sk r),Wn (.ref pe),Wn (.ref fk),Wn (.ref wk),o]
noncomputable def tot(W:List (Nat×T)):Nat:=(W.map λp=>p.2.size).sum
def ZeI(p:Nat×T)(W:List (Nat×T)):tot (p::W)=p.2.size+tot W:=by simp[tot]
noncomputable def zp:List Nat->List T->List (Nat×T)
 |n::ns,t::ts=>(n,t)::zp ns ts
 |_,_=>[]
theorem Zr0{R:Nat->T->Prop}:∀{ns:List Nat}{ts:List T},Paired R ns ts->(∀p∈zp ns ts,R p.1 p.2)/\(zp ns ts).map (·.1)=ns/\tot (zp ns ts)=(ts.map T.size).sum/\(zp ns ts).map (·.2)=ts
 |_,_,.nil=>⟨λ_ h=>(by cases h),rfl,rfl,rfl⟩
 |_,_,.cons r q=>by
  obtain⟨a,b,c,d⟩:=Zr0 q;refine⟨λp hp=>?_,by simp[zp,b],by rw[zp,ZeI,c];simp,by simp[zp,d]⟩;rw[zp]at hp;rcases O2.mp hp with rfl|hp
  . exact r
  . exact a p hp
def Zsg(H:Lw P)(n:Nat){G:List Gc}{h0:Hd}{i:Nat}{t:T}{F:List T}{W:List (Nat×T)}{c:Gc}(q:Sg G sk pe fk wk h0 h u F ((i,t)::W))(e:G[i]? = Wn c)(o:Option D):xs1 (P.tbl (n+1)) Zcz (eg sk r pe fk wk o) h=.ok (.nx,eg sk r pe fk wk (Wn c.d)) (h.set wk (.lst (W.map λp=>nI p.1).reverse))/\Sg G sk pe fk wk h0 (h.set wk (.lst (W.map λp=>nI p.1).reverse)) u F W:=by
 have kw:h[wk]? = Wn (.lst ((W.map λp=>nI p.1).reverse++[nI i])):=by rw[q.w];simp
 obtain⟨n1,n2,n3⟩:=q.ne;have s1:Sg G sk pe fk wk h0 (h.set wk (.lst (W.map λp=>nI p.1).reverse)) u F W:=⟨ZE q.s q.sw,ZE q.p n3,ZE q.f q.fw,ZcF q.w,q.m.trans (.set (by simp)),q.sf,q.sw,q.fw⟩
 refine⟨Zl (i:=4) ?_,s1⟩;have a:ev (P.tbl (n+1)) (.meth .pop (.var 3) .nil) (eg sk r pe fk wk o) h=.ok (nI i) (h.set wk (.lst (W.map λp=>nI p.1).reverse)):=ZiH (i:=wk) rfl kw rfl (ZeS kw);exact(ZD (x:=.ref sk) rfl a).trans ((ZP s1.s).trans (by rw[ZuP e];rfl))
def Zvh(H:Lw P)(n:Nat){G:List Gc}{h0:Hd}{i:Nat}{t:T}{F:List T}{W:List (Nat×T)}{u:Int}(q:Sg G sk pe fk wk h0 h u F ((i,t)::W))(hu:u+1<=120)(rd:Rd (gl G) i t)(hF:F.length<=1000)(hW:W.length<=1000)(o:Option D):∃h' o' V,xs2 (P.tbl (n+1)) Z4 (eg sk r pe fk wk o) h=.ok (.nx,eg sk r pe fk wk o') h'/\Sg G sk pe fk wk h0 h' (u+1) (F++[t]) (V++W)/\(∀p∈V,Rd (gl G) p.1 p.2)/\tot V+1=t.size/\V.map (·.2)=t.parts:=by
 obtain⟨c,e,f,pp,_⟩:=rd.at;obtain⟨x1,q1⟩:=Zsg H n (r:=r) q e o;obtain⟨n1,n2,n3⟩:=q.ne;generalize h.set wk (.lst (W.map λp=>nI p.1).reverse)=h1 at *;have x2:xs1 (P.tbl (n+1)) Zcy (eg sk r pe fk wk (Wn c.d)) h1=.ok (.nx,eg sk r pe fk wk (Wn c.d)) (h1.set pe (ZbC (.int 120) (u+1))):=ZfU (ZhV (i:=pe) rfl q1.p rfl rfl (Zs5 H.b n (.inr ⟨120,rfl,hu⟩) q1.p));have q2:Sg G sk pe fk wk h0 (h1.set pe (ZbC (.int 120) (u+1))) (u+1) F W:=⟨ZE q1.s n1.symm,ZcF q1.p,ZE q1.f n2.symm,ZE q1.w n3.symm,q1.m.trans (.set (by simp)),q.sf,q.sw,q.fw⟩
 generalize h1.set pe (ZbC (.int 120) (u+1))=h2 at *;have ft:D.tup c.fr=tf t:=by rw[(Zdm f).1];rfl
 have x3:xs1 (P.tbl (n+1)) Zcx (eg sk r pe fk wk (Wn c.d)) h2=.ok (.nx,eg sk r pe fk wk (Wn c.d)) (h2.set fk (.lst ((F++[t]).map tf))):=by rw[List.map_append,List.map_singleton,<- ft];exact ZfU (ZiH (i:=fk) rfl q2.f (Zc (Zo (Zmy H.b n c) rfl) rfl) (ZbE q2.f (by rw[YB];simp;lia)))
 have q3:Sg G sk pe fk wk h0 (h2.set fk (.lst ((F++[t]).map tf))) (u+1) (F++[t]) W:=⟨ZE q2.s q.sf,ZE q2.p n2,ZcF q2.f,ZE q2.w q.fw.symm,q2.m.trans (.set (by simp)),q.sf,q.sw,q.fw⟩
 generalize h2.set fk (.lst ((F++[t]).map tf))=h3 at *;obtain⟨a,b,cc,d⟩:=Zr0 pp;have l3:=Zfs c;have kl:(h3++[DO.lst (c.ps.map nI).reverse])[h3.length]? = Wn (.lst (c.ps.map nI).reverse):=ZaH;have kw:(h3++[DO.lst (c.ps.map nI).reverse])[wk]? = Wn (.lst (W.map λp=>nI p.1).reverse):=keep q3.w;have lw:=Zx q3.w;have x4:xs1 (P.tbl (n+1)) Zcw (eg sk r pe fk wk (Wn c.d)) h3=.ok (.nx,eg sk r pe fk wk (Wn c.d)) ((h3++[DO.lst (c.ps.map nI).reverse]).set wk (.lst ((W.map λp=>nI p.1).reverse++(c.ps.map nI).reverse))):=by
  have qq:ev (P.tbl (n+1)) (.lrv (.call (O "parts_of") (.cons (.var 4) .nil))) (eg sk r pe fk wk (Wn c.d)) h3=.ok (.ref h3.length) (h3++[DO.lst (c.ps.map nI).reverse]):=by rw[Zuv,show ev (P.tbl (n+1)) (.call (O "parts_of") (.cons (.var 4) .nil)) (eg sk r pe fk wk (Wn c.d)) h3=_ from Zo (Zgj H.b.toTre n c) rfl,Zg];rfl
  exact ZfU (ZiH (i:=wk) rfl q3.w (Zc qq rfl) (Zjz kw kl (by lia) (by simp;lia)))
 refine⟨_,Wn c.d,zp c.ps t.parts,(Za x1).trans ((Za x2).trans ((Za x3).trans ((Za x4).trans rfl))),⟨ZE (keep q3.s) q.sw,ZE (keep q3.p) n3,ZE (keep q3.f) q.fw,?_,(q3.m.trans .app).trans (.set (by simp)),q.sf,q.sw,q.fw⟩,a,by rw[cc,Zi t];lia,d⟩;have eb:c.ps.map nI=(zp c.ps t.parts).map λp=>nI p.1:=(congrArg (List.map nI) b).symm.trans (List.map_map);rw[ZcF kw,List.map_append,List.reverse_append,eb]
def Zxi(H:Lw P)(n:Nat){G:List Gc}{h0:Hd}{i:Nat}{t:T}{F:List T}{W:List (Nat×T)}(q:Sg G sk pe fk wk h0 h 120 F ((i,t)::W))(rd:Rd (gl G) i t)(o:Option D):∃h',xs2 (P.tbl (n+1)) Z4 (eg sk r pe fk wk o) h=.exc (O "Wide") h'/\Fm [pe,fk,wk] h0 h':=by obtain⟨c,e,f,pp,_⟩:=rd.at;obtain⟨x1,q1⟩:=Zsg H n (r:=r) q e o;refine⟨_,(Za x1).trans (Zlu (ZwL (ZhV (i:=pe) rfl q1.p rfl rfl (Zn6 H.b H.w n q1.p)))),q1.m⟩
def Zmh(n:Nat){G:List Gc}{h0:Hd}{F:List T}{W:List (Nat×T)}(q:Sg G sk pe fk wk h0 h u F W)(o:Option D):tst (P.tbl (n+1)) ZaB (eg sk r pe fk wk o) h=.ok (!W.isEmpty) h:=Zq (Zjb (i:=wk) rfl q.w) (by cases W<;>simp)
theorem Zl5:∀W:List (Nat×T),W.length<=tot W
 |[]=>Oq _
 |p::W=>by have:=Zl5 W;have:=ZG p.2;rw[ZeI,Os];lia
def ZlA(V W:List (Nat×T)):tot (V++W)=tot V+tot W:=by simp[tot]
theorem Zwi(H:Lw P)(n:Nat){G:List Gc}{h0:Hd}:∀(fuel:Nat) (W:List (Nat×T)) (F:List T) (u:Int) (h:Hd) (o:Option D),tot W<fuel->(∀p∈W,Rd (gl G) p.1 p.2)->u+(tot W:Nat)<=120->F.length+tot W<=1000->tot W<=1000->Sg G sk pe fk wk h0 h u F W->∃h' o' u',ZT (tst (P.tbl (n+1)) ZaB) (xs2 (P.tbl (n+1)) Z4) fuel (eg sk r pe fk wk o) h=.ok (.nx,eg sk r pe fk wk o') h'/\Sg G sk pe fk wk h0 h' u' (F++W.flatMap λp=>p.2.places) []
 |0,W,F,u,h,o,hf,_,_,_,_,_=>by lia
 |fuel+1,[],F,u,h,o,hf,_,_,_,_,q=>⟨h,o,u,Zgc (Zmh n q o),by simpa using q⟩
 |fuel+1,(i,t)::W,F,u,h,o,hf,hs,hu,hF,hz,q=>by
  rw[ZeI]at hf hu hF hz;simp only at hf hu hF hz;have lw:=Zl5 W;have st:=ZG t;obtain⟨h1,o1,V,x,q1,hV,zV,pV⟩:=Zvh H n (r:=r) q (by lia) (hs (i,t) (.head _)) (by lia) (by lia) o;have ta:=ZlA V W;obtain⟨h2,o2,u2,y,q2⟩:=Zwi H n (r:=r) fuel (V++W) (F++[t]) (u+1) h1 o1 (by lia) (λp hp=>(OD.mp hp).elim (hV p) λz=>hs p (.tail _ z)) (by lia) (by simp;lia) (by lia) q1;refine⟨h2,o2,u2,(ZcD (Zq (Zmh n q o) rfl) x).trans y,?_⟩;have e:F++((i,t)::W).flatMap (λp=>p.2.places)=F++[t]++(V++W).flatMap λp=>p.2.places:=by rw[List.flatMap_cons,List.flatMap_append,T.places_parts,<- pV];simp[List.flatMap_map]
  rw[e];exact q2
theorem Zwh(H:Lw P)(n:Nat){G:List Gc}{h0:Hd}:∀(fuel z:Nat) (W:List (Nat×T)) (F:List T) (u:Int) (h:Hd) (o:Option D),z<fuel->u+(z:Int)=120->(∀p∈W,Rd (gl G) p.1 p.2)->z<tot W->F.length+z<=1000->W.length+3 * z<=1000->Sg G sk pe fk wk h0 h u F W->∃h',ZT (tst (P.tbl (n+1)) ZaB) (xs2 (P.tbl (n+1)) Z4) fuel (eg sk r pe fk wk o) h=.exc (O "Wide") h'/\Fm [pe,fk,wk] h0 h'
 |0,z,W,F,u,h,o,hf,_,_,_,_,_,_=>by lia
 |fuel+1,z,[],F,u,h,o,hf,_,_,ht,_,_,q=>by simp[tot]at ht
 |fuel+1,0,(i,t)::W,F,u,h,o,hf,hu,hs,ht,hF,hW,q=>by
  have:u=120:=by lia
  subst this;obtain⟨h1,x,m⟩:=Zxi H n (r:=r) q (hs (i,t) (.head _)) o;exact⟨h1,Zp2 (Zq (Zmh n q o) rfl) x,m⟩
 |fuel+1,z+1,(i,t)::W,F,u,h,o,hf,hu,hs,ht,hF,hW,q=>by
  rw[ZeI]at ht;simp only[Os]at ht hW;obtain⟨h1,o1,V,x,q1,hV,zV,pV⟩:=Zvh H n (r:=r) q (by lia) (hs (i,t) (.head _)) (by lia) (by lia) o;have ta:=ZlA V W;have lV:V.length<=3:=by rw[<- Yt (f:=(·.2)),pV];cases t<;>simp[T.parts]
  obtain⟨h2,y,m⟩:=Zwh H n (r:=r) fuel z (V++W) (F++[t]) (u+1) h1 o1 (by lia) (by lia) (λp hp=>(OD.mp hp).elim (hV p) λz=>hs p (.tail _ z)) (by lia) (by simp;lia) (by simp;lia) q1;exact⟨h2,(ZcD (Zq (Zmh n q o) rfl) x).trans y,m⟩
def Zs7(H:Lw P)(n:Nat){G:List Gc}{sk r:Nat}{t:T}(hk:h[sk]? = Wn (cl G))(rd:Rd (gl G) r t):∃h',Fm [] h h'/\run P (n+3) (O "graph_read") [st sk r] h=if t.size<=120 then .ok t.d h' else .exc (O "Wide") h':=by
 rw[Zd H.graph_read rfl];have lk:=Zx hk;have big:=H.b.big;have x1:xs1 (P.tbl (n+2)) ZdL [Wn (st sk r),Wo,Wo,Wo,Wo] h=.ok (.nx,[Wn (st sk r),Wn (.ref h.length),Wo,Wo,Wo]) (h++[ZbC (.int 120) 0]):=by
  have q:ev (P.tbl (n+2)) (.mk (O "Pen") (.cons (.glo (O "WIDEST")) .nil)) [Wn (st sk r),Wo,Wo,Wo,Wo] h=.ok (.ref h.length) (h++[ZbC (.int 120) 0]):=by rw[Zsr,show evs (P.tbl (n+2)) (.cons (.glo (O "WIDEST")) .nil) [Wn (st sk r),Wo,Wo,Wo,Wo] h=.ok [.int 120] h from Zc (congrArg (λo=>R.ofO o h) H.gw) rfl,Zg];exact Zvz H.b (n+1) (.int 120) h
  exact Zl (i:=1) q
 have x2:xs1 (P.tbl (n+2)) ZbO [Wn (st sk r),Wn (.ref h.length),Wo,Wo,Wo] (h++[ZbC (.int 120) 0])=.ok (.nx,[Wn (st sk r),Wn (.ref h.length),Wn (.ref (h.length+1)),Wo,Wo]) (h++[ZbC (.int 120) 0,.lst []]):=by simp[ZbO,YB]
 have x3:xs1 (P.tbl (n+2)) ZdK [Wn (st sk r),Wn (.ref h.length),Wn (.ref (h.length+1)),Wo,Wo] (h++[ZbC (.int 120) 0,.lst []])=.ok (.nx,eg sk r h.length (h.length+1) (h.length+2) Wo) (h++[ZbC (.int 120) 0,.lst [],.lst [nI r]]):=by
  have q:ev (P.tbl (n+2)) (.lstl (.cons (.ix (.var 0) (.ci 1)) .nil)) [Wn (st sk r),Wn (.ref h.length),Wn (.ref (h.length+1)),Wo,Wo] (h++[ZbC (.int 120) 0,.lst []])=.ok (.ref (h.length+2)) (h++[ZbC (.int 120) 0,.lst [],.lst [nI r]]):=by rw[Znr (xs:=[nI r]) (Zc rfl rfl) (by simp)];simp
  exact Zl (i:=3) q
 have q0:Sg G sk h.length (h.length+1) (h.length+2) h (h++[ZbC (.int 120) 0,.lst [],.lst [nI r]]) 0 [] [(r,t)]:=⟨keep hk,ZaH,ZrV,Zyp,.app,by lia,by lia,by lia⟩
 have cut:∀{h'},Fm [h.length,h.length+1,h.length+2] h h'->Fm [] h h':=λf=>f.cut λi hi=>.inr (by simp at hi;lia);have tt:tot [(r,t)]=t.size:=by simp[tot]
 by_cases hz:t.size<=120
 . obtain⟨h1,o1,u1,e1,q1⟩:=Zwi H (n+1) (r:=r) P.L [(r,t)] [] 0 _ Wo (by lia) (λp hp=>by rw[Ox.mp hp];exact rd) (by lia) (by simp;lia) (by lia) q0;obtain⟨g,eb⟩:=Zqr H.b n t (h:=h1) (fk:=h.length+1) (by rw[q1.f];simp) (by lia);refine⟨h1++g,(cut q1.m).trans .app,?_⟩;rw[if_pos hz];have w:xs2 (P.tbl (n+2)) ZcR [Wn (st sk r),Wo,Wo,Wo,Wo] h=.ok (.rt t.d,_) (h1++g):=(Za x1).trans ((Za x2).trans ((Za x3).trans ((Za (s:=ZbN) (ZeH.trans e1)).trans (Zb (Zm (Zo eb rfl))))));exact congrArg Ze w
 . obtain⟨h1,e1,m1⟩:=Zwh H (n+1) (r:=r) P.L 120 [(r,t)] [] 0 _ Wo (by lia) (by lia) (λp hp=>by rw[Ox.mp hp];exact rd) (by lia) (by simp) (by simp) q0;refine⟨h1,cut m1,?_⟩;rw[if_neg hz];have w:xs2 (P.tbl (n+2)) ZcR [Wn (st sk r),Wo,Wo,Wo,Wo] h=.exc (O "Wide") h1:=(Za x1).trans ((Za x2).trans ((Za x3).trans (Zlu (s:=ZbN) (ZeH.trans e1))));exact congrArg Ze w
def Zs4(H:Lw P)(n:Nat){G:List Gc}{sk r:Nat}{t:T}(hk:h[sk]? = Wn (cl G))(rd:Rd (gl G) r t):∃h',Fm [] h h'/\run P (n+4) (O "_law_is_wide") [st sk r] h=.ok (.bl (!Wt (t.size<=120))) h':=by
 obtain⟨h',m,e⟩:=Zs7 H n hk rd;refine⟨h',m,?_⟩;rw[Zd H.law_is_wide rfl];by_cases hz:t.size<=120
 . rw[if_pos hz]at e;have x1:xs1 (P.tbl (n+3)) Zbd [Wn (st sk r)] h=.ok (.nx,[Wn (st sk r)]) h':=by show(evs (P.tbl (n+3)) (.cons (.var 0) .nil) [Wn (st sk r)] h).plain.bind (λxs h1=>catchR (O "Wide") Wp [Wn (st sk r)] (run P (n+3) (O "graph_read") xs h1))=_;show catchR (O "Wide") Wp [Wn (st sk r)] (run P (n+3) (O "graph_read") [st sk r] h)=_;rw[e];rfl
   have w:xs2 (P.tbl (n+3)) Zco [Wn (st sk r)] h=.ok (.rt (.bl Wq),_) h':=(Za x1).trans (Zb (Zm rfl));rw[decide_eq_true hz];exact congrArg Ze w
 . rw[if_neg hz]at e;have x1:xs1 (P.tbl (n+3)) Zbd [Wn (st sk r)] h=.ok (.rt (.bl Wp),[Wn (st sk r)]) h':=by show(evs (P.tbl (n+3)) (.cons (.var 0) .nil) [Wn (st sk r)] h).plain.bind (λxs h1=>catchR (O "Wide") Wp [Wn (st sk r)] (run P (n+3) (O "graph_read") xs h1))=_;show catchR (O "Wide") Wp [Wn (st sk r)] (run P (n+3) (O "graph_read") [st sk r] h)=_;rw[e];simp[catchR]
   have w:xs2 (P.tbl (n+3)) Zco [Wn (st sk r)] h=.ok (.rt (.bl Wp),_) h':=Zb x1;rw[decide_eq_false hz];exact congrArg Ze w
end
section
variable {P:Pg}
def Za9:Nat->List T->List (Nat×T)
 |_,[]=>[]
 |i,t::ts=>(i,t)::Za9 (i+t.size) ts
noncomputable def nJ(p:Nat×T):D:=.int (p.1:Int)
def cell(i:Nat)(t:T):D:=.tup (fr t++(Za9 (i+1) t.parts).map nJ)
def cells:Nat->T->List D
 |i,.num n=>[cell i (.num n)]
 |i,.name x=>[cell i (.name x)]
 |i,.fn x e=>cell i (.fn x e)::cells (i+1) e
 |i,.rcc f x e=>cell i (.rcc f x e)::cells (i+1) e
 |i,.call f a=>cell i (.call f a)::(cells (i+1) f++cells (i+1+f.size) a)
 |i,.iff c t e=>cell i (.iff c t e)::(cells (i+1) c++(cells (i+1+c.size) t++cells (i+1+c.size+t.size) e))
 |i,.op w a b=>cell i (.op w a b)::(cells (i+1) a++cells (i+1+a.size) b)
def ZaQ:Nat->List T->List D
 |_,[]=>[]
 |i,t::ts=>cells i t++ZaQ (i+t.size) ts
def szs(ts:List T):Nat:=(ts.map T.size).sum
def ZeJ(t:T)(ts:List T):szs (t::ts)=t.size+szs ts:=by simp[szs]
def Zji(t:T):t.size=1+szs t.parts:=Zi t
def ZfW(i:Nat)(t:T):cells i t=cell i t::ZaQ (i+1) t.parts:=by cases t<;>simp[cells,ZaQ,T.parts]
theorem ZgE:∀(ts:List T) (i:Nat),(Za9 i ts).length=ts.length
 |[],_=>rfl
 |t::ts,i=>by simp[Za9,ZgE ts]
theorem ZfF:∀(m:Nat) (t:T) (i:Nat),t.size<=m->(cells i t).length=t.size
 |0,t,i,h=>by have:=ZG t;omega
 |m+1,t,i,h=>by
  have L:∀(ts:List T) (i:Nat),szs ts<=m->(ZaQ i ts).length=szs ts:=by
   intro ts;induction ts with
   |nil=>intro i _;rfl
   |cons t ts ih=>intro i q;rw[ZeJ]at q ⊢;rw[ZaQ,OA,ZfF m t i (by omega),ih _ (by omega)]
  have:=Zji t;rw[ZfW,Os,L _ _ (by omega)];omega
theorem Zey:∀(ts:List T) (i:Nat),(ZaQ i ts).length=szs ts
 |[],i=>rfl
 |t::ts,i=>by rw[ZaQ,OA,ZfF t.size t i (Oq _),Zey ts,ZeJ]
theorem Zl6:∀ts:List T,ts.length<=szs ts
 |[]=>Oq _
 |t::ts=>by have:=Zl6 ts;have:=ZG t;rw[ZeJ,Os];omega
def ZpY{h0 h:Hd}{fk dk:Nat}{fs ds:List D}(b:B_ h0 h fk dk fs ds)(hf:h0.length<=fk)(es:List D):B_ h0 (h.set fk (.lst es)) fk dk es ds:=⟨by rw[Ol (Zx b.f)],by rw[Oc b.ne.symm];exact b.d,b.ne,b.o1,by simpa using b.ol,λi hi=>by rw[Oc (by omega)];exact b.old i hi⟩
def gb1:Sx:=(.set (.nm 5) (.comp [(O "part"),(O "numbers")] [Wo,Wn 3] (.pl (.call (O "parts_of") (.c (.v 4) .n))) (.nm 0) Wo (.meth .pop (.v 1) .n)))
def gb2:Sx:=(.drp (.meth .app (.v 2) (.c (.bin .Add (.call (O "front_of") (.c (.v 4) .n)) (.blt .tup (.c (.v 5) .n))) .n)))
def gb3:Sx:=(.drp (.meth .app (.v 3) (.c (.bin .Sub (.blt .len (.c (.v 1) .n)) (.blt .len (.c (.v 2) .n))) .n)))
def Zl3:Sxs:=.c gb1 (.c gb2 (.c gb3 .n))
def ZwA:Zak=.forr (.nm 4) (.rev (.var 1)) Zl3:=rfl
def Zxl(H:Trb P)(n:Nat){h0 h:Hd}{tk ck nk i:Nat}{tl C N:List D}(t:T)(ht:h0[tk]? = Wn (.lst tl))(hc:h0.length<=ck)(b:B_ h0 h ck nk C (N++((Za9 (i+1) t.parts).map nJ).reverse))(hi:C.length+1+i=tl.length)(hz:tl.length<=1000)(hN:N.length<=1000)(o0 o5:Option D):∃h' o5',
 xs2 (P.tbl (n+1)) Zl3 [o0,Wn (.ref tk),Wn (.ref ck),Wn (.ref nk),Wn t.d,o5] h=.ok (.nx,[o0,Wn (.ref tk),Wn (.ref ck),Wn (.ref nk),Wn t.d,o5']) h'/\B_ h0 h' ck nk (C++[cell i t]) (N++[.int (i:Int)]):=by
 have hp:t.parts.length<=3:=by cases t<;>simp[T.parts]
 have hf:(fr t).length<=3:=by cases t<;>simp[fr]
 have ep:=Gn.ZlL H.toTre n t h;have hl:=ZgE t.parts (i+1);obtain⟨h1,q1,b1⟩:=ZpF (U:=P.tbl (n+1)) (t.parts.map T.d) ((Za9 (i+1) t.parts).map nJ) N [] h (by simp[hl]) (by simp[hl];omega) b;have b2:=b1.app (g:=[.lst ((Za9 (i+1) t.parts).map nJ)]);have b3:=ZpY b2 hc (C++[cell i t]);have b4:=b3.set (N++[.int (i:Int)]);refine⟨_,Wn (.ref h1.length),?_,b4⟩;have x1:xs1 (P.tbl (n+1)) gb1 [o0,Wn (.ref tk),Wn (.ref ck),Wn (.ref nk),Wn t.d,o5] h=.ok (.nx,[o0,Wn (.ref tk),Wn (.ref ck),Wn (.ref nk),Wn t.d,Wn (.ref h1.length)]) (h1++[.lst ((Za9 (i+1) t.parts).map nJ)]):=by
  have ei:evi (P.tbl (n+1)) (.pl (.call (O "parts_of") (.cons (.var 4) .nil))) [o0,Wn (.ref tk),Wn (.ref ck),Wn (.ref nk),Wn t.d,o5] h=.ok ⟨[],t.parts.map T.d⟩ h:=by have e1:ev (P.tbl (n+1)) (.call (O "parts_of") (.cons (.var 4) .nil)) [o0,Wn (.ref tk),Wn (.ref ck),Wn (.ref nk),Wn t.d,o5] h=.ok (.tup (t.parts.map T.d)) h:=ep;rw[Zla,e1,Zg];rfl
  rw[gb1,Zgb,ZiI,ei,Zg];simp only[ZbI,Op,Oy,Option.bind_none,Yy];rw[show([o0,Wn (.ref tk),Wn (.ref ck),Wn (D.ref nk),Wn t.d,o5][3]?).join=Wn (.ref nk)from rfl,q1];rfl
 have x2:xs1 (P.tbl (n+1)) gb2 [o0,Wn (.ref tk),Wn (.ref ck),Wn (.ref nk),Wn t.d,Wn (.ref h1.length)] (h1++[.lst ((Za9 (i+1) t.parts).map nJ)])=.ok (.nx,[o0,Wn (.ref tk),Wn (.ref ck),Wn (.ref nk),Wn t.d,Wn (.ref h1.length)]) (List.set (h1++[.lst ((Za9 (i+1) t.parts).map nJ)]) ck (.lst (C++[cell i t]))):=by
  have ap:=ZbE (d:=cell i t) b2.f (by rw[YB];omega);have il:=Zby b2.f;have ef:=Zqp H n t (h1++[.lst ((Za9 (i+1) t.parts).map nJ)]);have ad:∀h',opB .Add (.tup (fr t)) (.tup ((Za9 (i+1) t.parts).map nJ)) h'=.ok (cell i t) h':=λh'=>Zir (by rw[YB];simp[hl];omega);have kk:(h1++[DO.lst ((Za9 (i+1) t.parts).map nJ)])[h1.length]? = Wn (.lst ((Za9 (i+1) t.parts).map nJ)):=ZaH;generalize h1++[DO.lst ((Za9 (i+1) t.parts).map nJ)]=h2 at *;have tu:Z0 P.GD .tup [.ref h1.length] h2=.ok (.tup ((Za9 (i+1) t.parts).map nJ)) h2:=by simp only[Z0,Znz,lstOf,kk];rfl
  generalize (Za9 (i+1) t.parts).map nJ=ns at *;simp[gb2,Pg.tbl,il,ef,tu,ad,ap]
 have x3:xs1 (P.tbl (n+1)) gb3 [o0,Wn (.ref tk),Wn (.ref ck),Wn (.ref nk),Wn t.d,Wn (.ref h1.length)] (List.set (h1++[.lst ((Za9 (i+1) t.parts).map nJ)]) ck (.lst (C++[cell i t])))=.ok (.nx,[o0,Wn (.ref tk),Wn (.ref ck),Wn (.ref nk),Wn t.d,Wn (.ref h1.length)]) (List.set (List.set (h1++[.lst ((Za9 (i+1) t.parts).map nJ)]) ck (.lst (C++[cell i t]))) nk (.lst (N++[.int (i:Int)]))):=by
  have ap:=ZbE (d:=.int (i:Int)) b3.d (by rw[YB];omega);have il:=Zby b3.d;have kt:=(b3.old tk (Zx ht)).trans ht;have kc:=b3.f;generalize List.set (h1++[DO.lst ((Za9 (i+1) t.parts).map nJ)]) ck (.lst (C++[cell i t]))=h3 at *;have l1:Z0 P.GD .len [.ref tk] h3=.ok (.int (tl.length:Int)) h3:=by simp[Z0,ZhC,seqOf,lstOf,kt]
  have l2:Z0 P.GD .len [.ref ck] h3=.ok (.int ((C.length:Int)+1)) h3:=by simp[Z0,ZhC,seqOf,lstOf,kc]
  have hs:(tl.length:Int) - ((C.length:Int)+1)=(i:Int):=by omega
  simp[gb3,Pg.tbl,il,l1,l2,hs,ap]
 rw[Zl3,Za x1,Za x2,Za x3];rfl
def wg(P:Pg)(n tk ck nk:Nat)(tl:List D)(o0:Option D)(rest:List D)(o4 o5:Option D)(h:Hd):R (Fl×Ev):=Z3 [(tk,tl)] (.nm 4) (xs2 (P.tbl (n+1)) Zl3) rest [o0,Wn (.ref tk),Wn (.ref ck),Wn (.ref nk),o4,o5] h
def Gt(P:Pg)(n:Nat)(h0:Hd)(tk ck nk:Nat)(tl:List D)(o0:Option D)(xs C0 N0 C1 N1:List D):Prop:=∀(rest:List D) (h:Hd) (o4 o5:Option D),B_ h0 h ck nk C0 N0->∃h' o4' o5',wg P n tk ck nk tl o0 (xs++rest) o4 o5 h=wg P n tk ck nk tl o0 rest o4' o5' h'/\B_ h0 h' ck nk C1 N1
section
variable {n:Nat}{h0:Hd}{tk ck nk:Nat}{tl:List D}{o0:Option D}{xs ys C0 C1 C2 N0 N1 N2:List D}
def Gt.nil:Gt P n h0 tk ck nk tl o0 [] C0 N0 C0 N0:=λrest h o2 o3 b=>⟨h,o2,o3,rfl,b⟩
def Gt.trans(a:Gt P n h0 tk ck nk tl o0 xs C0 N0 C1 N1)(b:Gt P n h0 tk ck nk tl o0 ys C1 N1 C2 N2):Gt P n h0 tk ck nk tl o0 (xs++ys) C0 N0 C2 N2:=λrest h o2 o3 q=>by obtain⟨h1,o21,o31,e1,q1⟩:=a (ys++rest) h o2 o3 q;obtain⟨h2,o22,o32,e2,q2⟩:=b rest h1 o21 o31 q1;exact⟨h2,o22,o32,by rw[Oz,e1,e2],q2⟩
end
theorem Zpd(H:Trb P){n:Nat}{h0:Hd}{tk ck nk:Nat}{tl:List D}{o0:Option D}(ht:h0[tk]? = Wn (.lst tl))(hc:h0.length<=ck)(hz:tl.length<=1000):∀(m:Nat) (t:T) (i:Nat) (C N:List D),t.size<=m->C.length+t.size+i=tl.length->N.length+t.size<=1000 ->
 Gt P n h0 tk ck nk tl o0 (t.places.map T.d).reverse C N (C++(cells i t).reverse) (N++[.int (i:Int)])
 |0,t,i,C,N,h,_,_=>by have:=ZG t;omega
 |m+1,t,i,C,N,h,hi,hN=>by
  have L:∀(ts:List T) (i:Nat) (C N:List D),szs ts<=m->C.length+szs ts+i<=tl.length->C.length+szs ts+i=tl.length->N.length+szs ts<=1000 ->
   Gt P n h0 tk ck nk tl o0 ((ts.flatMap T.places).map T.d).reverse C N (C++(ZaQ i ts).reverse) (N++((Za9 i ts).map nJ).reverse):=by
   intro ts;induction ts with
   |nil=>intro i C N _ _ _ _;simpa[ZaQ,Za9]using Gt.nil
   |cons t ts ih=>intro i C N q1 _ q2 q3;rw[ZeJ]at q1 q2 q3;have a:=ih (i+t.size) C N (by omega) (by omega) (by omega) (by omega);have lt:=Zl6 ts;have b:=Zpd H (n:=n) (nk:=nk) (o0:=o0) ht hc hz m t i (C++(ZaQ (i+t.size) ts).reverse) (N++((Za9 (i+t.size) ts).map nJ).reverse) (by omega) (by simp[Zey];omega) (by simp[ZgE];omega);have c:=a.trans b;simpa[ZaQ,Za9,nJ]using c
  have e:=Zji t;have a:=L t.parts (i+1) C N (by omega) (by omega) (by omega) (by omega);have hb:Gt P n h0 tk ck nk tl o0 [t.d] (C++(ZaQ (i+1) t.parts).reverse) (N++((Za9 (i+1) t.parts).map nJ).reverse) (C++(ZaQ (i+1) t.parts).reverse++[cell i t]) (N++[.int (i:Int)]):=λrest h o4 o5 b=>by obtain⟨h',o5',q,b'⟩:=Zxl H n t ht hc b (by simp[Zey];omega) hz (by omega) o0 o5;exact⟨h',Wn t.d,o5',ZjO ((b.old tk (Zx ht)).trans ht) rfl q,b'⟩
  have c:=a.trans hb;rw[T.places_parts,ZfW];simpa using c
theorem Zur{h h1:Hd}(hl:h.length<=h1.length)(q:∀ i,i<h.length->h1[i]? = h[i]?):∃ g,h1=h++g:=⟨h1.drop h.length,by
 apply List.ext_getElem?;intro i;rcases Nat.lt_or_ge i h.length with c|c
 . rw [q i c,Oe c]
 . rw [Om c,List.getElem?_drop];congr 1;omega⟩
def Zqs(H:Lw P)(n:Nat)(t:T)(hz:t.size<=120)(h:Hd):∃g k,run P (n+3) (O "graph_begun") [t.d] h=.ok (.tup [.ref k,.int 0]) (h++g)/\h.length<=k/\(h++g)[k]? = Wn (.lst (cells 0 t)):=by
 rw[Zd H.graph_begun (by rfl)];have ep:=Gn.Zn7 H.b.toTre H.pl n t h (by omega);have hl:(t.places.map T.d).length=t.size:=by simp[T.size]
 have ht:(h++[DO.lst (t.places.map T.d),.lst []])[h.length]? = Wn (.lst (t.places.map T.d)):=by simp
 have ol:h.length<=(h++[DO.lst (t.places.map T.d),.lst []]).length:=by simp
 have old:∀i,i<h.length->(h++[DO.lst (t.places.map T.d),.lst []])[i]? = h[i]? := λi hi=>Oe hi;generalize htl:t.places.map T.d=tl at *;generalize h++[DO.lst tl,.lst []]=h0 at *;have b0:B_ h0 (h0++[.lst [],.lst []]) h0.length (h0.length+1) [] []:=⟨by simp,by simp,by omega,by omega,by simp,λi hi=>Oe hi⟩
 obtain⟨h1,o4,o5,e1,b1⟩:=Zpd H.b (n:=n+1) (nk:=h0.length+1) (o0:=Wn t.d) ht (Oq h0.length) (by omega) t.size t 0 [] [] (Oq _) (by simp;omega) (by simp;omega) [] _ Wo Wo b0;have kt:=(b1.old h.length (Zx ht)).trans ht;have e2:wg P (n+1) h.length h0.length (h0.length+1) tl (Wn t.d) [] o4 o5 h1=.ok (.nx,[Wn t.d,Wn (.ref h.length),Wn (.ref h0.length),Wn (.ref (h0.length+1)),o4,o5]) h1:=ZjP kt;rw[e2,Ys,htl]at e1;have x1:xs1 (P.tbl (n+2)) Zbe [Wn t.d,Wo,Wo,Wo,Wo,Wo] h=.ok (.nx,[Wn t.d,Wn (.ref h.length),Wo,Wo,Wo,Wo]) h0:=Zl (Zo ep rfl);have x2:xs1 (P.tbl (n+2)) Zam [Wn t.d,Wn (.ref h.length),Wo,Wo,Wo,Wo] h0=.ok (.nx,[Wn t.d,Wn (.ref h.length),Wn (.ref h0.length),Wo,Wo,Wo]) (h0++[.lst []]):=by simp[Zam,YB]
 have x3:xs1 (P.tbl (n+2)) Zal [Wn t.d,Wn (.ref h.length),Wn (.ref h0.length),Wo,Wo,Wo] (h0++[.lst []])=.ok (.nx,[Wn t.d,Wn (.ref h.length),Wn (.ref h0.length),Wn (.ref (h0.length+1)),Wo,Wo]) (h0++[.lst [],.lst []]):=by simp[Zal,YB]
 have x4:xs1 (P.tbl (n+2)) Zak [Wn t.d,Wn (.ref h.length),Wn (.ref h0.length),Wn (.ref (h0.length+1)),Wo,Wo] (h0++[.lst [],.lst []])=.ok (.nx,[Wn t.d,Wn (.ref h.length),Wn (.ref h0.length),Wn (.ref (h0.length+1)),o4,o5]) h1:=by
  have ei:evi (P.tbl (n+2)) (.rev (.var 1)) [Wn t.d,Wn (.ref h.length),Wn (.ref h0.length),Wn (.ref (h0.length+1)),Wo,Wo] (h0++[.lst [],.lst []])=.ok ⟨[(h.length,tl)],tl.reverse⟩ (h0++[.lst [],.lst []]):=by have:=(b0.old h.length (Zx ht)).trans ht;generalize h0++[DO.lst [],.lst []]=hh at *;simp[ZhE,this]
  rw[ZwA,ZgS ei];exact e1
 have b2:=ZpY b1 (Oq _) (cells 0 t);have x5:xs1 (P.tbl (n+2)) Zaj [Wn t.d,Wn (.ref h.length),Wn (.ref h0.length),Wn (.ref (h0.length+1)),o4,o5] h1=.ok (.nx,[Wn t.d,Wn (.ref h.length),Wn (.ref h0.length),Wn (.ref (h0.length+1)),o4,o5]) (h1.set h0.length (.lst (cells 0 t))):=by
  have k:=b1.f;have il:=Zby k;simp only[OB]at k;have rv:ZbF .rev (.ref h0.length) [] h1=.ok .non (h1.set h0.length (.lst (cells 0 t))):=by simp[ZbF,k,Zf3,ZtT]
  simp[Zaj,il,rv]
 obtain⟨g,hg⟩:=Zur (h:=h) (h1:=h1.set h0.length (.lst (cells 0 t))) (by have:=b2.ol;omega) (λi hi=>by rw[b2.old i (by omega),old i hi]);refine⟨g,h0.length,?_,ol,by rw[<- hg];exact b2.f⟩;show Ze (xs2 (P.tbl (n+2)) (.cons Zbe (.cons Zam (.cons Zal (.cons Zak (.cons Zaj (.cons Zc7 .nil)))))) [Wn t.d,Wo,Wo,Wo,Wo,Wo] h)=_;rw[Za x1,Za x2,Za x3,Za x4,Za x5,<- hg];rfl
def Za2(i:Nat):T->Gc
 |.num n=>.num n
 |.name x=>.name x
 |.fn x _=>.fn x (i+1)
 |.rcc f x _=>.rcc f x (i+1)
 |.call f _=>.call (i+1) (i+1+f.size)
 |.iff c t _=>.iff (i+1) (i+1+c.size) (i+1+c.size+t.size)
 |.op w a _=>.op w (i+1) (i+1+a.size)
def Ze2(i:Nat)(t:T):(Za2 i t).d=cell i t:=by cases t<;>rfl
def gcs:Nat->T->List Gc
 |i,.num n=>[Za2 i (.num n)]
 |i,.name x=>[Za2 i (.name x)]
 |i,.fn x e=>Za2 i (.fn x e)::gcs (i+1) e
 |i,.rcc f x e=>Za2 i (.rcc f x e)::gcs (i+1) e
 |i,.call f a=>Za2 i (.call f a)::(gcs (i+1) f++gcs (i+1+f.size) a)
 |i,.iff c t e=>Za2 i (.iff c t e)::(gcs (i+1) c++(gcs (i+1+c.size) t++gcs (i+1+c.size+t.size) e))
 |i,.op w a b=>Za2 i (.op w a b)::(gcs (i+1) a++gcs (i+1+a.size) b)
theorem Zdl:∀(t:T) (i:Nat),(gcs i t).map Gc.d=cells i t
 |.num _,_=>rfl
 |.name _,_=>rfl
 |.fn x e,i=>by rw[gcs,Op,Ze2,Zdl e];rfl
 |.rcc f x e,i=>by rw[gcs,Op,Ze2,Zdl e];rfl
 |.call f a,i=>by rw[gcs,Op,Ze2,List.map_append,Zdl f,Zdl a];rfl
 |.iff c t e,i=>by rw[gcs,Op,Ze2,List.map_append,List.map_append,Zdl c,Zdl t,Zdl e];rfl
 |.op w a b,i=>by rw[gcs,Op,Ze2,List.map_append,Zdl a,Zdl b];rfl
def Ze1(t:T)(i:Nat):(gcs i t).length=t.size:=by rw[<- Yt (f:=Gc.d),Zdl,ZfF t.size t i (Oq _)]
def seg_at{A pre post:List Gc}{c:Gc}{l:List Gc}(e:A=pre++(c::l)++post)(hl:pre.length=i):gl A i=Wn c:=by show A[i]? = _;rw[e,<- hl];simp
theorem Zch{A:List Gc}:∀(t:T) (i:Nat) (pre post:List Gc),A=pre++gcs i t++post->pre.length=i->Rd (gl A) i t
 |.num _,i,pre,post,e,hl=>.num (seg_at e hl)
 |.name _,i,pre,post,e,hl=>.name (seg_at e hl)
 |.fn x b,i,pre,post,e,hl=>.fn (seg_at e hl) (Zch b (i+1) (pre++[Za2 i (.fn x b)]) post (by rw[e,gcs];simp) (by simp[hl]))
 |.rcc f x b,i,pre,post,e,hl=>.rcc (seg_at e hl) (Zch b (i+1) (pre++[Za2 i (.rcc f x b)]) post (by rw[e,gcs];simp) (by simp[hl]))
 |.call f a,i,pre,post,e,hl=>.call (seg_at e hl) (Zch f (i+1) (pre++[Za2 i (.call f a)]) (gcs (i+1+f.size) a++post) (by rw[e,gcs];simp) (by simp[hl])) (Zch a (i+1+f.size) (pre++[Za2 i (.call f a)]++gcs (i+1) f) post (by rw[e,gcs];simp) (by simp[hl,Ze1];lia))
 |.iff c t d,i,pre,post,e,hl=>.iff (seg_at e hl) (Zch c (i+1) (pre++[Za2 i (.iff c t d)]) (gcs (i+1+c.size) t++gcs (i+1+c.size+t.size) d++post) (by rw[e,gcs];simp) (by simp[hl])) (Zch t (i+1+c.size) (pre++[Za2 i (.iff c t d)]++gcs (i+1) c) (gcs (i+1+c.size+t.size) d++post) (by rw[e,gcs];simp) (by simp[hl,Ze1];lia)) (Zch d (i+1+c.size+t.size) (pre++[Za2 i (.iff c t d)]++gcs (i+1) c++gcs (i+1+c.size) t) post (by rw[e,gcs];simp) (by simp[hl,Ze1];lia))
 |.op w f a,i,pre,post,e,hl=>.op (seg_at e hl) (Zch f (i+1) (pre++[Za2 i (.op w f a)]) (gcs (i+1+f.size) a++post) (by rw[e,gcs];simp) (by simp[hl])) (Zch a (i+1+f.size) (pre++[Za2 i (.op w f a)]++gcs (i+1) f) post (by rw[e,gcs];simp) (by simp[hl,Ze1];lia))
def begun(H:Lw P)(n:Nat)(t:T)(hz:t.size<=120)(h:Hd):∃g k G,run P (n+3) (O "graph_begun") [t.d] h=.ok (st k 0) (h++g)/\h.length<=k/\(h++g)[k]? = Wn (cl G)/\Rd (gl G) 0 t/\G.length=t.size:=by obtain⟨g,k,e,l,a⟩:=Zqs H n t hz h;refine⟨g,k,gcs 0 t,e,l,?_,Zch t 0 [] [] (by simp) rfl,Ze1 t 0⟩;rw[a,cl,Zdl]
end
section
variable {P:Pg}{h:Hd}
def ZdW(c:Gc):c.d.pure=Wp/\c.d.dp<=1:=by cases c<;>simp[Gc.d,Gc.fr,Gc.ps,nI,D.pure,D.pures,D.dp,D.dps]
theorem Zms:∀(G:List Gc),D.pures (G.map Gc.d)=Wp/\D.dps (G.map Gc.d)<=1
 |[]=>⟨rfl,Yw _⟩
 |c::G=>by
  have a:=ZdW c;have b:=Zms G;refine⟨by simp[D.pures,a.1,b.1],?_⟩;simp only[Op,D.dps]
  lia
def Zsb{h:Hd}{k r:Nat}{G:List Gc}(e:h[k]? = Wn (cl G))(d:Nat):∃ps,Zdc h (d+1) k=Wn (.list ps)/\PyData.depthAll ps<=1/\PyData.eqvAll ps ps=Wp/\∀k',h[k']? = Wn (cl G)->Zdc h (d+1) k'=Wn (.list ps):=by
 obtain⟨a,b⟩:=Zms G;obtain⟨ps,p1,p2,p3⟩:=pys_same (rd:=Zdc h d) (G.map Gc.d) a;have q:∀k',h[k']? = Wn (cl G)->Zdc h (d+1) k'=Wn (.list ps):=λk' e=>by rw[Zdc,e];simp[cl,p1]
 exact⟨ps,q k e,by lia,p3,q⟩
def Zqf{n:Bool}{a b r:Nat}{G:List Gc}(e1:h[a]? = Wn (cl G))(e2:h[b]? = Wn (cl G)):IV.Zav n (st a r) (st b r) h=.ok (.bl (!n)) h:=by
 obtain⟨ps,p1,p2,p3,p4⟩:=Zsb (r:=r) e1 3;have p:∀c,Zdc h 4 c=Wn (.list ps)->Zdd h (st c r)=Wn (.tuple [.list ps,.int r]):=λc ec=>by simp only[st,nI,Zdd,D.py,D.pys,ec,Yy,Yu]
 unfold IV.Zav;rw[p a p1,p b (p4 b e2)];simp only;rw[if_pos (by simp[PyData.depth,PyData.depthAll];lia),show YO (.tuple [.list ps,.int r]) (.tuple [.list ps,.int r])=Wp by simp[YO,PyData.eqvAll,p3]];cases n<;>rfl
def Zrj{k r:Nat}{G:List Gc}{w:Str}(e:h[k]? = Wn (cl G))(ne:O "loud" ≠ w):IV.Zav Wq (loud (st k r)) (.tup [.str w]) h=.ok (.bl Wq) h:=by
 obtain⟨ps,p1,p2,p3,_⟩:=Zsb (r:=r) e 3;have p:Zdd h (loud (st k r))=Wn (.tuple [.str (O "loud"),.tuple [.list ps,.int r]]):=by simp only[loud,st,nI,Zdd,D.py,D.pys,p1,Yy,Yu]
 unfold IV.Zav;rw[p,show Zdd h (.tup [.str w])=Wn (.tuple [.str w])from rfl];simp only;rw[if_pos (by simp[PyData.depth,PyData.depthAll])];simp[YO,PyData.eqvAll]
def ZtJ{v w:Str}:IV.Zav Wq (.tup [.str v]) (.tup [.str w]) h=.ok (.bl (Wt (v=w))) h:=by
 show(if min (PyData.tuple [.str v]).depth (PyData.tuple [.str w]).depth<=1100 then R.ok (D.bl (if Wq then !YO (.tuple [.str v]) (.tuple [.str w])else YO (.tuple [.str v]) (.tuple [.str w]))) h else .bad)=_;rw[if_pos (by simp[PyData.depth,PyData.depthAll])];simp[YO,PyData.eqvAll];by_cases e:v=w
 . subst e;simp
 . rw[decide_eq_false e,beq_eq_false_iff_ne.mpr e]
def neq(h:Hd)(q:Gc×Gc):Bool:=match IV.Zav Wp q.1.d q.2.d h with
 |.ok (.bl b) _=>b
 |_=>Wq
def ZtO(h:Hd)(q:Gc×Gc):IV.Zav Wp q.1.d q.2.d h=.ok (.bl (neq h q)) h:=by
 obtain⟨p,a1,a2,_⟩:=Zgg (rd:=Zdc h 4) q.1.d (ZdW q.1).1;obtain⟨p',b1,_,_⟩:=Zgg (rd:=Zdc h 4) q.2.d (ZdW q.2).1;have a3:=(ZdW q.1).2;have e:IV.Zav Wp q.1.d q.2.d h=.ok (.bl (!YO p p')) h:=by unfold IV.Zav;rw[show Zdd h q.1.d=Wn p from a1,show Zdd h q.2.d=Wn p' from b1];simp only;rw[if_pos (by lia)];rfl
 unfold neq;rw[e]
def ZoQ(h:Hd)(c:Gc):neq h (c,c)=Wq:=by unfold neq;simp only;rw[Zna (ZdW c).1 (by have:=(ZdW c).2;lia)];rfl
theorem ZnF(h:Hd)(N:List Gc):∀G:List Gc,(G.zip (G++N)).filter (neq h)=[]
 |[]=>rfl
 |c::G=>by rw[List.cons_append,List.zip_cons_cons,List.filter_cons,ZoQ,if_neg (by simp),ZnF h N G]
theorem Zlt(h:Hd)(N:List Gc)(c':Gc):∀(G:List Gc) (y:Nat) {c:Gc},G[y]? = Wn c->(G.zip ((G++N).set y c')).filter (neq h)=if neq h (c,c')then [(c,c')]else []
 |[],y,c,e=>by cases e
 |d::G,0,c,e=>by cases e;rw[List.cons_append,List.set_cons_zero,List.zip_cons_cons,List.filter_cons,ZnF]
 |d::G,y+1,c,e=>by rw[List.cons_append,List.set_cons_succ,List.zip_cons_cons,List.filter_cons,ZoQ,if_neg (by simp)];exact Zlt h N c' G y e
def Zw5{h:Hd}{bs:List Bool}(e:h[i]? = Wn (.lst (bs.map .bl))):Z0 GD .all [.ref i] h=.ok (.bl (bs.all id)) h:=by
 have:∀bs:List Bool,Zdv (bs.map D.bl)=Wn bs:=by
  intro bs;induction bs with
  |nil=>rfl
  |cons b r ih=>rw[Op,Zdv,ih];rfl
 show R.ofO (((lstOf (.ref i) h).bind Zdv).map λbs=>D.bl (bs.all id)) h=_;rw[show lstOf (.ref i) h=Wn (bs.map D.bl) by simp[lstOf,e],Yy,this];rfl
theorem Zs8 (H:Lw P) (n:Nat) {G G' N:List Gc}{a b y:Nat}{c c':Gc} (sp:Sp G G' y N c c') (ha:h[a]? = Wn (cl G)) (hb:h[b]? = Wn (cl G')) (lG:G.length<=80000):∃ g,run P (n+1) (O "_law_step_good") [st a 0,loud (st b 0)] h=.ok (.bl Wp) (h++g):=by
 rw [Zd H.law_step_good rfl];have lG':G'.length=G.length+N.length:=by rw [sp.g];simp
 have hn:=sp.n;have x1:xs1 (P.tbl n) Zb8 [Wn (st a 0),Wn (loud (st b 0)),Wo,Wo,Wo] h=.ok (.nx,[Wn (st a 0),Wn (loud (st b 0)),Wo,Wo,Wo]) h:=by
   refine (Zs ?_).trans rfl;simp [Zb3,loud,st,Z0,ZpQ,ZhC,Zp7,ZgL,seqOf]
 have x2:xs1 (P.tbl n) Zb7 [Wn (st a 0),Wn (loud (st b 0)),Wo,Wo,Wo] h=.ok (.nx,[Wn (st a 0),Wn (loud (st b 0)),Wn (.ref b),Wn (nI 0),Wo]) h:=rfl;have x3:xs1 (P.tbl n) Zb6 [Wn (st a 0),Wn (loud (st b 0)),Wn (.ref b),Wn (nI 0),Wo] h=.ok (.nx,[Wn (st a 0),Wn (loud (st b 0)),Wn (.ref b),Wn (nI 0),Wo]) h:=by
   refine (Zs ?_).trans rfl;have l1:Z0 P.GD .len [.ref a] h=.ok (.int (G.length:Int)) h:=(ZjB ha).trans (by simp);have l2:Z0 P.GD .len [.ref b] h=.ok (.int (G'.length:Int)) h:=(ZjB hb).trans (by simp);have i1:Z0 P.GD .isi [.ref b,.ty "list"] h=.ok (.bl Wp) h:=by simp [Z0,ZpQ,Zp7,ZgL,lstOf,hb,cl]
   have t1:tst (P.tbl n) (.ex (.cmp .NotEq (.var 3) (.ix (.var 0) (.ci 1)))) [Wn (st a 0),Wn (loud (st b 0)),Wn (.ref b),Wn (nI 0),Wo] h=.ok Wq h:=Zaz ((Zn (x:=nI 0) (y:=nI 0) rfl rfl).trans (by rw [ZoG];simp [nI]));have t2:tst (P.tbl n) (.nt (.ex (.blt .isi (.cons (.var 2) (.cons (.cst (.ty "list")) .nil))))) [Wn (st a 0),Wn (loud (st b 0)),Wn (.ref b),Wn (nI 0),Wo] h=.ok Wq h:=by
     rw [Zgq,Zaz (Zev (xs:=[.ref b,.ty "list"]) rfl i1)];rfl
   have a1:ev (P.tbl n) (.blt .len (.cons (.ix (.var 0) (.ci 0)) .nil)) [Wn (st a 0),Wn (loud (st b 0)),Wn (.ref b),Wn (nI 0),Wo] h=.ok (.int (G.length:Int)) h:=Zev (xs:=[.ref a]) rfl l1;have a2:ev (P.tbl n) (.blt .len (.cons (.var 2) .nil)) [Wn (st a 0),Wn (loud (st b 0)),Wn (.ref b),Wn (nI 0),Wo] h=.ok (.int (G'.length:Int)) h:=Zev (xs:=[.ref b]) rfl l2;have a3:ev (P.tbl n) (.bin .Add (.blt .len (.cons (.ix (.var 0) (.ci 0)) .nil)) (.ci 120)) [Wn (st a 0),Wn (loud (st b 0)),Wn (.ref b),Wn (nI 0),Wo] h=.ok (.int ((G.length:Int)+120)) h:=(Zt a1 rfl).trans rfl;have t3:tst (P.tbl n) (.nt (.ex (.cmp2 .LtE .LtE (.blt .len (.cons (.ix (.var 0) (.ci 0)) .nil)) (.blt .len (.cons (.var 2) .nil)) (.bin .Add (.blt .len (.cons (.ix (.var 0) (.ci 0)) .nil)) (.ci 120))))) [Wn (st a 0),Wn (loud (st b 0)),Wn (.ref b),Wn (nI 0),Wo] h=.ok Wq h:=by
     have q1:opC P.GD .LtE (.int (G.length:Int)) (.int (G'.length:Int)) h=.ok (.bl Wp) h:=by rw [ZoH,decide_eq_true (by lia)]
     have q2:opC P.GD .LtE (.int (G'.length:Int)) (.int ((G.length:Int)+120)) h=.ok (.bl Wp) h:=by rw [ZoH,decide_eq_true (by lia)]
     rw [Zgq,Zaz (b:=true) (h1:=h) ?_]
     . rfl
     . rw [ev,a1,bind_ok,a2,bind_ok];show ((opC P.GD .LtE (.int (G.length:Int)) (.int (G'.length:Int)) h).bind _)=_;rw [q1,bind_ok];simp only;rw [a3,bind_ok];exact q2
   show tst (P.tbl n) (.ors (.cons _ (.cons _ (.one _)))) _ h=_;rw [Zie,ZcE,t1,Zg,if_neg (by simp),ZcE,t2,Zg,if_neg (by simp),ZmO,t3]
 have zs:=Zlt h N c' G y sp.e;rw [<- sp.g] at zs;have e4:=Z8 (fun q:Gc×Gc=>D.tup [q.1.d,q.2.d]) (neq h) (fun q=>q.1.d) (src:=[(a,G.map Gc.d),(b,G'.map Gc.d)]) (g:=.two 0 1) (tt:=tsto (P.tbl n) (Wn (.ex (.cmp .NotEq (.var 0) (.var 1))))) (ee:=ev (P.tbl n) (.var 0)) (S:=[Wo,Wo]) (h:=h) (by simp only [cl] at ha hb;simp [Wk.stays,ha,hb]) (G.zip G') [] (fun q _=>⟨[Wn q.1.d,Wn q.2.d],rfl,Zaz ((Zn rfl rfl).trans (ZtO h q)),fun _=>rfl⟩) (by simp;lia);rw [zs,OB] at e4;have zd:Zic (G.map Gc.d) (G'.map Gc.d)=(G.zip G').map fun q=>D.tup [q.1.d,q.2.d]:=by
   unfold Zic;rw [List.zipWith_map,List.zip,List.map_zipWith]
 have ei:evi (P.tbl n) (.zl (.ix (.var 0) (.ci 0)) (.var 2)) [Wn (st a 0),Wn (loud (st b 0)),Wn (.ref b),Wn (nI 0),Wo] h=.ok ⟨[(a,G.map Gc.d),(b,G'.map Gc.d)],(G.zip G').map fun q=>D.tup [q.1.d,q.2.d]⟩ h:=by
   show zlD (.ref a) (.ref b) h=_;simp only [cl] at ha hb;simp only [zlD,ha,hb];rw [if_pos (by simp;lia),zd]
 obtain ⟨W,eW,hW,lW⟩:∃ W:List Gc,((if neq h (c,c') then [(c,c')] else []).map fun q:Gc×Gc=>q.1.d)=W.map Gc.d/\(∀ w∈W,w.isV=Wq)/\W.length<=1:=by
   cases neq h (c,c') with
   | true=>exact ⟨[c],rfl,fun w hw=>by rw [Ox.mp hw];exact sp.v,Oq _⟩
   | false=>exact ⟨[],rfl,fun w hw=>(by cases hw),Yw _⟩
 rw [eW] at e4;have x4:xs1 (P.tbl n) Zb5 [Wn (st a 0),Wn (loud (st b 0)),Wn (.ref b),Wn (nI 0),Wo] h=.ok (.nx,[Wn (st a 0),Wn (loud (st b 0)),Wn (.ref b),Wn (nI 0),Wn (.ref h.length)]) (h++[.lst (W.map Gc.d)]):=Zl (i:=4) (Zfb ei e4);have k4:(h++[DO.lst (W.map Gc.d)])[h.length]? = Wn (.lst (W.map Gc.d)):=ZaH;have f4:∃ g,h++[DO.lst (W.map Gc.d)]=h++g:=⟨_,rfl⟩
 generalize h++[DO.lst (W.map Gc.d)]=h4 at *;have e5:=Z8 Gc.d (fun _=>Wp) (fun _=>D.bl Wp) (src:=[(h.length,W.map Gc.d)]) (g:=.nm 0) (tt:=tsto (P.tbl n) Wo) (ee:=ev (P.tbl n) (.cmp .NotIn (.ix (.var 0) (.ci 0)) (.tupl (.cons (.Ci_ "num") (.cons (.Ci_ "fn") (.cons (.Ci_ "rec") .nil)))))) (S:=[Wo]) (h:=h4) (Zfq k4) W [] (fun w hw=>⟨[Wn w.d],rfl,rfl,fun _=>by
   obtain ⟨s,ds,e,v⟩:=ZwN w;rw [hW w hw] at v;have q:ev (P.tbl n) (.ix (.var 0) (.ci 0)) [Wn w.d] h4=.ok (.str s) h4:=(ZD rfl rfl).trans (by rw [e];exact Zo6);have q2:ev (P.tbl n) (.tupl (.cons (.Ci_ "num") (.cons (.Ci_ "fn") (.cons (.Ci_ "rec") .nil)))) [Wn w.d] h4=.ok (.tup ([O "num",O "fn",O "rec"].map .str)) h4:=ZaA rfl (by simp);rw [Zn q q2,ZcY];have:¬ (s=O "num" \/ s=O "fn" \/ s=O "rec"):=of_decide_eq_false v.symm;simp only [O2,List.not_mem_nil,or_false];rw [decide_eq_false this];rfl⟩) (by simp;lia)
 rw [List.filter_eq_self.mpr (fun _ _=>rfl),OB] at e5;have a5:ev (P.tbl n) (.comp [(O "_law_cell")] [Wo] (.pl (.var 4)) (.nm 0) Wo (.cmp .NotIn (.ix (.var 0) (.ci 0)) (.tupl (.cons (.Ci_ "num") (.cons (.Ci_ "fn") (.cons (.Ci_ "rec") .nil)))))) [Wn (st a 0),Wn (loud (st b 0)),Wn (.ref b),Wn (nI 0),Wn (.ref h.length)] h4=.ok (.ref h4.length) (h4++[.lst ((W.map fun _=>Wp).map .bl)]):=by
   rw [Zfb (ZjW (i:=h.length) rfl k4) e5,List.map_map];rfl
 have k5:(h4++[DO.lst ((W.map fun _=>Wp).map .bl)])[h4.length]? = Wn (.lst ((W.map fun _=>Wp).map .bl)):=ZaH;have b5:=Zev (f:=.all) (Zc (es:=.nil) a5 rfl) (Zw5 k5);have la:ev (P.tbl n) (.cmp .Lt (.blt .len (.cons (.var 4) .nil)) (.ci 2)) [Wn (st a 0),Wn (loud (st b 0)),Wn (.ref b),Wn (nI 0),Wn (.ref h.length)] h4=.ok (.bl Wp) h4:=by
   rw [Zn (Zev (xs:=[.ref h.length]) rfl (ZjB k4)) rfl,ZtH,decide_eq_true];simp
   lia
 have x5:xs1 (P.tbl n) Zb4 [Wn (st a 0),Wn (loud (st b 0)),Wn (.ref b),Wn (nI 0),Wn (.ref h.length)] h4=.ok (.rt (.bl Wp),[Wn (st a 0),Wn (loud (st b 0)),Wn (.ref b),Wn (nI 0),Wn (.ref h.length)]) (h4++[.lst ((W.map fun _=>Wp).map .bl)]):=by
   refine Zm ?_;rw [ZiK,ZfB,la,Zg];show ev (P.tbl n) _ _ _=_;rw [b5];have:(W.map fun _=>Wp).all id=Wp:=by simp
   rw [this]
 obtain ⟨g,rfl⟩:=f4;refine ⟨g++[.lst ((W.map fun _=>Wp).map .bl)],?_⟩;rw [<- Oz];have w:xs2 (P.tbl n) Zc2 [Wn (st a 0),Wn (loud (st b 0)),Wo,Wo,Wo] h=.ok (.rt (.bl Wp),_) (h++g++[.lst ((W.map fun _=>Wp).map .bl)]):=(Za x1).trans ((Za x2).trans ((Za x3).trans ((Za x4).trans (Zb x5))));exact congrArg Ze w
noncomputable def vl(ro s:D)(a b c:Option D):Ev:=[Wn ro,Wn s,a,b,c]
theorem Zso(H:Lw P){ro:D}:∀(ds:List D) (k:Nat) (G:List Gc) (t:T) (h:Hd) (a b c:Option D),h[k]? = Wn (cl G)->Rd (gl G) 0 t->Gn.Cl [] t->t.size<=120->G.length+120 * ds.length<=80000->∃h' f S,Z3 [] (.nm 2) (xs2 (P.tbl 100) Zix) ds (vl ro (st k 0) a b c) h=.ok (f,S) h'/\(f=.rt (.bl Wp)\/f=.nx)
 |[],k,G,t,h,a,b,c,_,_,_,_,_=>⟨h,.nx,vl ro (st k 0) a b c,rfl,.inr rfl⟩
 |d::ds,k,G,t,h,a,b,c,hk,rd,ct,hz,lG=>by
  simp only[Os]at lG;have q1:ev (P.tbl 100) (.tupl (.cons (.blt .lst (.cons (.ix (.var 1) (.ci 0)) .nil)) (.cons (.ix (.var 1) (.ci 1)) .nil))) (vl ro (st k 0) (Wn d) b c) h=.ok (st h.length 0) (h++[cl G]):=ZaA (xs:=[.ref h.length,nI 0]) (Zc (Zev (xs:=[.ref k]) rfl (Zsl hk)) (Zc rfl rfl)) (by simp);have x1:xs1 (P.tbl 100) Zh9 (vl ro (st k 0) (Wn d) b c) h=.ok (.nx,vl ro (st k 0) (Wn d) (Wn (st h.length 0)) c) (h++[cl G]):=Zl (i:=3) q1;have k1:(h++[cl G])[k]? = Wn (cl G):=keep hk;have j1:(h++[cl G])[h.length]? = Wn (cl G):=ZaH;generalize h++[cl G]=h1 at *;have same:∀{h2:Hd},Fm [] h1 h2->∀(o:Option D),xs1 (P.tbl 100) Zh8 (vl ro (st k 0) (Wn d) (Wn (st h.length 0)) o) h2=.ok (.nx,vl ro (st k 0) (Wn d) (Wn (st h.length 0)) o) h2:=λ{h2} m o=>by have q:opC (P.tbl 100).GD .NotEq (st k 0) (st h.length 0) h2=.ok (.bl Wq) h2:=Zqf (n:=true) (m.at k1 (by simp)) (m.at j1 (by simp));exact(Zs (Zaz ((Zn (x:=st k 0) (y:=st h.length 0) rfl rfl).trans q))).trans rfl
  rcases Zs6 H 92 k1 rd ct hz (by lia)with ⟨h2,q,m⟩|⟨k',h2,G',y,N,c1,c2,t',e2,m,hk',_,sp,rd',ct'⟩
  . have fin':∀{w:Str},(w=O "value" \/ w=O "stuck")->run P 100 (O "graph_step") [st k 0] h1=.ok (.tup [.str w]) h2->∃h' f S,Z3 [] (.nm 2) (xs2 (P.tbl 100) Zix) (d::ds) (vl ro (st k 0) a b c) h=.ok (f,S) h'/\(f=.rt (.bl Wp)\/f=.nx):=λ{w} hw e=>by
     have x2:xs1 (P.tbl 100) ZfH (vl ro (st k 0) (Wn d) (Wn (st h.length 0)) c) h1=.ok (.nx,vl ro (st k 0) (Wn d) (Wn (st h.length 0)) (Wn (.tup [.str w]))) h2:=Zl (i:=4) (Zo e rfl);have t4:∀v:Str,tst (P.tbl 100) (.ex (.cmp .Eq (.var 4) (.tupl (.cons (.cst (.str v)) .nil)))) (vl ro (st k 0) (Wn d) (Wn (st h.length 0)) (Wn (.tup [.str w]))) h2=.ok (Wt (w=v)) h2:=λv=>Zaz ((Zn (x:=.tup [.str w]) rfl (ZaA (xs:=[.str v]) rfl (by simp))).trans ZtJ);have t5:tst (P.tbl 100) ZhY (vl ro (st k 0) (Wn d) (Wn (st h.length 0)) (Wn (.tup [.str w]))) h2=.ok Wp h2:=by
      rcases hw with rfl|rfl
      . exact Zty (Zq (t4 _) (decide_eq_true rfl))
      . exact ZkH (Zq (t4 _) (by simp)) (Zq (t4 _) (decide_eq_true rfl))
     exact⟨h2,_,_,Zk5 rfl ((Za x1).trans ((Za x2).trans ((Za (same m _)).trans (Zb ((Zu t5).trans (Zb (Zm rfl))))))),.inl rfl⟩
    rcases q with q|q
    . exact fin' (.inl rfl) q
    . exact fin' (.inr rfl) q
  . have x2:xs1 (P.tbl 100) ZfH (vl ro (st k 0) (Wn d) (Wn (st h.length 0)) c) h1=.ok (.nx,vl ro (st k 0) (Wn d) (Wn (st h.length 0)) (Wn (loud (st k' 0)))) h2:=Zl (i:=4) (Zo e2 rfl);have t4:∀v:Str,O "loud" ≠ v->tst (P.tbl 100) (.ex (.cmp .Eq (.var 4) (.tupl (.cons (.cst (.str v)) .nil)))) (vl ro (st k 0) (Wn d) (Wn (st h.length 0)) (Wn (loud (st k' 0)))) h2=.ok Wq h2:=λv ne=>Zaz ((Zn (x:=loud (st k' 0)) rfl (ZaA (xs:=[.str v]) rfl (by simp))).trans (Zrj hk' ne));have x4:xs1 (P.tbl 100) Zh7 (vl ro (st k 0) (Wn d) (Wn (st h.length 0)) (Wn (loud (st k' 0)))) h2=.ok (.nx,vl ro (st k 0) (Wn d) (Wn (st h.length 0)) (Wn (loud (st k' 0)))) h2:=(Zs (ZkH (t4 _ (by simp)) (t4 _ (by simp)))).trans rfl;obtain⟨g,eg⟩:=Zs8 H 99 sp (m.at j1 (by simp)) hk' (by lia);have t5:tst (P.tbl 100) ZhX (vl ro (st k 0) (Wn d) (Wn (st h.length 0)) (Wn (loud (st k' 0)))) h2=.ok Wq (h2++g):=by refine ZkH (h1:=h2) (Zaz ((Zn (x:=.str (O "loud")) (y:=.str (O "loud")) rfl rfl).trans (by rw[ZoG,ZeQ];simp))) ?_;rw[Zgq,Zaz (Zo eg rfl)];rfl
    have x5:xs1 (P.tbl 100) Zh6 (vl ro (st k 0) (Wn d) (Wn (st h.length 0)) (Wn (loud (st k' 0)))) h2=.ok (.nx,vl ro (st k 0) (Wn d) (Wn (st h.length 0)) (Wn (loud (st k' 0)))) (h2++g):=(Zs t5).trans rfl;have k3:(h2++g)[k']? = Wn (cl G'):=keep hk';generalize h2++g=h3 at *;have x6:xs1 (P.tbl 100) Zh5 (vl ro (st k 0) (Wn d) (Wn (st h.length 0)) (Wn (loud (st k' 0)))) h3=.ok (.nx,vl ro (st k' 0) (Wn d) (Wn (st h.length 0)) (Wn (loud (st k' 0)))) h3:=Zl (i:=1) rfl;obtain⟨h4,m4,e4⟩:=Zs4 H 96 k3 rd';have t7:tst (P.tbl 100) ZfG (vl ro (st k' 0) (Wn d) (Wn (st h.length 0)) (Wn (loud (st k' 0)))) h3=.ok (!Wt (t'.size<=120)) h4:=Zaz (Zo e4 rfl);by_cases w:t'.size<=120
    . have x7:xs1 (P.tbl 100) Zh4 (vl ro (st k' 0) (Wn d) (Wn (st h.length 0)) (Wn (loud (st k' 0)))) h3=.ok (.nx,vl ro (st k' 0) (Wn d) (Wn (st h.length 0)) (Wn (loud (st k' 0)))) h4:=(Zs (Zq t7 (by rw[decide_eq_true w];rfl))).trans rfl;have lG':G'.length=G.length+N.length:=by rw[sp.g];simp
      have hn:=sp.n;obtain⟨h5,f,S,e5,q5⟩:=Zso H (ro:=ro) ds k' G' t' h4 (Wn d) (Wn (st h.length 0)) (Wn (loud (st k' 0))) (m4.at k3 (by simp)) rd' ct' w (by lia);exact⟨h5,f,S,(ZgT rfl ((Za x1).trans ((Za x2).trans ((Za (same m _)).trans ((Za x4).trans ((Za x5).trans ((Za x6).trans ((Za x7).trans rfl)))))))).trans e5,q5⟩
    . have t8:tst (P.tbl 100) ZfG (vl ro (st k' 0) (Wn d) (Wn (st h.length 0)) (Wn (loud (st k' 0)))) h3=.ok Wp h4:=Zq t7 (by rw[decide_eq_false w];rfl);exact⟨h4,_,_,Zk5 rfl ((Za x1).trans ((Za x2).trans ((Za (same m _)).trans ((Za x4).trans ((Za x5).trans ((Za x6).trans (Zb ((Zu t8).trans (Zb (Zm rfl)))))))))),.inl rfl⟩
def Ztc(H:Lw P)(n:Nat)(zs:List Int){h:Hd}:∃v,run P (n+1) (O "_law_cell_at") [.ro (zs.map .int),.int 0] h=.ok (.int v) h:=by
 rw[Zd H.cell rfl];cases zs with
 |nil=>exact⟨0,by simp[Gn.ZaZ,Gn.Zcp,ZB,Z0,ZhC,seqOf,lstOf]⟩
 |cons z zs=>
  refine⟨z,?_⟩;have:(0:Int)<(zs.length:Int)+1:=by lia
  simp[Gn.ZaZ,Gn.Zcp,ZB,Z0,ZhC,seqOf,lstOf,this]
def ZsH(n:Nat)(i:Int):(ZY i n).length=n:=by simp[ZY]
def ZvB(H:Lw P)(zs:List Int)(hz:zs.length<=63):∃h',run P (100+1) (O "law") [.ro (zs.map .int)] []=.ok (.bl Wp) h':=by
 obtain⟨t,h1,e1,ct,st',_,_,_⟩:=Gn.ZmW H.m (N:=99) (by lia) zs 1 [] (by lia);obtain⟨g,k,G,e2,_,hk,rd,lG⟩:=begun H 97 t (by lia) h1;generalize h1++g=h2 at *;obtain⟨v,e3⟩:=Ztc H 99 (h:=h2) zs;have e4:=Gn.Zqo H.m 99 v 1 h2 (by decide);have m1:opB .Mod (.int (Gn.mixed v 1)) (.int 41) h2=.ok (.int (Gn.mixed v 1 % 41)) h2:=ZN (by decide);have b1:=Int.emod_nonneg (Gn.mixed v 1) (b:=41) (by decide);have b2:=Int.emod_lt_of_pos (Gn.mixed v 1) (b:=41) (by decide);have s62:Zas (Gn.mixed v 1 % 41)=Wp:=by simp[Zas];lia
 rw[Zd H.law (by rfl)];generalize D.ro (zs.map .int)=ro at *;have ei:evi (P.tbl 100) ZiA (vl ro (st k 0) Wo Wo Wo) h2=.ok ⟨[],ZY 0 (Gn.mixed v 1 % 41).toNat⟩ h2:=by have q:ev (P.tbl 100) (.bin .Mod (.call (O "_law_mixed") (.cons (.call (O "_law_cell_at") (.cons (.var 0) (.cons (.ci 0) .nil))) (.cons (.ci 1) .nil))) (.ci 41)) (vl ro (st k 0) Wo Wo Wo) h2=.ok (.int (Gn.mixed v 1 % 41)) h2:=(Zt (Zo e4 (Zc (Zo e3 rfl) rfl)) rfl).trans m1;rw[ZiA,Zml,q,Zg];simp only[s62,if_true]
 obtain⟨h3,f,S,e5,q⟩:=Zso H (ro:=ro) (ZY 0 (Gn.mixed v 1 % 41).toNat) k G t h2 Wo Wo Wo hk rd ct (by lia) (by rw[ZsH];lia);refine⟨h3,?_⟩;have x1:xs1 (P.tbl 100) ZmD [Wn ro,Wo,Wo,Wo,Wo] []=.ok (.nx,vl ro (st k 0) Wo Wo Wo) h2:=Zl (i:=1) (Zo e2 (Zc (Zo e1 rfl) rfl));have x2:xs1 (P.tbl 100) ZmC (vl ro (st k 0) Wo Wo Wo) h2=.ok (f,S) h3:=(ZgS ei).trans e5;have w:xs2 (P.tbl 100) Zsz [Wn ro,Wo,Wo,Wo,Wo] []=.ok (.rt (.bl Wp),S) h3:=by
  refine(Za x1).trans ?_;rcases q with rfl|rfl
  . exact Zb x2
  . exact(Za x2).trans (Zb (Zm rfl))
 exact congrArg Ze w
end
end Grf
section
set_option maxHeartbeats 4000000
namespace K42
open PySem L2 IV PyProof.Rows
def ZuJ:Sxs:=(.c .any .n)
def Zup:Fd:=⟨[(O "k")],[(O "k")],ZuJ⟩
def ZfL:Sxs:=(.c (.iff (.ex (.cmp .Eq (.att [(O "Pen")] (.v 0) (O "used")) (.att [(O "Pen")] (.v 0) (O "most")))) (.c (.rai (O "Wide") (.Ci_ "more places than an expression that is told may have")) .n) .n) (.c (.auga [(O "Pen")] (.v 0) (O "used") (.ci 1)) .n))
def ZfA:Fd:=⟨[(O "self")],[(O "self")],ZfL⟩
def Zi0:Sxs:=(.c (.drp (.call (O "_wall") (.c (.ci 0) .n))) .n)
def ZiE:Fd:=⟨[(O "self"),(O "front"),(O "parts")],[(O "self"),(O "front"),(O "parts")],Zi0⟩
def Zlp:Sxs:=(.c (.set (.nm 2) (.call (O "opened") (.c (.v 1) .n))) (.c (.ret (.mcl (O "Pen") (O "filled") (.v 0) (.c (.ix (.v 2) (.ci 0)) (.c (.ix (.v 2) (.ci 1)) .n)))) .n))
def Zk7:Fd:=⟨[(O "self"),(O "thing")],[(O "self"),(O "thing"),(O "pair")],Zlp⟩
noncomputable def cG:List (Str×D):=[((O "WIDEST"),(.int 120)),((O "VALUES"),(.tup [(.str (O "num")),(.str (O "fn")),(.str (O "rec"))])),((O "BEYOND"),(.int 1000000)),((O "FORMS"),.kd (O "FORMS"))]
noncomputable def cD:List (Str×List (Key×D)):=[((O "FORMS"),[(.inr (O "fn"),(.tup [(.int 1),(.int 1)])),(.inr (O "rec"),(.tup [(.int 2),(.int 1)])),(.inr (O "call"),(.tup [(.int 0),(.int 2)])),(.inr (O "if"),(.tup [(.int 0),(.int 3)])),(.inr (O "+"),(.tup [(.int 0),(.int 2)])),(.inr (O "-"),(.tup [(.int 0),(.int 2)])),(.inr (O "*"),(.tup [(.int 0),(.int 2)])),(.inr (O "<"),(.tup [(.int 0),(.int 2)]))])]
noncomputable def dl:List (Str×Fd×Nat):=[((O "_wall"),Zup,0),((O "bound_names"),Tm.Zek,7),((O "parts_of"),Gn.ZgW,8),((O "front_of"),Tm.Zg1,9),((O "count_parts"),Tm.Zej,10),((O "built"),Tm.ZiD,11),((O "places"),Gn.Ze5,12),((O "bound_to"),Tm.Zg3,14),((O "opened"),Tm.ZjT,15),((O "meant_by"),Tm.ZgX,16),((O "within"),Tm.ZjS,17),((O "is_value"),Tm.ZgZ,22),((O "parts_first"),Tm.Zef,23),((O "chosen"),Tm.Zg2,24),((O "worked"),Tm.Ze4,25),((O "graph_begun"),Grf.Zei,27),((O "first_open"),Grf.Ze9,28),((O "next_cell"),Grf.ZfR,29),((O "beneath"),Grf.ZhU,30),((O "is_meant"),Grf.Zg0,31),((O "free_beneath"),Grf.Zdr,32),((O "called"),Grf.ZjV,34),((O "gone_on"),Grf.ZhT,35),((O "written"),Grf.ZhS,36),((O "graph_step"),Grf.Ze7,37),((O "graph_read"),Grf.Ze8,38),((O "_law_cell_at"),Gn.ZaZ,40),((O "_law_mixed"),Gn.Zdp,41),((O "_law_next"),Gn.ZgY,42),((O "_law_names"),Gn.Zdo,43),((O "_law_there"),Gn.Zdn,44),((O "_law_plain"),Gn.ZfS,45),((O "_law_function"),Gn.Zdq,46),((O "_law_number"),Gn.Ze6,47),((O "_law_any"),Gn.ZdY,48),((O "_law_width"),Gn.ZbX,49),((O "_law_deep"),Gn.ZcO,50),((O "_law_program"),Gn.Zeg,51),((O "_law_step_good"),Grf.Zc0,52),((O "_law_is_wide"),Grf.Zeh,53),((O "law"),Grf.ZjU,54)]
noncomputable def tb:List (Str×Fd):=dl.map λp=>(p.1,p.2.1)
noncomputable def mo1:List Ml:=[((O "take_place"),(O "Pen.take_place"),ZfA,18,1),((O "joined"),(O "Pen.joined"),ZiE,18,2),((O "filled"),(O "Pen.filled"),Tm.Zfa,18,3),((O "told"),(O "Pen.told"),Zk7,18,4)]
noncomputable def mo2:List Ml:=[((O "stand_in"),(O "Copier.stand_in"),Grf.ZbY,33,1),((O "write_next"),(O "Copier.write_next"),Grf.Zbi,33,2),((O "copied"),(O "Copier.copied"),Grf.Zc1,33,3)]
def ms:List (Str×Fd):=[(mnm (O "Pen") (O "__init__"),Tm.Zax),(mnm (O "Copier") (O "__init__"),Grf.Zay)]++mo1.map (λp=>(mnm (O "Pen") p.1,p.2.2.1))++mo2.map (λp=>(mnm (O "Copier") p.1,p.2.2.1))
def pg:Pg:=⟨tb,λx=>cG.lookup x,λx=>cD.lookup x,1000000,ms⟩
noncomputable def kl:Kl:=⟨[(O "Pen"),(O "Copier")],[(O "cells"),(O "free"),(O "known"),(O "meant"),(O "most"),(O "used"),(O "waiting")],mo1.map (λp=>((O "Pen"),p.1))++mo2.map (λp=>((O "Copier"),p.1)),[(O "Pen"),(O "Copier")],[(O "Wide")],[],[]⟩
abbrev ZjU:Fd:=Grf.ZjU
noncomputable def top(i:Nat):Stmt:=PySem.Challenge.pw_samestride_k42_graph_one_cell_anew.main.body.getD i (.Pass ⟨0,0,0,0⟩)
def mt(i j:Nat):Stmt:=inClass (top i) j
noncomputable def fs:List Str:=tb.map (·.1)
local macro_rules|`(tactic| wtm_at "al")=>`(tactic| repeat' first|exact trivial|refine' And.intro ?_ ?_)
local macro_rules|`(tactic| wtm_at "chk")=>`(tactic| exact⟨by constructor<;>decide +kernel,λ_ _ _ _ _ _ us hl=>by
 first
 |(have e:=Zu7 (show us.length=0 from hl);subst e;rfl)
 |(obtain⟨a0,e⟩:=Zu6 (show us.length=1 from hl);subst e;rfl)
 |(obtain⟨a0,a1,e⟩:=Zu5 (show us.length=2 from hl);subst e;rfl)
 |(obtain⟨a0,a1,a2,e⟩:=Zu4 (show us.length=3 from hl);subst e;rfl)
 |(obtain⟨a0,a1,a2,a3,e⟩:=Zu3 (show us.length=4 from hl);subst e;rfl)
 |(obtain⟨a0,a1,a2,a3,a4,e⟩:=Zu2 (show us.length=5 from hl);subst e;rfl)
 |(obtain⟨a0,a1,a2,a3,a4,a5,e⟩:=Zxj (show us.length=6 from hl);subst e;rfl)
 |(obtain⟨a0,a1,a2,a3,a4,a5,a6,e⟩:=us_7 (show us.length=7 from hl);subst e;rfl),by decide +kernel⟩)
def kd:All (λp:Str×Fd×Nat=>Chk kl fs p.1 p.1 p.2.1 (top p.2.2)) dl:=by
 wtm_at "al"
 all_goals wtm_at "chk"
def km1:All (λp:Ml=>Chk kl fs p.1 p.2.1 p.2.2.1 (mt p.2.2.2.1 p.2.2.2.2)) mo1:=by
 wtm_at "al"
 all_goals wtm_at "chk"
def kk1:All (λp:Ml=>pg.look (mnm (O "Pen") p.1)=Wn p.2.2.1) mo1:=by
 wtm_at "al"
 all_goals kernel_rfl
def ki1:Chk kl fs (O "__init__") (O "Pen.__init__") Tm.Zax (mt 18 0):=by wtm_at "chk"
def km2:All (λp:Ml=>Chk kl fs p.1 p.2.1 p.2.2.1 (mt p.2.2.2.1 p.2.2.2.2)) mo2:=by
 wtm_at "al"
 all_goals wtm_at "chk"
def kk2:All (λp:Ml=>pg.look (mnm (O "Copier") p.1)=Wn p.2.2.1) mo2:=by
 wtm_at "al"
 all_goals kernel_rfl
def ki2:Chk kl fs (O "__init__") (O "Copier.__init__") Grf.Zay (mt 33 0):=by wtm_at "chk"
end K42
end
namespace K42
open PySem L2 IV
def Zt3:pg.tb.lookup (O "law")=Wn ZjU:=by kernel_rfl
def mkr:Gn.Mkr pg:=⟨⟨by kernel_rfl,by kernel_rfl,by kernel_rfl,by kernel_rfl,by kernel_rfl,.same (by kernel_rfl),.same (by kernel_rfl),.same (by kernel_rfl),by kernel_rfl⟩,by kernel_rfl,.same (by kernel_rfl)⟩
def tre:Gn.Tre pg:=by
 constructor
 all_goals (first|kernel_rfl|decide)
def wid:Tm.Wid pg:=⟨.str (O "more places than an expression that is told may have"),by kernel_rfl⟩
def trb:Tm.Trb pg:=by
 constructor
 case toTre=>exact tre
 case tk=>obtain⟨m,e⟩:=wid;exact⟨_,e⟩
 all_goals kernel_rfl
def lw:Grf.Lw pg:=by
 constructor
 case b=>exact trb
 case w=>exact wid
 case m=>exact mkr
 all_goals kernel_rfl
def runs:∀ns:List Int,ns.length<=63->∃h',run pg (100+1) (O "law") [.ro (ns.map .int)] []=.ok (.bl Wp) h':=λns hl=>Grf.ZvB lw ns hl
end K42
section
set_option maxHeartbeats 4000000
namespace K42
open PySem L2 IV PyProof.Rows
def tp2{K:Yk}(h:K.lookup a=Wn ⟨.type "tuple",od,.seq #[.int x t,.int y u] n,sl⟩):RD ⟨K,mg⟩ H B (.tup [.int x,.int y]) (.ref a):=.tup (Zsc (vs:=[.int x,.int y]) h (by show 2<=sizeLine;decide) (.cons ZeO (.cons ZeO .nil))) (.cons (.int _) (.cons (.int _) .nil))
theorem md{Pr:Yh}{w:Yg}{K:Yk}{h:YF}{mg:Str->Option Yj}(X:K.In h)(G:h.Ns Yd mg)
   (tb0:Zgp K=Wp)
   (dd:All (fun p:Str×Fd×Nat=>ZuU K p.1 (top p.2.2)) dl)
   (y1a:Yl K Yd (O "Pen")=Wn (Wn (.ref ca1))) (y1b:Cls K ca1)
   (n1:All (fun f=>YI K (.ref ca1) f=Wn Wo) kl.ats)
   (y1m:PySem.W.makesIn K ca1=Wp) (y1k:YZ K (.ref ca1)=Wp)
   (i1:Zls K ca1 (O "__init__") (O "Pen.__init__") (mt 18 0))
   (u1:All (fun p:Ml=>Zls K ca1 p.1 p.2.1 (mt p.2.2.2.1 p.2.2.2.2)) mo1)
   (y2a:Yl K Yd (O "Copier")=Wn (Wn (.ref ca2))) (y2b:Cls K ca2)
   (n2:All (fun f=>YI K (.ref ca2) f=Wn Wo) kl.ats)
   (y2m:PySem.W.makesIn K ca2=Wp) (y2k:YZ K (.ref ca2)=Wp)
   (i2:Zls K ca2 (O "__init__") (O "Copier.__init__") (mt 33 0))
   (u2:All (fun p:Ml=>Zls K ca2 p.1 p.2.1 (mt p.2.2.2.1 p.2.2.2.2)) mo2)
   (o1a:Yl K Yd (O "Wide")=Wn (Wn (.ref xa1))) (o1b:PySem.W.typeIn K (.ref xa1)=Wn (.type "type")) (o1c:PySem.W.isClsIn K xa1=Wp) (o1d:YU K (.ref xa1) (.type "BaseException")=Wn Wp) (o1e:PySem.W.excIn K xa1 [.type "ValueError",.type "Exception",.type "BaseException",.type "object"] "ValueError.__new__" = Wp) (o1f:YU K (.ref xa1) (.ref xa1)=Wn Wp)
   (zz:All (fun x:Str=>Yl K Yd x=Wn Wo) ZmB)
   (g102:Yl K Yd (O "WIDEST")=Wn (Wn (.int 120 t101)))
   (h107:K.lookup q103=Wn ⟨.type "tuple",r104,.seq #[.str (O "num") t108,.str (O "fn") t109,.str (O "rec") t110] n105,v106⟩)
   (g111:Yl K Yd (O "VALUES")=Wn (Wn (.ref q103)))
   (g113:Yl K Yd (O "BEYOND")=Wn (Wn (.int 1000000 t112)))
   (h125:K.lookup q121=Wn ⟨.type "tuple",r122,.seq #[.int 1 t126,.int 1 t127] n123,v124⟩)
   (h134:K.lookup q130=Wn ⟨.type "tuple",r131,.seq #[.int 2 t135,.int 1 t136] n132,v133⟩)
   (h143:K.lookup q139=Wn ⟨.type "tuple",r140,.seq #[.int 0 t144,.int 2 t145] n141,v142⟩)
   (h152:K.lookup q148=Wn ⟨.type "tuple",r149,.seq #[.int 0 t153,.int 3 t154] n150,v151⟩)
   (h161:K.lookup q157=Wn ⟨.type "tuple",r158,.seq #[.int 0 t162,.int 2 t163] n159,v160⟩)
   (h170:K.lookup q166=Wn ⟨.type "tuple",r167,.seq #[.int 0 t171,.int 2 t172] n168,v169⟩)
   (h179:K.lookup q175=Wn ⟨.type "tuple",r176,.seq #[.int 0 t180,.int 2 t181] n177,v178⟩)
   (h188:K.lookup q184=Wn ⟨.type "tuple",r185,.seq #[.int 0 t189,.int 2 t190] n186,v187⟩)
   (g116:Yl K Yd (O "FORMS")=Wn (Wn (.ref q114)))
   (h117:K.lookup q114=Wn ⟨.type "dict",Wo,.dict #[⟨j119,.str (O "fn") t120,.ref q121⟩,⟨j128,.str (O "rec") t129,.ref q130⟩,⟨j137,.str (O "call") t138,.ref q139⟩,⟨j146,.str (O "if") t147,.ref q148⟩,⟨j155,.str (O "+") t156,.ref q157⟩,⟨j164,.str (O "-") t165,.ref q166⟩,⟨j173,.str (O "*") t174,.ref q175⟩,⟨j182,.str (O "<") t183,.ref q184⟩] e115,#[]⟩)
   (x191:j119=hashStr w (O "fn"))
   (x192:j128=hashStr w (O "rec"))
   (x193:j137=hashStr w (O "call"))
   (x194:j146=hashStr w (O "if"))
   (x195:j155=hashStr w (O "+"))
   (x196:j164=hashStr w (O "-"))
   (x197:j173=hashStr w (O "*"))
   (x198:j182=hashStr w (O "<"))
   (w118:(q114==Ye)=Wq):Md Pr w K mg pg kl:=by
 have D_FORMS:∃ a kvs',mg (O "FORMS")=Wn (.ref a)/\DkK Pr w K a kvs'/\∀ H B,RKs ⟨K,mg⟩ H B (cD.lookup (O "FORMS") |>.getD []) kvs':=by
   refine ⟨q114,[(YD (O "fn"),(.ref q121)),(YD (O "rec"),(.ref q130)),(YD (O "call"),(.ref q139)),(YD (O "if"),(.ref q148)),(YD (O "+"),(.ref q157)),(YD (O "-"),(.ref q166)),(YD (O "*"),(.ref q175)),(YD (O "<"),(.ref q184))],YN X G g116,⟨_,_,_,[(YD (O "fn"),.ref q121),(YD (O "rec"),.ref q130),(YD (O "call"),.ref q139),(YD (O "if"),.ref q148),(YD (O "+"),.ref q157),(YD (O "-"),.ref q166),(YD (O "*"),.ref q175),(YD (O "<"),.ref q184)],h117,⟨rfl,rfl,rfl⟩,rfl,?_,(.cons (Zv _ t120) rfl (.cons (Zv _ t129) rfl (.cons (Zv _ t138) rfl (.cons (Zv _ t147) rfl (.cons (Zv _ t156) rfl (.cons (Zv _ t165) rfl (.cons (Zv _ t174) rfl (.cons (Zv _ t183) rfl .nil)))))))),(by show ([YD (O "fn"),YD (O "rec"),YD (O "call"),YD (O "if"),YD (O "+"),YD (O "-"),YD (O "*"),YD (O "<")]:List Key).Nodup;decide +kernel),(.cons ⟨rfl,Zat⟩ (.cons ⟨rfl,Zat⟩ (.cons ⟨rfl,Zat⟩ (.cons ⟨rfl,Zat⟩ (.cons ⟨rfl,Zat⟩ (.cons ⟨rfl,Zat⟩ (.cons ⟨rfl,Zat⟩ (.cons ⟨rfl,Zat⟩ .nil)))))))),(by show 8<=sizeLine;decide),w118⟩,fun _ _=>(.cons (tp2 h125) (.cons (tp2 h134) (.cons (tp2 h143) (.cons (tp2 h152) (.cons (tp2 h161) (.cons (tp2 h170) (.cons (tp2 h179) (.cons (tp2 h188) .nil))))))))⟩;exact (by
       intro e he;simp only [List.mem_toArray,O2,List.not_mem_nil,or_false] at he;rcases he with rfl|rfl|rfl|rfl|rfl|rfl|rfl|rfl
       . exact ⟨YD (O "fn"),Zv (O "fn") t120,x191⟩
       . exact ⟨YD (O "rec"),Zv (O "rec") t129,x192⟩
       . exact ⟨YD (O "call"),Zv (O "call") t138,x193⟩
       . exact ⟨YD (O "if"),Zv (O "if") t147,x194⟩
       . exact ⟨YD (O "+"),Zv (O "+") t156,x195⟩
       . exact ⟨YD (O "-"),Zv (O "-") t165,x196⟩
       . exact ⟨YD (O "*"),Zv (O "*") t174,x197⟩
       . exact ⟨YD (O "<"),Zv (O "<") t183,x198⟩
     )
 refine ⟨tb0,fun x kvs hx=>?_,fun x d hx=>?_,?_,fun x fd hx=>?_,?_,?_,?_,?_,?_,?_⟩
 . have hm:(x,kvs)∈cD:=lookup_mem hx;have e:(x,kvs)=((O "FORMS"),(cD.lookup (O "FORMS") |>.getD [])):=by
     simp only [cD,O2,List.not_mem_nil,or_false] at hm;exact hm
   cases e;exact D_FORMS
 . have hm:(x,d)∈cG:=lookup_mem hx;have all:All (fun p:Str×D=>∃ v u,mg p.1=Wn u/\RelV v u/\∀ H B,RD ⟨K,mg⟩ H B p.2 v) cG:=⟨⟨(.int 120),_,YN X G g102,ZeO,fun _ _=>(.int _)⟩,⟨(.ref q103),_,YN X G g111,Zat,fun _ _=>(.tup (Zsc (vs:=[(.str (O "num")),(.str (O "fn")),(.str (O "rec"))]) h107 (by show 3<=sizeLine;decide) (.cons Zgw (.cons Zgw (.cons Zgw .nil)))) (.cons (.str _ (by decide +kernel)) (.cons (.str _ (by decide +kernel)) (.cons (.str _ (by decide +kernel)) .nil))))⟩,⟨(.int 1000000),_,YN X G g113,ZeO,fun _ _=>(.int _)⟩,⟨.ref q114,_,YN X G g116,rfl,fun _ _=>.kd (YN X G g116)⟩,trivial⟩;exact all.mem _ hm
 . exact (Zjw X G zz).mem
 . exact (Zmn X G dd kd).mem _ (lookup_mem hx)
 . have all:All (fun C=>∃ a,mg C=Wn (.ref a)/\Cls K a/\∀ f∈kl.ats,ZaV K a f) kl.cs:=⟨⟨ca1,YN X G y1a,y1b,n1.mem⟩,⟨ca2,YN X G y2a,y2b,n2.mem⟩,trivial⟩
   exact all.mem
 . exact (show All _ kl.ms from ((Ziv (P:=pg) X G y1a y1b u1 km1 kk1).app (Ziv (P:=pg) X G y2a y2b u2 km2 kk2))).mem
 . have all:All (fun C:Str=>∃ a f fdd fd st q,mg C=Wn (.ref a)/\Mk K a f/\pg.look (mnm C (O "__init__"))=Wn fd/\BodyOk K kl (pg.tb.map (·.1)) (O "__init__") q fd st f fdd) kl.is:=⟨ZoT X G y1a y1m y1k i1 ki1 (by kernel_rfl),ZoT X G y2a y2m y2k i2 ki2 (by kernel_rfl),trivial⟩
   exact all.mem
 . have all:All (fun C:Str=>∃ a,mg C=Wn (.ref a)/\XOk K a) kl.xs:=⟨⟨xa1,YN X G o1a,⟨⟨o1b,L2.isSome_of o1c,o1d⟩,o1e,o1f⟩⟩,trivial⟩
   exact all.mem
 . have all:All (fun p:Str×Str=>∃ a b,mg p.1=Wn (.ref a)/\mg p.2=Wn (.ref b)/\XAs K a b) kl.xa:=trivial;exact all.mem
 . have all:All (fun p:Str×Str×Bool=>∃ b v,mg p.1=Wn (.ref b)/\L2.ClV mg p.2.1 v/\PySem.W.kitOne K (.ref b) v=Wn p.2.2) kl.xi:=trivial;exact all.mem
end K42
end
section
set_option maxHeartbeats 4000000
open PySem PySem.W PyProof.Rows
local macro_rules|`(tactic| wtm_at "al")=>`(tactic| repeat' first|exact trivial|refine' And.intro ?_ ?_)
local macro_rules|`(tactic| wtm_at "dg")=>`(tactic| (refine' ⟨_,_,?na,L2.Zpg ?l ?c ?k⟩;(case na=>k_is);(case l=>k_is);(case c=>k_is);(case k=>k_is)))
local macro_rules|`(tactic| wtm_at "mg")=>`(tactic| (refine' ⟨_,_,?na,?f,?k,L2.Zpg ?l ?c ?kk⟩;(case na=>k_is);(case f=>k_is);(case l=>k_is);(case c=>k_is);(case k=>k_is);(case kk=>k_is)))
set_option maxRecDepth 100000 in
set_option maxHeartbeats 0 in
theorem PySem.Challenge.cw_samestride_k42_graph_one_cell_anew_holds : PySem.Challenge.rw_samestride_k42_graph_one_cell_anew.Holds := by
 refine K42hd ?_
 k_fill
 refine IV.Zu1 (l:=PySem.Challenge.rw_samestride_k42_graph_one_cell_anew) (P:=K42.pg) 100 rfl rfl rfl ⟨rfl,by decide,by decide,rfl⟩ (kl:=K42.kl) (λw h Y=>PySem.W.kIn_of Y) K42.Zt3 rfl K42.runs ?MM0
 case MM0=>
  intro w mg h KX G;refine' K42.md KX G ?tb0 ?dd ?y1a ?y1b ?n1 ?y1m ?y1k ?i1 ?u1 ?y2a ?y2b ?n2 ?y2m ?y2k ?i2 ?u2 ?o1a ?o1b ?o1c ?o1d ?o1e ?o1f ?zz ?g102 ?h107 ?g111 ?g113 ?h125 ?h134 ?h143 ?h152 ?h161 ?h170 ?h179 ?h188 ?g116 ?h117 ?x191 ?x192 ?x193 ?x194 ?x195 ?x196 ?x197 ?x198 ?w118
  (case tb0=>(first|k_is|kernel_rfl|decide +kernel))
  (case y1a=>k_is)
  (case y1b=>(refine⟨?_,?_,?_,?_⟩<;>k_is))
  (case n1=>(wtm_at "al";all_goals (dsimp only;k_is)))
  (case y1m=>k_is)
  (case y1k=>k_is)
  (case i1=>wtm_at "mg")
  (case u1=>(wtm_at "al";all_goals wtm_at "mg"))
  (case y2a=>k_is)
  (case y2b=>(refine⟨?_,?_,?_,?_⟩<;>k_is))
  (case n2=>(wtm_at "al";all_goals (dsimp only;k_is)))
  (case y2m=>k_is)
  (case y2k=>k_is)
  (case i2=>wtm_at "mg")
  (case u2=>(wtm_at "al";all_goals wtm_at "mg"))
  (case o1a=>k_is)
  (case o1b=>k_is)
  (case o1c=>k_is)
  (case o1d=>k_is)
  (case o1e=>k_exc)
  (case o1f=>k_is)
  (case dd=>(wtm_at "al";all_goals wtm_at "dg"))
  (case zz=>(wtm_at "al";all_goals (dsimp only;k_is)))
  (case g102=>k_is)
  (case g111=>k_is)
  (case h107=>k_is)
  (case g113=>k_is)
  (case g116=>k_is)
  (case h117=>k_is)
  (case h125=>k_is)
  (case h134=>k_is)
  (case h143=>k_is)
  (case h152=>k_is)
  (case h161=>k_is)
  (case h170=>k_is)
  (case h179=>k_is)
  (case h188=>k_is)
  (case x191=>(first|rfl|k_is|fail))
  (case x192=>(first|rfl|k_is|fail))
  (case x193=>(first|rfl|k_is|fail))
  (case x194=>(first|rfl|k_is|fail))
  (case x195=>(first|rfl|k_is|fail))
  (case x196=>(first|rfl|k_is|fail))
  (case x197=>(first|rfl|k_is|fail))
  (case x198=>(first|rfl|k_is|fail))
  (case w118=>rfl)
end
